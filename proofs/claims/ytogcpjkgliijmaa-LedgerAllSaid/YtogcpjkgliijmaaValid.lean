/- Which decisions are valid: ledger.isValid. -/
import Derived.Test.YtogcpjkgliijmaaRows
import Derived.WalkKit
import Derived.WalkSpells
import Derived.WalkLawsBesides
import Derived.BigQuiet
import Derived.Deep.QuietTactic
import Derived.Lib.Hide
import Derived.Outline
import Derived.WalkSmall
import Derived.RegionTactic
import Derived.BigRegion
import Derived.Below
namespace Go.Proofs.Ytogcpjkgliijmaa
open Go.RowKit

def withinB (n lo hi : Int) : Bool := decide (lo ≤ n) && decide (n ≤ hi)
def validB (a b c d e : Int) : Bool := withinB a 0 40000 && (withinB b 0 400 && (withinB c 1 5 && (withinB d 0 40 && withinB e 0 1)))

theorem withinB_true {n lo hi : Int} (h : withinB n lo hi = true) : lo ≤ n ∧ n ≤ hi := by simpa [withinB] using h
theorem validB_true {a b c d e : Int} (h : validB a b c d e = true) : (0 ≤ a ∧ a ≤ 40000) ∧ (0 ≤ b ∧ b ≤ 400) ∧ (1 ≤ c ∧ c ≤ 5) ∧ (0 ≤ d ∧ d ≤ 40) ∧ (0 ≤ e ∧ e ≤ 1) := by
  simp only [validB, Bool.and_eq_true] at h
  exact ⟨withinB_true h.1, withinB_true h.2.1, withinB_true h.2.2.1, withinB_true h.2.2.2.1, withinB_true h.2.2.2.2⟩
theorem validB_mk {a b c d e : Int} (h : (0 ≤ a ∧ a ≤ 40000) ∧ (0 ≤ b ∧ b ≤ 400) ∧ (1 ≤ c ∧ c ≤ 5) ∧ (0 ≤ d ∧ d ≤ 40) ∧ (0 ≤ e ∧ e ≤ 1)) : validB a b c d e = true := by
  simp only [validB, withinB, Bool.and_eq_true, decide_eq_true_eq]; exact h

set_option maxHeartbeats 400000 in
theorem within_any (n lo hi : Int) (w : World) :
    Calls Try.prog 71 #[.int .i64 n, .int .i64 lo, .int .i64 hi] w fun e w' => e = .returned (.bool (withinB n lo hi)) ∧ w' = w := by
  unfold withinB
  by_cases h1 : lo ≤ n
  · by_cases h2 : n ≤ hi
    · go_enter Try.func71, Try.ntmps71
      go_wp2
      go_ret
      exact ⟨by simp [h1, h2], rfl⟩
    · have h2' : decide (n ≤ hi) = false := by simpa using h2
      go_enter Try.func71, Try.ntmps71
      go_wp2
      go_ret
      exact ⟨by simp, rfl⟩
  · have h1' : decide (lo ≤ n) = false := by simpa using h1
    go_enter Try.func71, Try.ntmps71
    go_wp2
    go_ret
    exact ⟨by simp, rfl⟩

set_option maxHeartbeats 1000000 in
theorem isValid_any (a b c d e : Int) (w : World) :
    Calls Try.prog 68 #[.agg #[.int .i64 a, .int .i64 b, .int .i64 c, .int .i64 d, .int .i64 e]] w fun r w' => r = .returned (.bool (validB a b c d e)) ∧ Below w.heap.size w w' := by
  have key : ∀ v1 v2 v3 v4 v5 : Bool, withinB a 0 40000 = v1 → withinB b 0 400 = v2 → withinB c 1 5 = v3 → withinB d 0 40 = v4 → withinB e 0 1 = v5 →
      Calls Try.prog 68 #[.agg #[.int .i64 a, .int .i64 b, .int .i64 c, .int .i64 d, .int .i64 e]] w fun r w' => r = .returned (.bool (v1 && (v2 && (v3 && (v4 && v5))))) ∧ Below w.heap.size w w' := by
    intro v1 v2 v3 v4 v5 h1 h2 h3 h4 h5
    have c1 := fun W => within_any a 0 40000 W
    have c2 := fun W => within_any b 0 400 W
    have c3 := fun W => within_any c 1 5 W
    have c4 := fun W => within_any d 0 40 W
    have c5 := fun W => within_any e 0 1 W
    rw [h1] at c1; rw [h2] at c2; rw [h3] at c3; rw [h4] at c4; rw [h5] at c5
    clear h1 h2 h3 h4 h5
    have C1 := Lib.hid c1; have C2 := Lib.hid c2; have C3 := Lib.hid c3; have C4 := Lib.hid c4; have C5 := Lib.hid c5
    clear c1 c2 c3 c4 c5
    cases v1
    · go_enter Try.func68, Try.ntmps68
      go_wp2_with fail
      refine (C1.out _).mono ?_; rintro r w1 ⟨rfl, rfl⟩
      go_wp2_with fail
      go_ret
      exact ⟨rfl, (Below.refl _ _).alloc (Nat.le_refl _) _⟩
    cases v2
    · go_enter Try.func68, Try.ntmps68
      go_wp2_with fail
      refine (C1.out _).mono ?_; rintro r w1 ⟨rfl, rfl⟩
      go_wp2_with fail
      refine (C2.out _).mono ?_; rintro r w1 ⟨rfl, rfl⟩
      go_wp2_with fail
      go_ret
      exact ⟨rfl, (Below.refl _ _).alloc (Nat.le_refl _) _⟩
    cases v3
    · go_enter Try.func68, Try.ntmps68
      go_wp2_with fail
      refine (C1.out _).mono ?_; rintro r w1 ⟨rfl, rfl⟩
      go_wp2_with fail
      refine (C2.out _).mono ?_; rintro r w1 ⟨rfl, rfl⟩
      go_wp2_with fail
      refine (C3.out _).mono ?_; rintro r w1 ⟨rfl, rfl⟩
      go_wp2_with fail
      go_ret
      exact ⟨rfl, (Below.refl _ _).alloc (Nat.le_refl _) _⟩
    cases v4
    · go_enter Try.func68, Try.ntmps68
      go_wp2_with fail
      refine (C1.out _).mono ?_; rintro r w1 ⟨rfl, rfl⟩
      go_wp2_with fail
      refine (C2.out _).mono ?_; rintro r w1 ⟨rfl, rfl⟩
      go_wp2_with fail
      refine (C3.out _).mono ?_; rintro r w1 ⟨rfl, rfl⟩
      go_wp2_with fail
      refine (C4.out _).mono ?_; rintro r w1 ⟨rfl, rfl⟩
      go_wp2_with fail
      go_ret
      exact ⟨rfl, (Below.refl _ _).alloc (Nat.le_refl _) _⟩
    · go_enter Try.func68, Try.ntmps68
      go_wp2_with fail
      refine (C1.out _).mono ?_; rintro r w1 ⟨rfl, rfl⟩
      go_wp2_with fail
      refine (C2.out _).mono ?_; rintro r w1 ⟨rfl, rfl⟩
      go_wp2_with fail
      refine (C3.out _).mono ?_; rintro r w1 ⟨rfl, rfl⟩
      go_wp2_with fail
      refine (C4.out _).mono ?_; rintro r w1 ⟨rfl, rfl⟩
      go_wp2_with fail
      refine (C5.out _).mono ?_; rintro r w1 ⟨rfl, rfl⟩
      go_wp2_with fail
      go_ret
      exact ⟨rfl, (Below.refl _ _).alloc (Nat.le_refl _) _⟩
  exact key _ _ _ _ _ rfl rfl rfl rfl rfl
end Go.Proofs.Ytogcpjkgliijmaa
