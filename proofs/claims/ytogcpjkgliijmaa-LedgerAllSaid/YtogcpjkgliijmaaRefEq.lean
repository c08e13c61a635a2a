/- The reference's Differ and Same of equal lists. -/
import Derived.Test.YtogcpjkgliijmaaDiffer
namespace Go.Proofs.Ytogcpjkgliijmaa
open Go.RowKit

theorem neq_same' (x0 x1 x2 x3 x4 : Int) (W : World) : (binOp .neq 27 (.agg #[.int .i64 x0, .int .i64 x1, .int .i64 x2, .int .i64 x3, .int .i64 x4]) (.agg #[.int .i64 x0, .int .i64 x1, .int .i64 x2, .int .i64 x3, .int .i64 x4])).run Try.prog W = .ok (.bool false) W := by
  go_simp

set_option maxHeartbeats 4000000 in
theorem refdiffer_same (w : World) (pa pb : Option Addr) (ca cb : Nat) (l : List Dec) (ha : Reads w pa l) (hb : Reads w pb l) (hl : l.length ≤ 1000) :
    Calls Try.prog 26 #[.agg #[.slice pa l.length ca], .agg #[.slice pb l.length cb]] w fun e w' => e = .returned (.tuple #[.int .i64 0, .bool false]) ∧ Below w.heap.size w w' := by
  have hW : Below w.heap.size w ((w.alloc (.cells #[.slice pa l.length ca] 25)).alloc (.cells #[.slice pb l.length cb] 25)) := ((Below.refl _ _).alloc (Nat.le_refl _) _).alloc (by simp) _
  have hW0 : ((w.alloc (.cells #[.slice pa l.length ca] 25)).alloc (.cells #[.slice pb l.length cb] 25)).cell? ⟨w.heap.size, 0, none⟩ = some (.slice pa l.length ca) := by rw [World.cell?_alloc_lt _ _ _ (by simp)]; simp
  have hW1 : ((w.alloc (.cells #[.slice pa l.length ca] 25)).alloc (.cells #[.slice pb l.length cb] 25)).cell? ⟨w.heap.size + 1, 0, none⟩ = some (.slice pb l.length cb) := by simp
  obtain ⟨W, hWe⟩ : ∃ W, W = (w.alloc (.cells #[.slice pa l.length ca] 25)).alloc (.cells #[.slice pb l.length cb] 25) := ⟨_, rfl⟩
  have HA := Lib.hid (ha.mono hW); have HB := Lib.hid (hb.mono hW); have HW := Lib.hid hW; have HW0 := Lib.hid hW0; have HW1 := Lib.hid hW1
  rw [← hWe] at HA HB HW HW0 HW1
  have HWE := Lib.hid hWe
  clear ha hb hW hW0 hW1 hWe
  go_enter Try.func26, Try.ntmps26
  go_wp2_with fail
  rw [← HWE.out]
  go_loopw [4, 5, 6] (fun s4 s5 i wr => s4 = .int .i64 0 ∧ s5 = .bool false ∧ ∃ k : Nat, k ≤ l.length ∧ i = .int .i64 k ∧ ∃ n, wr = W.drewN n) (fun _ _ i _ => l.length - (intOf i).toNat)
  case atStart => exact ⟨rfl, rfl, 0, Nat.zero_le _, rfl, 0, rfl⟩
  case round =>
    obtain ⟨rfl, rfl, k, hk, rfl, n, rfl⟩ := hrel
    have h0 := HW0.out
    have h1 := HW1.out
    by_cases hkl : k < l.length
    · rcases HA.out with h | ⟨b, o, hp, ra⟩
      · subst h; simp at hkl
      rcases HB.out with h | ⟨b2, o2, hp2, rb⟩
      · subst h; simp at hkl
      subst hp; subst hp2
      obtain ⟨a0, a1, a2, a3, a4⟩ := ra k hkl
      obtain ⟨b0, b1, b2', b3, b4⟩ := rb k hkl
      have hi0 : (0 : Int) ≤ (k : Int) := by omega
      have hi1 : (k : Int) < (l.length : Int) := by omega
      have d1 : decide (l.length ≤ k) = false := by rw [decide_eq_false_iff_not]; omega
      have d2 : decide (k < l.length) = true := by rw [decide_eq_true_eq]; omega
      clear ra rb
      go_wp2_with fail
      go_quiet (fail)
      go_wp2_with fail
      go_roundw
      case rel => exact ⟨rfl, rfl, k + 1, by omega, by go_num, _, rfl⟩
      case measure => simp [intOf]; omega
    · have d2 : decide (k < l.length) = false := by rw [decide_eq_false_iff_not]; omega
      go_wp2_with fail
      go_ret2
      exact ⟨rfl, below_drewN HW.out _⟩

set_option maxHeartbeats 1000000 in
theorem refsame_same (w : World) (pa pb : Option Addr) (ca cb : Nat) (l : List Dec) (ha : Reads w pa l) (hb : Reads w pb l) (hl : l.length ≤ 1000) :
    Calls Try.prog 21 #[.agg #[.slice pa l.length ca], .agg #[.slice pb l.length cb]] w fun e w' => e = .returned (.bool true) ∧ Below w.heap.size w w' := by
  have hW : Below w.heap.size w ((w.alloc (.cells #[.slice pa l.length ca] 25)).alloc (.cells #[.slice pb l.length cb] 25)) := ((Below.refl _ _).alloc (Nat.le_refl _) _).alloc (by simp) _
  have cE := refdiffer_same ((w.alloc (.cells #[.slice pa l.length ca] 25)).alloc (.cells #[.slice pb l.length cb] 25)) pa pb ca cb l (ha.mono hW) (hb.mono hW) hl
  have CE := Lib.hid cE; have HW := Lib.hid hW; clear cE hW ha hb
  go_enter Try.func21, Try.ntmps21
  go_wp2_with fail
  refine CE.out.mono ?_
  rintro e w1 ⟨rfl, hb1⟩
  go_wp2_with fail
  go_ret
  exact ⟨rfl, below_step HW.out hb1⟩
end Go.Proofs.Ytogcpjkgliijmaa
