/- catalog.algorithm, only, long, isCurve, ofSize, Strength, Valid. -/
import Derived.Test.YtdhochjcigingaaDoorBase
import Derived.Deep.QuietTactic
import Derived.BigQuiet
import Derived.Deep.RegionHeld3
import Derived.Deep.Cut
namespace Go.Proofs.YtdhochjcigingaaDoor
open Go.RowKit
set_option linter.all false

theorem ret_i {k : IntKind} {a b : Int} (h : a = b) : Ending.returned (.int k a) = .returned (.int k b) := by rw [h]
theorem ret_b {a b : Bool} (h : a = b) : Ending.returned (.bool a) = .returned (.bool b) := by rw [h]
theorem val_i {k : IntKind} {a b : Int} (h : a = b) : Value.int k a = .int k b := by rw [h]

theorem only_yes (s : Int) (w : World) : Calls Tryd.prog 59 #[.bool true, .int .i64 s] w fun e w' => e = .returned (.int .i64 s) ∧ w = w' := by
  go_enter Tryd.func59, Tryd.ntmps59
  go_wp2_with fail
  go_ret
  exact ⟨rfl, rfl⟩
theorem only_no (s : Int) (w : World) : Calls Tryd.prog 59 #[.bool false, .int .i64 s] w fun e w' => e = .returned (.int .i64 0) ∧ w = w' := by
  go_enter Tryd.func59, Tryd.ntmps59
  go_wp2_with fail
  go_ret
  exact ⟨rfl, rfl⟩
theorem only_any (b : Bool) (s : Int) (w : World) : Calls Tryd.prog 59 #[.bool b, .int .i64 s] w fun e w' => e = .returned (.int .i64 (if b then s else 0)) ∧ w = w' := by
  cases b
  · exact only_no s w
  · exact only_yes s w

def longS (b : Int) : Int := if b < 1024 then 56 else if b < 2048 then 80 else if b < 3072 then 112 else if b < 7680 then 128 else if b < 15360 then 192 else 256
theorem long_any (b : Int) (w : World) : Calls Tryd.prog 60 #[.int .i64 b] w fun e w' => e = .returned (.int .i64 (longS b)) ∧ w = w' := by
  unfold longS
  by_cases h1 : b < 1024
  · go_enter Tryd.func60, Tryd.ntmps60
    go_wp2_with fail
    go_ret
    exact ⟨ret_i (by simp [h1]), rfl⟩
  by_cases h2 : b < 2048
  · go_enter Tryd.func60, Tryd.ntmps60
    go_wp2_with fail
    go_ret
    exact ⟨ret_i (by simp [h1, h2]), rfl⟩
  by_cases h3 : b < 3072
  · go_enter Tryd.func60, Tryd.ntmps60
    go_wp2_with fail
    go_ret
    exact ⟨ret_i (by simp [h1, h2, h3]), rfl⟩
  by_cases h4 : b < 7680
  · go_enter Tryd.func60, Tryd.ntmps60
    go_wp2_with fail
    go_ret
    exact ⟨ret_i (by simp [h1, h2, h3, h4]), rfl⟩
  by_cases h5 : b < 15360
  · go_enter Tryd.func60, Tryd.ntmps60
    go_wp2_with fail
    go_ret
    exact ⟨ret_i (by simp [h1, h2, h3, h4, h5]), rfl⟩
  · go_enter Tryd.func60, Tryd.ntmps60
    go_wp2_with fail
    go_ret
    exact ⟨ret_i (by simp [h1, h2, h3, h4, h5]), rfl⟩

def curveB (b : Int) : Bool := b == 160 || b == 224 || b == 256 || b == 384 || b == 521
theorem curve_any (b : Int) (w : World) : Calls Tryd.prog 61 #[.int .i64 b] w fun e w' => e = .returned (.bool (curveB b)) ∧ w = w' := by
  unfold curveB
  by_cases h1 : b = 160
  · subst h1; go_enter Tryd.func61, Tryd.ntmps61
    go_wp2_with fail
    go_ret
    exact ⟨rfl, rfl⟩
  by_cases h2 : b = 224
  · subst h2; go_enter Tryd.func61, Tryd.ntmps61
    go_wp2_with fail
    go_ret
    exact ⟨rfl, rfl⟩
  by_cases h3 : b = 256
  · subst h3; go_enter Tryd.func61, Tryd.ntmps61
    go_wp2_with fail
    go_ret
    exact ⟨rfl, rfl⟩
  by_cases h4 : b = 384
  · subst h4; go_enter Tryd.func61, Tryd.ntmps61
    go_wp2_with fail
    go_ret
    exact ⟨rfl, rfl⟩
  by_cases h5 : b = 521
  · subst h5; go_enter Tryd.func61, Tryd.ntmps61
    go_wp2_with fail
    go_ret
    exact ⟨rfl, rfl⟩
  · have k1 : (b == 160) = false := by simpa using h1
    have k2 : (b == 224) = false := by simpa using h2
    have k3 : (b == 256) = false := by simpa using h3
    have k4 : (b == 384) = false := by simpa using h4
    have k5 : (b == 521) = false := by simpa using h5
    go_enter Tryd.func61, Tryd.ntmps61
    go_wp2_with fail
    go_ret
    exact ⟨ret_b (by simp [k1, k2, k3, k4, k5]), rfl⟩

/-- catalog.algorithm: the row of a number. -/
def AlgR (w : World) (n : List UInt8) (k s : Int) (e : Ending) (w' : World) : Prop := e = .returned (.agg #[.string ⟨n.toArray⟩, .int .u8 k, .int .u16 s]) ∧ Below w.heap.size w w'

theorem algorithm_in {m : Int} (i : Nat) (hi : i < 23) (w : World) (h : Tabs m w) : Calls Tryd.prog 57 #[.int .i64 i] w (AlgR w (anm i) (akd i) (ast i)) := by
  obtain ⟨c0, c1, c2⟩ := (h.alloc (.cells #[.string ⟨#[]⟩, .int .u8 0, .int .u16 0] 86)).alg_at i hi
  have hi0 : (0 : Int) ≤ (i : Int) := by omega
  have hi1 : (i : Int) < 23 := by omega
  go_enter Tryd.func57, Tryd.ntmps57
  go_wp2_with fail
  refine bodyPost_ret (v := .agg #[.string ⟨(anm i).toArray⟩, .int .u8 (akd i), .int .u16 (ast i)]) (by simp [results, Tryd.results57, go_sem]) rfl ⟨rfl, ?_⟩
  first | exact (((((Below.refl _ _).alloc (Nat.le_refl _) _).setCell (by simp) _).setCell (by simp) _).setCell (by simp) _) | exact (Below.refl _ _).alloc (Nat.le_refl _) _

theorem algorithm_out {m : Int} (i : Int) (hi : i < 0 ∨ 23 ≤ i) (w : World) : Calls Tryd.prog 57 #[.int .i64 i] w (AlgR w [] 0 0) := by
  rcases hi with hi | hi
  · go_enter Tryd.func57, Tryd.ntmps57
    go_wp2_with fail
    refine bodyPost_ret (v := .agg #[.string ⟨#[]⟩, .int .u8 0, .int .u16 0]) (by simp [results, Tryd.results57, go_sem]) rfl ⟨rfl, ?_⟩
    exact (Below.refl _ _).alloc (Nat.le_refl _) _
  · have h' : ¬ i < 0 := by omega
    go_enter Tryd.func57, Tryd.ntmps57
    go_wp2_with fail
    refine bodyPost_ret (v := .agg #[.string ⟨#[]⟩, .int .u8 0, .int .u16 0]) (by simp [results, Tryd.results57, go_sem]) rfl ⟨rfl, ?_⟩
    exact (Below.refl _ _).alloc (Nat.le_refl _) _

/-- The row of any number. -/
def anI (i : Int) : List UInt8 := if 0 ≤ i ∧ i < 23 then anm i.toNat else []
def akI (i : Int) : Int := if 0 ≤ i ∧ i < 23 then akd i.toNat else 0
def asI (i : Int) : Int := if 0 ≤ i ∧ i < 23 then ast i.toNat else 0
theorem algorithm_any {m : Int} (i : Int) (w : World) (h : Tabs m w) : Calls Tryd.prog 57 #[.int .i64 i] w (AlgR w (anI i) (akI i) (asI i)) := by
  unfold anI akI asI
  by_cases hi : 0 ≤ i ∧ i < 23
  · rw [if_pos hi, if_pos hi, if_pos hi]
    obtain ⟨n, rfl⟩ : ∃ n : Nat, i = n := ⟨i.toNat, by omega⟩
    rw [Int.toNat_natCast]
    exact algorithm_in n (by omega) w h
  · rw [if_neg hi, if_neg hi, if_neg hi]
    exact algorithm_out (m := m) i (by omega) w
end Go.Proofs.YtdhochjcigingaaDoor
