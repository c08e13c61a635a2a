/- The document's modulus (63), single (65), rows (58), Name (17), Kind (19). -/
import Derived.Test.YtdhochjcigingaaDoorStren
import Derived.Great.BuildSlice
namespace Go.Proofs.YtdhochjcigingaaDoor
open Go.RowKit
set_option linter.all false

def modS (b : Int) : Int := if b < 512 ∨ 16384 < b then 0 else longS b
theorem refmodulus_any (b : Int) (w : World) : Calls Tryd.prog 63 #[.int .i64 b] w fun e w' => e = .returned (.int .i64 (modS b)) ∧ w = w' := by
  unfold modS longS
  by_cases h0 : b < 512
  · go_enter Tryd.func63, Tryd.ntmps63
    go_wp2_with fail
    go_ret
    exact ⟨ret_i (by simp [h0]), rfl⟩
  by_cases hh : 16384 < b
  · go_enter Tryd.func63, Tryd.ntmps63
    go_wp2_with fail
    go_ret
    exact ⟨ret_i (by simp [hh]), rfl⟩
  rw [if_neg (by omega)]
  by_cases h1 : b < 1024
  · go_enter Tryd.func63, Tryd.ntmps63
    go_wp2_with fail
    go_ret
    exact ⟨ret_i (by simp [h1]), rfl⟩
  by_cases h2 : b < 2048
  · go_enter Tryd.func63, Tryd.ntmps63
    go_wp2_with fail
    go_ret
    exact ⟨ret_i (by simp [h1, h2]), rfl⟩
  by_cases h3 : b < 3072
  · go_enter Tryd.func63, Tryd.ntmps63
    go_wp2_with fail
    go_ret
    exact ⟨ret_i (by simp [h1, h2, h3]), rfl⟩
  by_cases h4 : b < 7680
  · go_enter Tryd.func63, Tryd.ntmps63
    go_wp2_with fail
    go_ret
    exact ⟨ret_i (by simp [h1, h2, h3, h4]), rfl⟩
  by_cases h5 : b < 15360
  · go_enter Tryd.func63, Tryd.ntmps63
    go_wp2_with fail
    go_ret
    exact ⟨ret_i (by simp [h1, h2, h3, h4, h5]), rfl⟩
  · go_enter Tryd.func63, Tryd.ntmps63
    go_wp2_with fail
    go_ret
    exact ⟨ret_i (by simp [h1, h2, h3, h4, h5]), rfl⟩

theorem refsingle_in (k : Nat) (hk : k < 23) (w : World) : Calls Tryd.prog 65 #[.int .i64 k] w fun e w' => e = .returned (.int .i64 (ast k)) ∧ w = w' := by
  have hc : k = 0 ∨ k = 1 ∨ k = 2 ∨ k = 3 ∨ k = 4 ∨ k = 5 ∨ k = 6 ∨ k = 7 ∨ k = 8 ∨ k = 9 ∨ k = 10 ∨ k = 11 ∨ k = 12 ∨ k = 13 ∨ k = 14 ∨ k = 15 ∨ k = 16 ∨ k = 17 ∨ k = 18 ∨ k = 19 ∨ k = 20 ∨ k = 21 ∨ k = 22 := by omega
  clear hk
  rcases hc with rfl | rfl | rfl | rfl | rfl | rfl | rfl | rfl | rfl | rfl | rfl | rfl | rfl | rfl | rfl | rfl | rfl | rfl | rfl | rfl | rfl | rfl | rfl
  all_goals
    go_enter Tryd.func65, Tryd.ntmps65
    go_wp2_with fail
    go_ret
    exact ⟨rfl, rfl⟩
theorem refsingle_out (i : Int) (h : ¬ (0 ≤ i ∧ i < 23)) (w : World) : Calls Tryd.prog 65 #[.int .i64 i] w fun e w' => e = .returned (.int .i64 0) ∧ w = w' := by
  have k1 : (i == 1) = false := by simp; omega
  have k2 : (i == 2) = false := by simp; omega
  have k3 : (i == 3) = false := by simp; omega
  have k4 : (i == 4) = false := by simp; omega
  have k8 : (i == 8) = false := by simp; omega
  have k18 : (i == 18) = false := by simp; omega
  have k19 : (i == 19) = false := by simp; omega
  have k20 : (i == 20) = false := by simp; omega
  have k21 : (i == 21) = false := by simp; omega
  have k22 : (i == 22) = false := by simp; omega
  clear h
  go_enter Tryd.func65, Tryd.ntmps65
  go_wp2_with fail
  go_ret
  exact ⟨rfl, rfl⟩
theorem refsingle_any (i : Int) (w : World) : Calls Tryd.prog 65 #[.int .i64 i] w fun e w' => e = .returned (.int .i64 (asI i)) ∧ w = w' := by
  unfold asI
  by_cases hi : 0 ≤ i ∧ i < 23
  · rw [if_pos hi]
    obtain ⟨n, rfl⟩ : ∃ n : Nat, i = n := ⟨i.toNat, by omega⟩
    rw [Int.toNat_natCast]
    exact refsingle_in n (by omega) w
  · rw [if_neg hi]
    exact refsingle_out i hi w
end Go.Proofs.YtdhochjcigingaaDoor
