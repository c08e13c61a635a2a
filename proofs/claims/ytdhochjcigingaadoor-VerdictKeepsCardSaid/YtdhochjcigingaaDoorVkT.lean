/- verdict.turns of the sanity check's policy. -/
import Derived.Test.YtdhochjcigingaaDoorVkS
namespace Go.Proofs.YtdhochjcigingaaDoor
open Go.RowKit Go.Sort
set_option linter.all false

theorem turns1 (d : Int) (w : World) : Calls Tryd.prog 113 #[.int .i64 d] w fun e w' => e = .returned (.bool (decide (40000 < d))) ∧ w = w' := by
  by_cases h : 40000 < d
  · have d1 : decide (40000 < d) = true := decide_eq_true h
    rw [d1]
    go_enter Tryd.func113, Tryd.ntmps113
    go_wp2
    go_ret
    exact ⟨rfl, rfl⟩
  · have d1 : decide (40000 < d) = false := decide_eq_false h
    rw [d1]
    go_enter Tryd.func113, Tryd.ntmps113
    go_wp2
    go_ret
    exact ⟨rfl, rfl⟩

/-- Three numbers at g. -/
def At3 (W : World) (g : Nat) (x y z : Int) : Prop :=
  (W.cell? ⟨g, 0, none⟩ = some (.int .i64 x) ∧ W.cell? ⟨g, 1, none⟩ = some (.int .i64 y) ∧ W.cell? ⟨g, 2, none⟩ = some (.int .i64 z)) ∧ W.frozen? ⟨g, 2, none⟩ = false

def I3Rel (w : World) (iv : Value) (wr : World) : Prop := ∃ k : Nat, iv = .int .i64 (k : Int) ∧ k ≤ 2 ∧ wr = w

set_option maxRecDepth 100000 in
set_option maxHeartbeats 2000000 in
theorem index3 (g cap : Nat) (w : World) (h : At3 w g 0 9 40001) : Calls Tryd.prog 135 #[.slice (some ⟨g, 0, none⟩) 3 cap, .func (.func 113) #[] #[]] w fun e w' => e = .returned (.int .i64 2) ∧ w = w' := by
  obtain ⟨⟨c0, c1, c2⟩, f2⟩ := h
  have CT := Lib.hid turns1
  go_enter Tryd.func135, Tryd.ntmps135
  go_wp2_with fail
  obtain ⟨wo, rfl⟩ : ∃ wo : World, wo = w := ⟨_, rfl⟩
  go_loopw [5, 8] (fun _ iv wr => I3Rel wo iv wr) (fun _ iv _ => 2 - (intOf iv).toNat)
  case atStart => exact ⟨0, rfl, by omega, rfl⟩
  case round =>
    obtain ⟨k, rfl, hk, rfl⟩ := hrel
    have hk3 : k = 0 ∨ k = 1 ∨ k = 2 := by omega
    rcases hk3 with rfl | rfl | rfl
    · have cc := fun W => CT.out 0 W
      rw [show decide ((40000 : Int) < 0) = false from by decide] at cc
      have CC := Lib.hid cc; clear cc
      go_wp2_with (go_at_call 113; refine (CC.out _).mono ?_; rintro e w1 ⟨rfl, rfl⟩)
      go_roundw
      case rel => exact ⟨1, by go_num, by omega, rfl⟩
      case measure => simp [intOf]
    · have cc := fun W => CT.out 9 W
      rw [show decide ((40000 : Int) < 9) = false from by decide] at cc
      have CC := Lib.hid cc; clear cc
      go_wp2_with (go_at_call 113; refine (CC.out _).mono ?_; rintro e w1 ⟨rfl, rfl⟩)
      go_roundw
      case rel => exact ⟨2, by go_num, by omega, rfl⟩
      case measure => simp [intOf]
    · have cc := fun W => CT.out 40001 W
      rw [show decide ((40000 : Int) < 40001) = true from by decide] at cc
      have CC := Lib.hid cc; clear cc
      go_wp2_with (go_at_call 113; refine (CC.out _).mono ?_; rintro e w1 ⟨rfl, rfl⟩)
      go_ret
      exact ⟨rfl, rfl⟩

theorem zeroI (w : World) : (zeroValue 3).run Tryd.prog w = .ok (.int .i64 0) w := by kernel_rfl

set_option maxRecDepth 100000 in
set_option maxHeartbeats 2000000 in
theorem delete3 (g cap : Nat) (hc3 : 3 ≤ cap) (hcm : cap ≤ maxLen) (w : World) (h : At3 w g 0 9 40001) : Calls Tryd.prog 112 #[.slice (some ⟨g, 0, none⟩) 3 cap, .func (.func 113) #[] #[]] w fun e w' => e = .returned (.slice (some ⟨g, 0, none⟩) 2 cap) ∧ w' = w.setCell ⟨g, 2, none⟩ (.int .i64 0) := by
  have cI := index3 g cap w h
  have z1 : ∀ j, j < 1 → (w.cell? ⟨g, 2 + j, none⟩).isSome = true := by
    intro j hj
    obtain rfl : j = 0 := by omega
    rw [Nat.add_zero, h.1.2.2]; rfl
  have z2 : ∀ j, j < 1 → w.frozen? ⟨g, 2 + j, none⟩ = false := by
    intro j hj
    obtain rfl : j = 0 := by omega
    rw [Nat.add_zero, h.2]
  have hcl : ∀ ty, (Builtin.clear_ #[40] ty #[.slice (some ⟨g, 2, none⟩) 1 (cap - 2)]).run Tryd.prog w = .ok (.tuple #[]) (w.setCells g 2 (List.replicate 1 (.int .i64 0))) :=
    fun ty => Lib.run_clear_slice w 40 3 ty (.int .i64 0) Tryd.underlying40 zeroI rfl rfl g 2 1 (cap - 2) (by omega) z1 z2
  clear z1 z2
  have CI := Lib.hid cI
  clear cI h
  have e1 : (2 : Int) ≤ (cap : Int) := by omega
  have e2 : (3 : Int) ≤ (cap : Int) := by omega
  go_enter Tryd.func112, Tryd.ntmps112
  go_wp2_with fail
  refine (CI.out).mono ?_
  rintro e w1 ⟨rfl, rfl⟩
  go_wp2_with fail
  obtain ⟨wo, rfl⟩ : ∃ wo : World, wo = w := ⟨_, rfl⟩
  go_loopw [5, 6, 7] (fun iv jv _ wr => iv = .int .i64 2 ∧ jv = .int .i64 3 ∧ wr = wo) (fun _ _ _ _ => 0)
  case atStart => exact ⟨rfl, rfl, rfl⟩
  case round =>
    obtain ⟨rfl, rfl, rfl⟩ := hrel
    go_wp2_with (simp only [hcl])
    go_ret
    exact ⟨rfl, rfl⟩
end Go.Proofs.YtdhochjcigingaaDoor
