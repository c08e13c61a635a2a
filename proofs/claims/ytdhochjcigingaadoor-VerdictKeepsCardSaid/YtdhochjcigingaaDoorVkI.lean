/- rule.Check of the sanity check's policy. -/
import Derived.Test.YtdhochjcigingaaDoorVkM
namespace Go.Proofs.YtdhochjcigingaaDoor
open Go.RowKit
set_option linter.all false

/-- IndexFunc over the two rules. -/
def IRel (w : World) (b : Nat) (iv : Value) (wr : World) : Prop := ∃ k : Nat, iv = .int .i64 (k : Int) ∧ k ≤ 2 ∧ VW w b wr

set_option maxRecDepth 100000 in
set_option maxHeartbeats 2000000 in
theorem index_rules (b : Nat) (w : World) (hW : VW w b w) : Calls Tryd.prog 146 #[.slice (some ⟨b, 0, none⟩) 2 2, .func (.func 130) #[] #[]] w (IntP (-1) w) := by
  have HW := Lib.hid hW
  clear hW
  go_enter Tryd.func146, Tryd.ntmps146
  go_wp2_with fail
  go_loopw [5, 8] (fun _ iv wr => IRel w b iv wr) (fun _ iv _ => 2 - (intOf iv).toNat)
  case atStart => exact ⟨0, rfl, by omega, HW.out⟩
  case round =>
    clear HW
    obtain ⟨k, rfl, hk, hV⟩ := hrel
    obtain ⟨⟨a0, a1, a2, a3, a4, a5⟩, b0, b1, b2, b3, b4, b5⟩ := hV.rules
    have HV := Lib.hid hV
    clear hV
    have hk3 : k = 0 ∨ k = 1 ∨ k = 2 := by omega
    rcases hk3 with rfl | rfl | rfl
    · have cM := fun W => norule_md5 false 40001 (by omega) (by omega) W
      have CM := Lib.hid cM; clear cM hk
      go_wp2_with (go_at_call 130; refine (CM.out _).mono ?_; rintro e w1 ⟨rfl, hb1⟩; have HB1 := Lib.hid hb1; clear hb1)
      go_roundw
      case rel => exact ⟨1, by go_num, by omega, HV.out.step HB1.out⟩
      case measure => simp [intOf]
    · have cM := fun W => norule_md5 true 9 (by omega) (by omega) W
      have CM := Lib.hid cM; clear cM hk
      go_wp2_with (go_at_call 130; refine (CM.out _).mono ?_; rintro e w1 ⟨rfl, hb1⟩; have HB1 := Lib.hid hb1; clear hb1)
      go_roundw
      case rel => exact ⟨2, by go_num, by omega, HV.out.step HB1.out⟩
      case measure => simp [intOf]
    · go_wp2_with fail
      go_ret
      exact ⟨rfl, HV.out.below⟩

theorem has_rules (b : Nat) (w : World) (hW : VW w b w) : Calls Tryd.prog 129 #[.slice (some ⟨b, 0, none⟩) 2 2, .func (.func 130) #[] #[]] w (BoolP false w) := by
  have cI := index_rules b w hW
  have CI := Lib.hid cI; clear cI hW
  go_enter Tryd.func129, Tryd.ntmps129
  go_wp2_with fail
  refine (CI.out).mono ?_
  rintro e w1 ⟨rfl, hb1⟩
  go_wp2_with fail
  go_ret
  exact ⟨rfl, hb1⟩

theorem index_keeps (w : World) : Calls Tryd.prog 147 #[.slice none 0 0, .func (.func 132) #[] #[]] w (IntP (-1) w) := by
  go_enter Tryd.func147, Tryd.ntmps147
  go_wp2_with fail
  go_loopw [5, 8] (fun _ iv wr => iv = .int .i64 0 ∧ wr = w) (fun _ iv _ => 2 - (intOf iv).toNat)
  case atStart => exact ⟨rfl, rfl⟩
  case round =>
    obtain ⟨rfl, rfl⟩ := hrel
    go_wp2_with fail
    go_ret
    exact ⟨rfl, Below.refl _ _⟩
theorem has_keeps (w : World) : Calls Tryd.prog 131 #[.slice none 0 0, .func (.func 132) #[] #[]] w (BoolP false w) := by
  have CI := Lib.hid (index_keeps w)
  go_enter Tryd.func131, Tryd.ntmps131
  go_wp2_with fail
  refine (CI.out).mono ?_
  rintro e w1 ⟨rfl, hb1⟩
  go_wp2_with fail
  go_ret
  exact ⟨rfl, hb1⟩
end Go.Proofs.YtdhochjcigingaaDoor
