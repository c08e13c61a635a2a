/- rule.Check and verdict.check of the sanity check's policy. -/
import Derived.Test.YtdhochjcigingaaDoorVkI
namespace Go.Proofs.YtdhochjcigingaaDoor
open Go.RowKit
set_option linter.all false

set_option maxRecDepth 100000 in
set_option maxHeartbeats 2000000 in
theorem rulecheck (b : Nat) (w : World) (hW : VW w b w) : Calls Tryd.prog 109 #[.agg #[.slice (some ⟨b, 0, none⟩) 2 2, .slice none 0 0]] w (IntP 0 w) := by
  have HW := Lib.hid (hW.al (.cells #[.slice (some ⟨b, 0, none⟩) 2 2, .slice none 0 0] 70))
  have c0 : (w.alloc (.cells #[.slice (some ⟨b, 0, none⟩) 2 2, .slice none 0 0] 70)).cell? ⟨w.heap.size, 0, none⟩ = some (.slice (some ⟨b, 0, none⟩) 2 2) := by simp
  have c1 : (w.alloc (.cells #[.slice (some ⟨b, 0, none⟩) 2 2, .slice none 0 0] 70)).cell? ⟨w.heap.size, 1, none⟩ = some (.slice none 0 0) := by simp
  have C1 := Lib.hid c1
  have cR := fun W (h : VW w b W) => has_rules b W ⟨h.rules, h.tab, Below.refl _ _⟩
  have CR := Lib.hid cR
  have CK := Lib.hid has_keeps
  have C0 := Lib.hid c0
  clear hW c0 c1 cR
  go_enter Tryd.func109, Tryd.ntmps109
  go_wp2_with fail
  generalize (w.alloc (.cells #[.slice (some ⟨b, 0, none⟩) 2 2, .slice none 0 0] 70)) = W0 at *
  refine (CR.out _ HW.out).mono ?_
  rintro e w1 ⟨rfl, hb1⟩
  have c1 := cell_later' hb1 C1.out
  have HW1 := Lib.hid (HW.out.step hb1)
  clear hb1
  go_wp2_with fail
  refine (CK.out _).mono ?_
  rintro e w2 ⟨rfl, hb2⟩
  have HW2 := Lib.hid (HW1.out.step hb2)
  clear hb2
  go_wp2_with fail
  go_ret
  exact ⟨rfl, HW2.out.below⟩

set_option maxRecDepth 100000 in
set_option maxHeartbeats 2000000 in
theorem check_md5 (b : Nat) (w : World) (hW : VW w b w) : Calls Tryd.prog 96 #[.agg #[.slice (some ⟨b, 0, none⟩) 2 2, .slice none 0 0], .agg #[.int .i64 1, .int .i64 0], .int .i64 1] w (IntP 0 w) := by
  have HW := Lib.hid ((hW.al (.cells #[.slice (some ⟨b, 0, none⟩) 2 2, .slice none 0 0] 70)).al (.cells #[.int .i64 1, .int .i64 0] 23))
  have c1 : ((w.alloc (.cells #[.slice (some ⟨b, 0, none⟩) 2 2, .slice none 0 0] 70)).alloc (.cells #[.int .i64 1, .int .i64 0] 23)).cell? ⟨w.heap.size + 1, 0, none⟩ = some (.int .i64 1) := by simp
  have c2 : ((w.alloc (.cells #[.slice (some ⟨b, 0, none⟩) 2 2, .slice none 0 0] 70)).alloc (.cells #[.int .i64 1, .int .i64 0] 23)).cell? ⟨w.heap.size + 1, 1, none⟩ = some (.int .i64 0) := by simp
  have C1 := Lib.hid c1; have C2 := Lib.hid c2
  have cR := fun W (h : VW w b W) => rulecheck b W ⟨h.rules, h.tab, Below.refl _ _⟩
  have cV := fun W (h : VW w b W) => valid_md5 W h.tab
  have CR := Lib.hid cR; have CV := Lib.hid cV
  clear hW c1 c2 cR cV
  go_enter Tryd.func96, Tryd.ntmps96
  go_wp2_with fail
  generalize ((w.alloc (.cells #[.slice (some ⟨b, 0, none⟩) 2 2, .slice none 0 0] 70)).alloc (.cells #[.int .i64 1, .int .i64 0] 23)) = W0 at *
  refine (CR.out _ HW.out).mono ?_
  rintro e w1 ⟨rfl, hb1⟩
  have c1 := cell_later' hb1 C1.out
  have c2 := cell_later' hb1 C2.out
  have HW1 := Lib.hid (HW.out.step hb1)
  clear hb1
  go_wp2_with fail
  refine (CV.out _ HW1.out).mono ?_
  rintro e w2 ⟨rfl, hb2⟩
  have HW2 := Lib.hid (HW1.out.step hb2)
  clear hb2
  go_wp2_with fail
  go_ret
  exact ⟨rfl, HW2.out.below⟩
end Go.Proofs.YtdhochjcigingaaDoor
