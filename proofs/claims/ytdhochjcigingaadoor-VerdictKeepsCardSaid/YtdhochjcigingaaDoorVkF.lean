/- verdict.Falls of the sanity check's policy; the sanity check. -/
import Derived.Test.YtdhochjcigingaaDoorVkP
namespace Go.Proofs.YtdhochjcigingaaDoor
open Go.RowKit Go.Sort
set_option linter.all false

theorem span_cells {W : World} {base g cap : Nat} (h : W.ownsRow base 118 2 (.slice (some ⟨g, 0, none⟩) 1 cap) 1 [.int .i64 0, .int .i64 9]) : W.cell? ⟨g, 0, none⟩ = some (.int .i64 0) ∧ W.cell? ⟨g, 1, none⟩ = some (.int .i64 9) :=
  ⟨by rw [h.cellAt 0 (by omega)]; rfl, by rw [h.cellAt 1 (by omega)]; rfl⟩

def FallsP (w : World) (e : Ending) (w' : World) : Prop := e = .returned (.tuple #[.int .i64 9, .bool true, .int .i64 0]) ∧ Below w.heap.size w w'

set_option maxRecDepth 100000 in
set_option maxHeartbeats 4000000 in
theorem falls_md5 (b : Nat) (w : World) (hW : VW w b w) : Calls Tryd.prog 82 #[.agg #[.slice (some ⟨b, 0, none⟩) 2 2, .slice none 0 0], .agg #[.int .i64 1, .int .i64 0], .int .i64 1] w (FallsP w) := by
  have HW := Lib.hid ((hW.al (.cells #[.slice (some ⟨b, 0, none⟩) 2 2, .slice none 0 0] 70)).al (.cells #[.int .i64 1, .int .i64 0] 23))
  have CS := Lib.hid (fun W (h : VW w b W) => spans_md5 b W ⟨h.rules, h.tab, Below.refl _ _⟩)
  clear hW
  go_enter Tryd.func82, Tryd.ntmps82
  go_wp2_with fail
  generalize ((w.alloc (.cells #[.slice (some ⟨b, 0, none⟩) 2 2, .slice none 0 0] 70)).alloc (.cells #[.int .i64 1, .int .i64 0] 23)) = W0 at *
  refine (CS.out _ HW.out).mono ?_
  rintro e w1 ⟨g, cap, rfl, ho, hb1⟩
  have HW1 := Lib.hid (HW.out.step hb1)
  obtain ⟨c0, c1⟩ := span_cells ho
  clear hb1 ho HW CS
  go_wp2_with fail
  exact bodyPost_ret (v := .tuple #[.int .i64 9, .bool true, .int .i64 0]) (by simp [results, Tryd.results82, go_sem]) rfl ⟨rfl, HW1.out.below⟩

def rulesC : Array Value := #[.bool false, .int .i64 1, .int .i64 0, .int .i64 0, .int .i64 0, .int .i64 40001, .bool true, .int .i64 1, .int .i64 0, .int .i64 0, .int .i64 0, .int .i64 9]
theorem rules_new {W : World} {b : Nat} {t : TypeId} (h : W.heap[b]? = some (.cells rulesC t (0, 0))) : RulesAt W b := by
  have k := fun j => cell_of_row W b j _ _ _ h
  exact ⟨⟨by rw [k]; rfl, by rw [k]; rfl, by rw [k]; rfl, by rw [k]; rfl, by rw [k]; rfl, by rw [k]; rfl⟩, by rw [k]; rfl, by rw [k]; rfl, by rw [k]; rfl, by rw [k]; rfl, by rw [k]; rfl, by rw [k]; rfl⟩

/-- The sanity check's world. -/
structure AwW (w : World) (b p : Nat) (W : World) : Prop where
  vw : VW w b W
  box : (W.cell? ⟨p, 0, none⟩ = some (.slice (some ⟨b, 0, none⟩) 2 2) ∧ W.cell? ⟨p, 1, none⟩ = some (.slice none 0 0)) ∧ W.cell? ⟨p + 1, 0, none⟩ = some (.int .i64 1) ∧ W.cell? ⟨p + 1, 1, none⟩ = some (.int .i64 0)
theorem AwW.step {w W W' : World} {b p : Nat} (h : AwW w b p W) (hb : Below W.heap.size W W') : AwW w b p W' :=
  ⟨h.vw.step hb, ⟨⟨cell_later' hb h.box.1.1, cell_later' hb h.box.1.2⟩, cell_later' hb h.box.2.1, cell_later' hb h.box.2.2⟩⟩

theorem aw_new (w : World) (h : TabA w) : AwW w w.heap.size (w.heap.size + 1) (((w.alloc (.cells rulesC 111)).alloc (.cells #[.slice (some ⟨w.heap.size, 0, none⟩) 2 2, .slice none 0 0] 70)).alloc (.cells #[.int .i64 1, .int .i64 0] 23)) := by
  have h0 : VW w w.heap.size (w.alloc (.cells rulesC 111)) := ⟨rules_new (heap_alloc_new _ _), h.alloc _, (Below.refl _ _).alloc (Nat.le_refl _) _⟩
  have hs : (w.alloc (.cells rulesC 111)).heap.size = w.heap.size + 1 := by simp
  rw [← hs]
  generalize w.alloc (.cells rulesC 111) = W1 at *
  have c0 : ((W1.alloc (.cells #[.slice (some ⟨w.heap.size, 0, none⟩) 2 2, .slice none 0 0] 70)).alloc (.cells #[.int .i64 1, .int .i64 0] 23)).cell? ⟨W1.heap.size, 0, none⟩ = some (.slice (some ⟨w.heap.size, 0, none⟩) 2 2) := by simp
  have c1 : ((W1.alloc (.cells #[.slice (some ⟨w.heap.size, 0, none⟩) 2 2, .slice none 0 0] 70)).alloc (.cells #[.int .i64 1, .int .i64 0] 23)).cell? ⟨W1.heap.size, 1, none⟩ = some (.slice none 0 0) := by simp
  have c2 : ((W1.alloc (.cells #[.slice (some ⟨w.heap.size, 0, none⟩) 2 2, .slice none 0 0] 70)).alloc (.cells #[.int .i64 1, .int .i64 0] 23)).cell? ⟨W1.heap.size + 1, 0, none⟩ = some (.int .i64 1) := by simp
  have c3 : ((W1.alloc (.cells #[.slice (some ⟨w.heap.size, 0, none⟩) 2 2, .slice none 0 0] 70)).alloc (.cells #[.int .i64 1, .int .i64 0] 23)).cell? ⟨W1.heap.size + 1, 1, none⟩ = some (.int .i64 0) := by simp
  exact ⟨(h0.al _).al _, ⟨⟨c0, c1⟩, c2, c3⟩⟩

set_option maxRecDepth 100000 in
set_option maxHeartbeats 4000000 in
theorem awake18_any (w : World) (h : TabA w) : Calls Tryd.prog 51 #[] w (BoolP true w) := by
  have HA := Lib.hid (aw_new w h)
  have CS := Lib.hid (fun W p (h : AwW w w.heap.size p W) => spans_md5 w.heap.size W ⟨h.vw.rules, h.vw.tab, Below.refl _ _⟩)
  have CF := Lib.hid (fun W p (h : AwW w w.heap.size p W) => falls_md5 w.heap.size W ⟨h.vw.rules, h.vw.tab, Below.refl _ _⟩)
  unfold rulesC at HA
  clear h
  go_enter Tryd.func51, Tryd.ntmps51
  go_wp2_with fail
  generalize (((w.alloc (.cells #[.bool false, .int .i64 1, .int .i64 0, .int .i64 0, .int .i64 0, .int .i64 40001, .bool true, .int .i64 1, .int .i64 0, .int .i64 0, .int .i64 0, .int .i64 9] 111)).alloc (.cells #[.slice (some ⟨w.heap.size, 0, none⟩) 2 2, .slice none 0 0] 70)).alloc (.cells #[.int .i64 1, .int .i64 0] 23)) = W0 at *
  refine (CS.out _ _ HA.out).mono ?_
  rintro e w1 ⟨g, cap, rfl, ho, hb1⟩
  have hA1 := HA.out.step hb1
  obtain ⟨⟨p0, p1⟩, p2, p3⟩ := hA1.box
  have HA1 := Lib.hid hA1
  have HO := Lib.hid ho
  clear hb1 hA1 HA CS ho
  go_wp2_with fail
  refine (CF.out _ _ HA1.out).mono ?_
  rintro e w2 ⟨rfl, hb2⟩
  have HA2 := Lib.hid (HA1.out.step hb2)
  obtain ⟨c0, c1⟩ := span_cells (own_below HO.out hb2)
  clear hb2 HA1 HO CF p0 p1 p2 p3
  go_wp2_with fail
  go_ret
  exact ⟨rfl, HA2.out.vw.below⟩
end Go.Proofs.YtdhochjcigingaaDoor
