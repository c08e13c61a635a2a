/- catalog.Valid of md5, over the algorithms' table alone. -/
import Derived.Test.YtdhochjcigingaaDoorVkA
namespace Go.Proofs.YtdhochjcigingaaDoor
open Go.RowKit
set_option linter.all false

/-- The algorithms' table lies in W. -/
def TabA (W : World) : Prop := ∃ t, W.heap[0]? = some (.cells algC.toArray t (0, 0))
theorem TabA.pos {W : World} (h : TabA W) : 0 < W.heap.size := by
  obtain ⟨t, h⟩ := h
  exact (Array.getElem?_eq_some_iff.1 h).1
theorem TabA.step {W W' : World} (h : TabA W) (hb : Below W.heap.size W W') : TabA W' := by
  have := h.pos
  obtain ⟨t, h⟩ := h
  exact ⟨t, (hb.block 0 this).trans h⟩
theorem TabA.alloc {W : World} (h : TabA W) (o : Obj) : TabA (W.alloc o) := h.step ((Below.refl _ _).alloc (Nat.le_refl _) _)
theorem TabA.at1 {W : World} (h : TabA W) : W.cell? ⟨0, 3, none⟩ = some (.string ⟨(anm 1).toArray⟩) ∧ W.cell? ⟨0, 4, none⟩ = some (.int .u8 1) ∧ W.cell? ⟨0, 5, none⟩ = some (.int .u16 18) := by
  obtain ⟨t, h1⟩ := h
  have key : ∀ o, W.cell? ⟨0, o, none⟩ = algC[o]? := fun o => by
    simp [World.cell?, h1]
  rw [key, key, key]
  exact ⟨by rfl, by rfl, by rfl⟩

theorem algorithm_md5 (w : World) (h : TabA w) : Calls Tryd.prog 57 #[.int .i64 1] w (AlgR w (anm 1) 1 18) := by
  obtain ⟨c0, c1, c2⟩ := (h.alloc (.cells #[.string ⟨#[]⟩, .int .u8 0, .int .u16 0] 86)).at1
  generalize anm 1 = n1 at *
  go_enter Tryd.func57, Tryd.ntmps57
  go_wp2_with fail
  refine bodyPost_ret (v := .agg #[.string ⟨n1.toArray⟩, .int .u8 1, .int .u16 18]) (by simp [results, Tryd.results57, go_sem]) rfl ⟨rfl, ?_⟩
  first | exact (((((Below.refl _ _).alloc (Nat.le_refl _) _).setCell (by simp) _).setCell (by simp) _).setCell (by simp) _) | exact (Below.refl _ _).alloc (Nat.le_refl _) _

set_option maxRecDepth 100000 in
set_option maxHeartbeats 1000000 in
theorem strength_md5 (w : World) (h : TabA w) : Calls Tryd.prog 22 #[.agg #[.int .i64 1, .int .i64 0]] w (IntP 18 w) := by
  have cA := algorithm_md5 _ (h.alloc (.cells #[.int .i64 1, .int .i64 0] 23))
  generalize anm 1 = n1 at cA
  have CA := Lib.hid cA; clear cA
  have hf := field2 (.string ⟨n1.toArray⟩) (.int .u8 1) (.int .u16 18)
  go_enter Tryd.func22, Tryd.ntmps22
  go_wp2_with fail
  refine (CA.out).mono ?_
  rintro e w1 ⟨rfl, hb⟩
  obtain ⟨x0, x1, hb1, hz⟩ := box2 hb
  have HB := Lib.hid hb1
  clear hb hb1
  go_wp2_with (go_at_call 59; refine (only_any _ _ _).mono ?_; rintro e w' ⟨rfl, rfl⟩)
  go_ret
  exact ⟨rfl, HB.out⟩

theorem valid_md5 (w : World) (h : TabA w) : Calls Tryd.prog 20 #[.agg #[.int .i64 1, .int .i64 0]] w (BoolP true w) := by
  have c := strength_md5 _ (h.alloc (.cells #[.int .i64 1, .int .i64 0] 23))
  have C := Lib.hid c; clear c
  go_enter Tryd.func20, Tryd.ntmps20
  go_wp2_with fail
  refine (C.out).mono ?_
  rintro e w1 ⟨rfl, hb⟩
  go_wp2_with fail
  go_ret
  exact ⟨rfl, below_of_alloc hb⟩
end Go.Proofs.YtdhochjcigingaaDoor
