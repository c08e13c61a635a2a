/- A use that came in, opened. -/
import Derived.Test.YtdhochjcigingaaDoorProg
import Derived.ChangeArms
import Derived.WideShapes
import Derived.ChangeShapes
namespace Go.Proofs.YtdhochjcigingaaDoor
open Go.ChangeShapes Go.WideShapes

set_option maxRecDepth 100000 in
theorem open_use {H : Type} {enc : TypeId × Value → H} {W : World} {b0 base : Nat} {spare : Nat → Bool} {held : Bool} {v : Value} {d : DataW H} {p : List MemPlace}
    (hval : Value.okWide Tryd.prog W .any base 23 v) (h : DataW.Trod enc Tryd.prog W b0 spare held 23 v d p) : ∃ a b : Int, v = .agg #[.int .i64 a, .int .i64 b] ∧ (Lit.int .i64 a).wf = true ∧ (Lit.int .i64 b).wf = true := by
  obtain ⟨cs, rfl, hsz⟩ := okWide_struct Tryd.underlying23 hval
  obtain ⟨fuel, hf⟩ := h
  obtain ⟨xs, n, _, hx, hl, hlen, hfs⟩ := DataW.trod_struct Tryd.underlying23 hf
  have h2 : cs.size = 2 := hsz.trans (by kernel_rfl)
  have hc3 : Tryd.prog.cellsOf 3 = 1 := by kernel_rfl
  obtain ⟨l⟩ := cs
  match l, h2, xs, hlen with
  | [a0, a1], _, [x0, x1], _ =>
    have q0 := hfs 0 _ rfl
    have q1 := hfs 1 _ rfl
    simp [Value.cells, hc3] at q0 q1
    obtain ⟨m0, e0, _, g0⟩ := DataW.trod_int Tryd.underlying3 q0
    obtain ⟨m1, e1, _, g1⟩ := DataW.trod_int Tryd.underlying3 q1
    injection e0 with e0; injection e1 with e1
    subst e0; subst e1
    exact ⟨m0, m1, rfl, g0, g1⟩
end Go.Proofs.YtdhochjcigingaaDoor
