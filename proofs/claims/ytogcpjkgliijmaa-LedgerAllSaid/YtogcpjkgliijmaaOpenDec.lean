/- A decision that came in, opened. -/
import Derived.Test.YtogcpjkgliijmaaCheck
import Derived.ChangeArms
import Derived.WideShapes
import Derived.ChangeShapes
namespace Go.Proofs.Ytogcpjkgliijmaa
open Go.ChangeShapes Go.WideShapes

theorem open_dec {H : Type} {enc : TypeId × Value → H} {W : World} {b0 base : Nat} {spare : Nat → Bool} {held : Bool} {v : Value} {d : DataW H} {p : List MemPlace}
    (hval : Value.okWide Try.prog W .any base 27 v) (h : DataW.Trod enc Try.prog W b0 spare held 27 v d p) : ∃ D : Dec, v = D.val := by
  obtain ⟨cs, rfl, hsz⟩ := okWide_struct Try.underlying27 hval
  obtain ⟨fuel, hf⟩ := h
  obtain ⟨xs, n, _, hx, hl, hlen, hfs⟩ := DataW.trod_struct Try.underlying27 hf
  have h5 : cs.size = 5 := hsz.trans (by kernel_rfl)
  have hc3 : Try.prog.cellsOf 3 = 1 := by kernel_rfl
  obtain ⟨l⟩ := cs
  match l, h5, xs, hlen with
  | [a0, a1, a2, a3, a4], _, [x0, x1, x2, x3, x4], _ =>
    have q0 := hfs 0 _ rfl
    have q1 := hfs 1 _ rfl
    have q2 := hfs 2 _ rfl
    have q3 := hfs 3 _ rfl
    have q4 := hfs 4 _ rfl
    simp [Value.cells, hc3] at q0 q1 q2 q3 q4
    obtain ⟨m0, e0, _⟩ := DataW.trod_int Try.underlying3 q0
    obtain ⟨m1, e1, _⟩ := DataW.trod_int Try.underlying3 q1
    obtain ⟨m2, e2, _⟩ := DataW.trod_int Try.underlying3 q2
    obtain ⟨m3, e3, _⟩ := DataW.trod_int Try.underlying3 q3
    obtain ⟨m4, e4, _⟩ := DataW.trod_int Try.underlying3 q4
    injection e0 with e0; injection e1 with e1; injection e2 with e2; injection e3 with e3; injection e4 with e4
    subst e0; subst e1; subst e2; subst e3; subst e4
    exact ⟨⟨m0, m1, m2, m3, m4⟩, rfl⟩
end Go.Proofs.Ytogcpjkgliijmaa
