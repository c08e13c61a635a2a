/- What an element without elements stands for: both say the same. -/
import Derived.Test.YtppodhbfjnekcaaAsList
namespace Go.Proofs.Ytppodhbfjnekcaa
open Go.RowKit

/-- The element's box, some calls later. -/
def Box (w W : World) (t : Int) (sv : Value) (nb : Bool) (ev : Value) : Prop := Below (w.heap.size + 1) (w.alloc (.cells #[.int .i64 t, sv, .bool nb, ev] 30)) W

theorem Box.step {w W W' : World} {t : Int} {sv ev : Value} {nb : Bool} (h : Box w W t sv nb ev) (hb : Below W.heap.size W W') : Box w W' t sv nb ev :=
  Below.trans h (hb.mono (by have := h.size; simp at this; omega))

theorem Box.below {w W : World} {t : Int} {sv ev : Value} {nb : Bool} (h : Box w W t sv nb ev) : Below w.heap.size w W := below_of_res h

set_option maxRecDepth 100000 in
set_option maxHeartbeats 4000000 in
theorem as_leaf {t : Int} {nb : Bool} {sp ep : Option Addr} {ll cl ec : Nat} {l : List UInt8} (w : World) (h : Bts w (.slice sp ll cl) l) (ht : (t != 48) = true) (hs : ll ≤ 2147483000) :
    Calls Try.prog 19 #[.agg #[.int .i64 t, .slice sp ll cl, .bool nb, .slice ep 0 ec]] w fun e w' => e = .returned (.bool true) ∧ Below w.heap.size w w' := by
  have i1 := fun {W : World} (hW : Below w.heap.size w W) => asInt_der (t := t) (nb := nb) (p := ep) (k := 0) (c := ec) W (h.mono hW)
  have i2 := fun {W : World} (hW : Below w.heap.size w W) => asInt_ref (t := t) (nb := nb) (p := ep) (k := 0) (c := ec) W (h.mono hW)
  generalize (if isInt t nb l 0 then numOf l else 0) = ni at i1 i2
  generalize (if isInt t nb l 0 then (0 : Int) else 1) = ei at i1 i2
  obtain ⟨rs, re, hres⟩ : ∃ (rs : ByteArray) (re : Int), Hid (isText t nb l 0 = true ∧ rs = strOf l ∧ re = 0 ∨ isText t nb l 0 = false ∧ rs = ByteArray.empty ∧ re = 1) := by
    cases hq : isText t nb l 0
    · exact ⟨_, _, Lib.hid (.inr ⟨rfl, rfl, rfl⟩)⟩
    · exact ⟨_, _, Lib.hid (.inl ⟨rfl, rfl, rfl⟩)⟩
  have s1 := fun {W : World} (hW : Below w.heap.size w W) => asText_der (t := t) (nb := nb) (p := ep) (k := 0) (c := ec) W (h.mono hW) _ rfl rs re hres
  have s2 := fun {W : World} (hW : Below w.heap.size w W) => asText_ref (t := t) (nb := nb) (p := ep) (k := 0) (c := ec) W (h.mono hW) _ rfl rs re hres
  clear hres
  have b1 := fun {W : World} (hW : Below w.heap.size w W) => asBool_der (t := t) (nb := nb) (p := ep) (k := 0) (c := ec) W (h.mono hW)
  have b2 := fun {W : World} (hW : Below w.heap.size w W) => asBool_ref (t := t) (nb := nb) (p := ep) (k := 0) (c := ec) W (h.mono hW)
  generalize (boolRes t nb l 0).1 = rb at b1 b2
  generalize (boolRes t nb l 0).2 = eb at b1 b2
  have l1 := fun (W : World) => asList_der (t := t) (nb := nb) (sp := sp) (ep := ep) (ll := ll) (cl := cl) (ec := ec) W ht hs
  have l2 := fun (W : World) => asList_ref (t := t) (nb := nb) (sv := .slice sp ll cl) (ev := .slice ep 0 ec) W ht
  clear h ht
  go_enter Try.func19, Try.ntmps19
  go_wp2_with fail
  have x0 : Box w _ t (.slice sp ll cl) nb (.slice ep 0 ec) := Below.refl _ (w.alloc (.cells #[.int .i64 t, .slice sp ll cl, .bool nb, .slice ep 0 ec] 30))
  refine (i1 x0.below).mono ?_
  rintro e w1 ⟨rfl, d1⟩
  have x1 := x0.step d1
  clear x0 d1
  obtain ⟨⟨k0, k1, k2, k3⟩, _, hz⟩ := res_kept x1
  go_wp2_with fail
  refine (i2 x1.below).mono ?_
  rintro e w2 ⟨rfl, d1⟩
  have x2 := x1.step d1
  clear x1 d1 k0 k1 k2 k3 hz
  obtain ⟨⟨k0, k1, k2, k3⟩, _, hz⟩ := res_kept x2
  go_wp2_with fail
  refine (s1 x2.below).mono ?_
  rintro e w3 ⟨rfl, d1⟩
  have x3 := x2.step d1
  clear x2 d1 k0 k1 k2 k3 hz
  obtain ⟨⟨k0, k1, k2, k3⟩, _, hz⟩ := res_kept x3
  go_wp2_with fail
  refine (s2 x3.below).mono ?_
  rintro e w4 ⟨rfl, d1⟩
  have x4 := x3.step d1
  clear x3 d1 k0 k1 k2 k3 hz
  obtain ⟨⟨k0, k1, k2, k3⟩, _, hz⟩ := res_kept x4
  go_wp2_with fail
  refine (b1 x4.below).mono ?_
  rintro e w5 ⟨rfl, d1⟩
  have x5 := x4.step d1
  clear x4 d1 k0 k1 k2 k3 hz
  obtain ⟨⟨k0, k1, k2, k3⟩, _, hz⟩ := res_kept x5
  go_wp2_with fail
  refine (b2 x5.below).mono ?_
  rintro e w6 ⟨rfl, d1⟩
  have x6 := x5.step d1
  clear x5 d1 k0 k1 k2 k3 hz
  obtain ⟨⟨k0, k1, k2, k3⟩, _, hz⟩ := res_kept x6
  go_wp2_with fail
  refine (l1 _).mono ?_
  rintro e w7 ⟨rfl, d1⟩
  have x7 := x6.step d1
  clear x6 d1 k0 k1 k2 k3 hz
  obtain ⟨⟨k0, k1, k2, k3⟩, _, hz⟩ := res_kept x7
  go_wp2_with fail
  refine (l2 _).mono ?_
  rintro e w8 ⟨rfl, d1⟩
  have x8 := x7.step d1
  clear x7 d1 k0 k1 k2 k3 hz
  clear i1 i2 s1 s2 b1 b2 l1 l2
  go_wp2_with (go_at_call 44; refine (sameAll_nil _).mono ?_; rintro e w' ⟨rfl, rfl⟩)
  go_ret
  exact ⟨rfl, x8.below⟩
end Go.Proofs.Ytppodhbfjnekcaa
