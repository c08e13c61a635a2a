/- der.AsInt of elements of which no two lists are compared. -/
import Derived.Test.YtppodhbfjnekcaaSame
import Derived.Test.YtppodhbfjnekcaaRefInt
import Derived.Deep.RegionWith
namespace Go.Proofs.Ytppodhbfjnekcaa
open Go.RowKit

theorem below_step {w a b : World} (h : Below w.heap.size w a) (hb : Below a.heap.size a b) : Below w.heap.size w b := h.trans (hb.mono h.size)

/-- Whether an element is that of its number. -/
def isInt (t : Int) (nb : Bool) (l : List UInt8) (k : Nat) : Bool := alikeB t 2 nb false l (intB (numOf l)) k 0

set_option maxHeartbeats 1000000 in
theorem asInt_der {t : Int} {nb : Bool} {sv : Value} {l : List UInt8} {p : Option Addr} {k c : Nat} (w : World) (h : Bts w sv l) :
    Calls Try.prog 20 #[.agg #[.int .i64 t, sv, .bool nb, .slice p k c]] w fun e w' => e = .returned (.tuple #[.int .i64 (if isInt t nb l k then numOf l else 0), .int .i64 (if isInt t nb l k then 0 else 1)]) ∧ Below w.heap.size w w' := by
  have hnum := fun {W : World} (hW : Below w.heap.size w W) => number_all sv l W (h.mono hW)
  have hr := numOf_range l
  have hint := fun (W : World) => int_der (numOf l) W hr.1 hr.2
  have hsame := fun {W : World} (hW : Below w.heap.size w W) {vb : Value} (hb : Bts W vb (intB (numOf l))) => same_leaf (ta := t) (tb := 2) (na := nb) (nb := false) (ka := k) (kb := 0) (ca := c) (cb := 0) (pa := p) (pb := none) W (h.mono hW) hb (fun e => e)
  clear h hr
  cases hi : isInt t nb l k
  all_goals
    simp only [show alikeB t 2 nb false l (intB (numOf l)) k 0 = _ from hi] at hsame
    clear hi
    go_enter Try.func20, Try.ntmps20
    go_wp2_with fail
    refine (hnum ?_).mono ?_
    · exact (Below.refl _ _).alloc (Nat.le_refl _) _
    rintro e w' ⟨rfl, rfl⟩
    go_wp2_with fail
    go_region_with (first | (go_at_call 21; refine (hint _).mono ?_; rintro e w1 ⟨v1, rfl, hv1, hb1⟩; obtain ⟨hc1, hf1⟩ := bcell hb1) | (go_at_call 14; refine (hsame ?_ hv1).mono ?_; (focus (first | exact below_step ((Below.refl _ _).alloc (Nat.le_refl _) _).drew hb1 | exact below_step ((Below.refl _ _).alloc (Nat.le_refl _) _) hb1)); rintro e w2 ⟨rfl, hb2⟩))
    all_goals
      go_wp2
      go_ret2
      refine ⟨rfl, ?_⟩
      first | exact below_step (below_step ((Below.refl _ _).alloc (Nat.le_refl _) _).drew hb1) hb2 | exact below_step (below_step ((Below.refl _ _).alloc (Nat.le_refl _) _) hb1) hb2
end Go.Proofs.Ytppodhbfjnekcaa
