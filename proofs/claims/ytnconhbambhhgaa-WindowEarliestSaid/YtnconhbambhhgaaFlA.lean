/- window.first where something holds of a window; Earliest. -/
import Derived.Test.YtnconhbambhhgaaLdE
namespace Go.Proofs.Ytnconhbambhhgaa
open Go.RowKit
set_option linter.all false

/-- What the closure of Earliest reads: the loads at H, the team at g, the calendar at C. -/
structure ClAt (W : World) (H g C : Nat) (p q r : Option Addr) (nL c1 nQ c2 nR c3 : Nat) (L : List Win) (TS DS R : List Int) (team : Nat) : Prop where
  row : W.rangeAt H 0 (cntL L TS DS TS.length)
  tm : W.cell? ⟨g, 0, none⟩ = some (.int .i64 (team : Int))
  box : CalBox C p q r nL c1 nQ c2 nR c3 W
  room : TeamsAt W r R
theorem range_below {W W' : World} {b : Nat} {cs : List Value} (h : W.rangeAt b 0 cs) (hb : Below W.heap.size W W') : W'.rangeAt b 0 cs := fun j v hv => cell_later' hb (h j v hv)
theorem ClAt.step {W W' : World} {H g C : Nat} {p q r : Option Addr} {nL c1 nQ c2 nR c3 : Nat} {L : List Win} {TS DS R : List Int} {team : Nat} (h : ClAt W H g C p q r nL c1 nQ c2 nR c3 L TS DS R team) (hb : Below W.heap.size W W') : ClAt W' H g C p q r nL c1 nQ c2 nR c3 L TS DS R team :=
  ⟨range_below h.row hb, cell_later' hb h.tm, h.box.step hb, h.room.step hb⟩

/-- There is room for one more change of the team in window i. -/
def roomF (L : List Win) (TS DS R : List Int) (team i : Nat) : Bool := decide ((cnt L TS DS TS.length i team : Int) < R.getD team 0)

set_option maxRecDepth 100000 in
set_option maxHeartbeats 2000000 in
theorem holds_any (H g C : Nat) (p q r : Option Addr) (nL c1 nQ c2 c3 : Nat) (L : List Win) (TS DS R : List Int) (team i : Nat) (w : World) (h : ClAt w H g C p q r nL c1 nQ c2 R.length c3 L TS DS R team) (hi : i < 32) (ht : team < R.length) (h8 : R.length ≤ 8) :
    Calls Try.prog 33 #[.int .i64 (i : Int), .pointer (some ⟨H, 0, none⟩), .pointer (some ⟨g, 0, none⟩), .pointer (some ⟨C, 0, none⟩)] w (BoolP (roomF L TS DS R team i) w) := by
  obtain ⟨hr, htm, ⟨x0, x1, x2⟩, hrm⟩ := h
  obtain ⟨b, o, hp, hc⟩ := hrm team ht
  subst hp
  have hl := hr (i * 8 + team) (.int .i64 (cnt L TS DS TS.length i team : Int)) (cntL_get _ _ _ _ _ _ hi (by omega))
  rw [Nat.zero_add] at hl
  unfold roomF
  generalize cnt L TS DS TS.length i team = cn at *
  generalize R.getD team 0 = rm at *
  generalize hz : decide ((cn : Int) < rm) = z
  have HZ := Lib.hid hz
  generalize R.length = nR at *
  have q0 : (0 : Int) ≤ (i : Int) := by omega
  have q1 : (i : Int) < 32 := by omega
  have q2 : (0 : Int) ≤ (team : Int) := by omega
  have q3 : (team : Int) < 8 := by omega
  have q4 : (team : Int) < (nR : Int) := by omega
  clear hr hrm
  go_enter Try.func33, Try.ntmps33
  go_wp2_with fail
  go_quiet (fail)
  go_wp2_with fail
  go_ret
  exact ⟨by first | rfl | rw [HZ.out], below_drewN (Below.refl _ _) _⟩

def okH (hB : Nat → Bool) (d team : Int) (L : List Win) (T : Nat → List Int) (j : Nat) : Bool := okW d team L T j && hB j
def FirstHR (hB : Nat → Bool) (d team : Int) (L : List Win) (T : Nat → List Int) (r : Int) (ok : Bool) : Prop :=
  (r = 0 ∧ ok = false ∧ ∀ j, j < L.length → okH hB d team L T j = false) ∨ ∃ k : Nat, k < L.length ∧ r = max d (L.getD k win0).from_ ∧ ok = true ∧ okH hB d team L T k = true ∧ ∀ j, j < k → okH hB d team L T j = false
def FirstHP (hB : Nat → Bool) (d team : Int) (L : List Win) (T : Nat → List Int) (w : World) (e : Ending) (w' : World) : Prop := ∃ r ok, e = .returned (.tuple #[.int .i64 r, .bool ok]) ∧ FirstHR hB d team L T r ok ∧ Below w.heap.size w w'
def FhRel (hB : Nat → Bool) (w : World) (d team : Int) (L : List Win) (T : Nat → List Int) (iv : Value) (wr : World) : Prop := ∃ k : Nat, iv = .int .i64 (k : Int) ∧ k ≤ L.length ∧ (∀ j, j < k → okH hB d team L T j = false) ∧ Below w.heap.size w wr
theorem okh_snoc {hB : Nat → Bool} {d team : Int} {L : List Win} {T : Nat → List Int} {k : Nat} (h : ∀ j, j < k → okH hB d team L T j = false) (hk : okH hB d team L T k = false) : ∀ j, j < k + 1 → okH hB d team L T j = false := fun j hj => by
  rcases Nat.lt_succ_iff_lt_or_eq.1 hj with h' | h'
  · exact h j h'
  · rw [h']; exact hk
end Go.Proofs.Ytnconhbambhhgaa
