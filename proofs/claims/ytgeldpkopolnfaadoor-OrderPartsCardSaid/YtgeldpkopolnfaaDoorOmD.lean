/- order.Check; Sets. -/
import Derived.Test.YtgeldpkopolnfaaDoorOmG
namespace Go.Proofs.YtgeldpkopolnfaaDoor
open Go.RowKit
set_option linter.all false

set_option maxHeartbeats 1000000 in
theorem check_any (a : Option Addr) (c : Nat) (L : List Rq) (n : Nat) (w : World) (h1 : 1 ≤ n) (hn : n ≤ 24) (hin : Inn n L) (hasc : AscR L) (hl : L.length ≤ 900) (hL : ReqsAt w a L) :
    Calls Tryd.prog 23 #[.int .i64 (n : Int), .slice a L.length c] w (ChkP n L w) := by
  have C := Lib.hid (gcheck_any a c L n w h1 hn hin hasc hl hL)
  generalize L.length = ll at *
  go_enter Tryd.func23, Tryd.ntmps23
  go_wp2_with (go_at_call 39; refine (C.out).mono ?_; rintro e w' ⟨r, rfl, hr, hb⟩)
  go_ret
  exact ⟨r, rfl, hr, hb⟩
theorem ChkR.ok {n : Nat} {L : List Rq} {r : Int} (h : ChkR n L r) (hok : Ok n L) : r = 0 := by
  rcases h with ⟨⟨x, hx, e⟩, _⟩ | ⟨_, ⟨i, hi, hw⟩, _⟩ | ⟨_, _, rfl⟩
  · exact absurd e (hok.ne hx)
  · exact absurd hw (hok.acy i hi)
  · rfl
theorem ChkR.bad {n : Nat} {L : List Rq} {r : Int} (h : ChkR n L r) (hin : Inn n L) (hok : ¬ Ok n L) : r ≠ 0 := by
  rcases h with ⟨_, rfl⟩ | ⟨_, _, rfl⟩ | ⟨_, h, rfl⟩
  · decide
  · decide
  · exact absurd ⟨hin, h⟩ hok
theorem checkOk_any (a : Option Addr) (c : Nat) (L : List Rq) (n : Nat) (w : World) (h1 : 1 ≤ n) (hn : n ≤ 24) (hok : Ok n L) (hasc : AscR L) (hl : L.length ≤ 900) (hL : ReqsAt w a L) :
    Calls Tryd.prog 23 #[.int .i64 (n : Int), .slice a L.length c] w fun e w' => e = .returned (.int .i64 0) ∧ Below w.heap.size w w' :=
  (check_any a c L n w h1 hn hok.inn hasc hl hL).mono fun e w' ⟨r, he, hr, hb⟩ => by
    rw [hr.ok hok] at he; exact ⟨he, hb⟩
/-- Numbers that are read. -/
def IdxR (W : World) (v : Value) (l : List Nat) : Prop := ∃ a c, v = .slice a l.length c ∧ l.length ≤ c ∧ ∀ i, i < l.length → ∃ b o, a = some ⟨b, o, none⟩ ∧ W.cell? ⟨b, o + i, none⟩ = some (.int .i64 ((l.getD i 0 : Nat) : Int))
/-- Sets of numbers that are read. -/
def SetsR (W : World) (v : Value) (LS : List (List Nat)) : Prop := ∃ a c, v = .slice a LS.length c ∧ LS.length ≤ c ∧ ∀ j, j < LS.length → ∃ b o u, a = some ⟨b, o, none⟩ ∧ W.cell? ⟨b, o + j, none⟩ = some u ∧ IdxR W u (LS.getD j [])
theorem IdxR.step {W W' : World} {v : Value} {l : List Nat} (h : IdxR W v l) (hb : Below W.heap.size W W') : IdxR W' v l := by
  obtain ⟨a, c, e, hc, h⟩ := h
  refine ⟨a, c, e, hc, fun j hj => ?_⟩
  obtain ⟨b, o, e2, h2⟩ := h j hj
  exact ⟨b, o, e2, cell_later' hb h2⟩
theorem SetsR.step {W W' : World} {v : Value} {LS : List (List Nat)} (h : SetsR W v LS) (hb : Below W.heap.size W W') : SetsR W' v LS := by
  obtain ⟨a, c, e, hc, h⟩ := h
  refine ⟨a, c, e, hc, fun j hj => ?_⟩
  obtain ⟨b, o, u, e2, h2, h3⟩ := h j hj
  exact ⟨b, o, u, e2, cell_later' hb h2, h3.step hb⟩
theorem idxR_of_own {W : World} {base : Nat} {v : Value} {l : List Nat} (h : W.ownsRow base 3 1 v l.length (cellsN l)) : IdxR W v l := by
  rcases id h.2 with ⟨rfl, h0⟩ | ⟨g, cap, cur, rfl, _, _, hc, _⟩
  · exact ⟨none, 0, by rw [h0], by omega, fun i hi => by omega⟩
  · refine ⟨_, cap, rfl, by omega, fun i hi => ⟨g, 0, rfl, ?_⟩⟩
    rw [Nat.zero_add, h.cellAt i (by omega)]
    simp [cellsN, List.getD, hi]
theorem rowM_of_own {W : World} {base : Nat} {v : Value} {l : List Nat} (h : W.ownsRow base 57 1 v l.length (cellsU l)) : RowM W v l := by
  rcases id h.2 with ⟨rfl, h0⟩ | ⟨g, cap, cur, rfl, _, _, hc, _⟩
  · exact ⟨none, 0, by rw [h0], by omega, fun i hi => by omega⟩
  · refine ⟨_, cap, rfl, by omega, fun i hi => ⟨g, 0, rfl, ?_⟩⟩
    rw [Nat.zero_add, h.cellAt i (by omega)]
    simp [cellsU, List.getD, hi]
/-- Rows of different types are different rows. -/
theorem rows_ne {W : World} {b1 b2 e1 e2 s1 s2 n1 n2 : Nat} {v1 v2 : Value} {x1 x2 : List Value} (h1 : W.ownsRow b1 e1 s1 v1 n1 x1) (h2 : W.ownsRow b2 e2 s2 v2 n2 x2) (he : e1 ≠ e2) : v1.ownBlock = none ∨ v1.ownBlock ≠ v2.ownBlock := by
  rcases h1.2 with ⟨rfl, _⟩ | ⟨g, cap, cur, rfl, _, hg, _⟩
  · exact .inl rfl
  · right
    intro e
    rcases h2.2 with ⟨rfl, _⟩ | ⟨g2, cap2, cur2, rfl, _, hg2, _⟩
    · cases e
    · obtain rfl : g = g2 := by simpa [Value.ownBlock] using e
      rw [hg] at hg2; injection hg2 with hg2; injection hg2 with _ h3 _; exact he h3
theorem keepsNone {W W' : World} {n : Nat} (h : Below n W W') (hn : W.heap.size ≤ n) : W.grownBy W' none := ⟨h.os, h.tape, h.output, h.size, fun k hk _ => h.block k (by omega)⟩
theorem World.ownsRow.later {W W' : World} {base e size n : Nat} {v : Value} {xs : List Value} (h : W.ownsRow base e size v n xs) (hb : Below W.heap.size W W') : W'.ownsRow base e size v n xs := h.kept (keepsNone hb (Nat.le_refl _)) (Classical.em _)
end Go.Proofs.YtgeldpkopolnfaaDoor
