/- Two rows of numbers that grow side by side; loads of a full window. -/
import Derived.Test.YtnconhbambhhgaaFlC
import Derived.Test.YtnconhbambhhgaaCalE
namespace Go.Proofs.Ytnconhbambhhgaa
open Go.RowKit
set_option linter.all false

/-- Two rows of one's own: teams and days. -/
structure FMid (W0 W : World) (tv dv : Value) (TS DS : List Int) : Prop where
  below : Below W0.heap.size W0 W
  ownt : W.ownsRow W0.heap.size 3 1 tv TS.length (vi TS)
  ownd : W.ownsRow W0.heap.size 3 1 dv DS.length (vi DS)
  sep : ∀ k, tv.ownBlock = some k → dv.ownBlock ≠ some k

theorem below_grown {n : Nat} {a w w' : World} {row : Option Nat} (h : Below n a w) (hg : w.grownBy w' row) (hr : ∀ k, row = some k → n ≤ k) (hn : n ≤ w.heap.size) : Below n a w' :=
  ⟨hg.os.trans h.os, hg.tape.trans h.tape, hg.output.trans h.output, Nat.le_trans h.size hg.size, fun k hk => (hg.block k (by omega) (fun e => by have := hr k e.symm; omega)).trans (h.block k hk)⟩

theorem vi_snoc (L : List Int) (x : Int) : vi (L ++ [x]) = vi L ++ [.int .i64 x] := by unfold vi; rw [List.map_append]; rfl

theorem FMid.appt {W0 W W5 : World} {tv dv : Value} {TS DS : List Int} {x : Int} {g cap : Nat} {o : Obj} (h : FMid W0 W tv dv TS DS)
    (ho : W5.ownsRow W0.heap.size 3 1 (.slice (some ⟨g, 0, none⟩) (TS.length + 1) cap) (TS.length + 1) (vi TS ++ [.int .i64 x])) (hg : (W.alloc o).grownBy W5 tv.ownBlock) (hq : tv.ownBlock = some g ∨ g = (W.alloc o).heap.size) :
    FMid W0 W5 (.slice (some ⟨g, 0, none⟩) (TS.length + 1) cap) dv (TS ++ [x]) DS := by
  have hs := h.below.size
  have hg2 : W.grownBy W5 tv.ownBlock := (World.grownBy_alloc W _ _).trans hg
  refine ⟨below_grown h.below hg2 (fun k e => (h.ownt.lt k e).1) hs, ?_, h.ownd.kept hg2 ?_, fun k hk => ?_⟩
  · rw [show (TS ++ [x]).length = TS.length + 1 by simp, vi_snoc]; exact ho
  · cases hp : dv.ownBlock with
    | none => exact .inl rfl
    | some k => exact .inr fun e => h.sep k e.symm hp
  · simp only [Value.ownBlock, Option.some.injEq] at hk
    subst hk
    intro e
    rcases hq with hq | hq
    · exact h.sep g hq e
    · have := (h.ownd.lt g e).2
      simp at hq
      omega
theorem FMid.appd {W0 W W5 : World} {tv dv : Value} {TS DS : List Int} {x : Int} {g cap : Nat} {o : Obj} (h : FMid W0 W tv dv TS DS)
    (ho : W5.ownsRow W0.heap.size 3 1 (.slice (some ⟨g, 0, none⟩) (DS.length + 1) cap) (DS.length + 1) (vi DS ++ [.int .i64 x])) (hg : (W.alloc o).grownBy W5 dv.ownBlock) (hq : dv.ownBlock = some g ∨ g = (W.alloc o).heap.size) :
    FMid W0 W5 tv (.slice (some ⟨g, 0, none⟩) (DS.length + 1) cap) TS (DS ++ [x]) := by
  have hs := h.below.size
  have hg2 : W.grownBy W5 dv.ownBlock := (World.grownBy_alloc W _ _).trans hg
  refine ⟨below_grown h.below hg2 (fun k e => (h.ownd.lt k e).1) hs, h.ownt.kept hg2 ?_, ?_, fun k hk => ?_⟩
  · cases hp : tv.ownBlock with
    | none => exact .inl rfl
    | some k => exact .inr fun e => h.sep k hp e.symm
  · rw [show (DS ++ [x]).length = DS.length + 1 by simp, vi_snoc]; exact ho
  · simp only [Value.ownBlock, ne_eq, Option.some.injEq]
    intro e
    subst e
    rcases hq with hq | hq
    · exact h.sep g hk hq
    · have := (h.ownt.lt g hk).2
      simp at hq
      omega
/-- A row of one's own is read. -/
theorem teams_of_own {W : World} {base n : Nat} {v : Value} {L : List Int} (h : W.ownsRow base 3 1 v n (vi L)) (hn : L.length = n) : ∃ a c, v = .slice a n c ∧ TeamsAt W a L := by
  rcases h.2 with ⟨hv, h0⟩ | ⟨q, cap, cur, hv, _⟩
  · refine ⟨none, 0, by rw [hv, h0], fun j hj => by omega⟩
  · refine ⟨some ⟨q, 0, none⟩, cap, hv, fun j hj => ⟨q, 0, rfl, ?_⟩⟩
    rw [hv] at h
    rw [Nat.zero_add, h.cellAt j (by omega)]
    exact vi_get L j hj

/-! ### The calendar and the changes of the law -/
def flL (B : Nat) : List Win := [⟨10, 30, some ⟨B, 0, none⟩, 2, 2⟩, ⟨40, 50, some ⟨B + 1, 0, none⟩, 1, 1⟩]
def flT (j : Nat) : List Int := if j = 0 then [0, 1] else [0]
theorem fl_fi {B : Nat} {d : Int} (h : 10 ≤ d) (h2 : d < 30) : fi d (flL B) = 0 := by
  unfold fi flL
  rw [List.findIdx_cons]
  have : inD d ⟨10, 30, some ⟨B, 0, none⟩, 2, 2⟩ = true := by
    unfold inD
    rw [decide_eq_true h, decide_eq_true h2]; rfl
  rw [this]; rfl

/-- n changes of team 0, then those of team 1, all in the first window. -/
structure Chg (n : Nat) (TS DS : List Int) : Prop where
  len : DS.length = TS.length
  t0 : ∀ j, j < TS.length → j < n → TS.getD j 0 = 0
  t1 : ∀ j, j < TS.length → n ≤ j → TS.getD j 0 = 1
  d : ∀ j, j < DS.length → 10 ≤ DS.getD j 0 ∧ DS.getD j 0 < 30
theorem Chg.nil (n : Nat) : Chg n [] [] := ⟨rfl, fun j hj => by simp at hj, fun j hj => by simp at hj, fun j hj => by simp at hj⟩
theorem Chg.snoc {n : Nat} {TS DS : List Int} (h : Chg n TS DS) {t d : Int} (ht : (TS.length < n ∧ t = 0) ∨ (n ≤ TS.length ∧ t = 1)) (hd : 10 ≤ d ∧ d < 30) : Chg n (TS ++ [t]) (DS ++ [d]) := by
  have hl : (TS ++ [t]).length = TS.length + 1 := by simp
  have hl2 : (DS ++ [d]).length = DS.length + 1 := by simp
  refine ⟨by rw [hl, hl2, h.len], fun j hj hn => ?_, fun j hj hn => ?_, fun j hj => ?_⟩
  · rcases Nat.lt_or_ge j TS.length with h' | h'
    · rw [getD_snoc_lt _ _ _ h']; exact h.t0 j h' hn
    · rw [getD_snoc_eq _ _ _ (by omega)]
      rcases ht with ⟨_, e⟩ | ⟨e, _⟩
      · exact e
      · omega
  · rcases Nat.lt_or_ge j TS.length with h' | h'
    · rw [getD_snoc_lt _ _ _ h']; exact h.t1 j h' hn
    · rw [getD_snoc_eq _ _ _ (by omega)]
      rcases ht with ⟨e, _⟩ | ⟨_, e⟩
      · omega
      · exact e
  · rcases Nat.lt_or_ge j DS.length with h' | h'
    · rw [getD_snoc_lt _ _ _ h']; exact h.d j h'
    · rw [getD_snoc_eq _ _ _ (by omega)]; exact hd
theorem Chg.teams {n : Nat} {TS DS : List Int} (h : Chg n TS DS) : ∀ j, j < TS.length → TS.getD j 0 = 0 ∨ TS.getD j 0 = 1 := fun j hj => by
  rcases Nat.lt_or_ge j n with h' | h'
  · exact .inl (h.t0 j hj h')
  · exact .inr (h.t1 j hj h')
theorem Chg.all {n : Nat} {TS DS : List Int} (h : Chg n TS DS) : TS.all (isT 2) = true := by
  rw [List.all_eq_true]
  intro x hx
  obtain ⟨j, hj, rfl⟩ := List.getElem_of_mem hx
  have := h.teams j hj
  rw [List.getD, List.getElem?_eq_getElem hj] at this
  rcases this with e | e <;> simp only [Option.getD_some] at e <;> rw [e] <;> decide
theorem Chg.may {n B : Nat} {TS DS : List Int} (h : Chg n TS DS) : ∀ j, j < TS.length → mayF (flL B) flT (DS.getD j 0) (TS.getD j 0) = true := fun j hj => by
  obtain ⟨d1, d2⟩ := h.d j (by rw [h.len]; exact hj)
  unfold mayF
  rw [fl_fi d1 d2]
  rcases h.teams j hj with e | e <;> rw [e] <;> rfl
theorem Chg.cnt {n B : Nat} {TS DS : List Int} (h : Chg n TS DS) : ∀ k, k ≤ TS.length → cnt (flL B) TS DS k 0 0 = min k n ∧ cnt (flL B) TS DS k 0 1 = k - n ∧ ∀ i t, (i ≠ 0 ∨ 2 ≤ t) → cnt (flL B) TS DS k i t = 0 := by
  intro k
  induction k with
  | zero => intro _; exact ⟨by rw [Nat.zero_min]; rfl, by rw [Nat.zero_sub]; rfl, fun _ _ _ => rfl⟩
  | succ k ih =>
    intro hk
    obtain ⟨h1, h2, h3⟩ := ih (by omega)
    obtain ⟨d1, d2⟩ := h.d k (by rw [h.len]; omega)
    refine ⟨?_, ?_, fun i t hit => ?_⟩
    · rw [cnt_succ, h1, fl_fi d1 d2]
      rcases Nat.lt_or_ge k n with h' | h'
      · rw [h.t0 k (by omega) h', if_pos ⟨rfl, rfl⟩]; omega
      · rw [h.t1 k (by omega) h', if_neg (fun e => by have := e.2; omega)]; omega
    · rw [cnt_succ, h2, fl_fi d1 d2]
      rcases Nat.lt_or_ge k n with h' | h'
      · rw [h.t0 k (by omega) h', if_neg (fun e => by have := e.2; omega)]; omega
      · rw [h.t1 k (by omega) h', if_pos ⟨rfl, rfl⟩]; omega
    · rw [cnt_succ, h3 i t hit, fl_fi d1 d2, if_neg]
      rintro ⟨e1, e2⟩
      rcases hit with e | e
      · exact e e1.symm
      · rcases h.teams k (by omega) with e' | e' <;> omega
end Go.Proofs.Ytnconhbambhhgaa
