/- fill: a calendar, and changes of its teams that fit. -/
import Derived.Test.YtnconhbambhhgaaRfF
import Derived.Test.YtnconhbambhhgaaRegE
import Derived.Test.YtnconhbambhhgaaCalD
namespace Go.Proofs.Ytnconhbambhhgaa
open Go.RowKit
set_option linter.all false

/-- Changes that fit. -/
structure Chx (L : List Win) (T : Nat → List Int) (R TS DS : List Int) : Prop where
  len : DS.length = TS.length
  tin : TS.all (isT R.length) = true
  may : ∀ j, j < TS.length → mayF L T (DS.getD j 0) (TS.getD j 0) = true
  fit : ∀ i t, i < L.length → t < R.length → (cnt L TS DS TS.length i t : Int) ≤ R.getD t 0
theorem cnt_snoc (L : List Win) (TS DS : List Int) (t d : Int) (hl : DS.length = TS.length) (k : Nat) (hk : k ≤ TS.length) (i j : Nat) : cnt L (TS ++ [t]) (DS ++ [d]) k i j = cnt L TS DS k i j := by
  induction k with
  | zero => rfl
  | succ k ih =>
    rw [cnt_succ, cnt_succ, ih (by omega), getD_snoc_lt _ _ _ (by omega), getD_snoc_lt _ _ _ (by omega)]
theorem cnt_snoc_all (L : List Win) (TS DS : List Int) (t d : Int) (hl : DS.length = TS.length) (i j : Nat) : cnt L (TS ++ [t]) (DS ++ [d]) (TS ++ [t]).length i j = cnt L TS DS TS.length i j + if fi d L = i ∧ t = (j : Int) then 1 else 0 := by
  rw [show (TS ++ [t]).length = TS.length + 1 by simp, cnt_succ, cnt_snoc L TS DS t d hl _ (Nat.le_refl _), getD_snoc_eq _ _ _ rfl, getD_snoc_eq _ _ _ hl.symm]
theorem Chx.nil (L : List Win) (T : Nat → List Int) (R : List Int) (h : ∀ t, t < R.length → 0 ≤ R.getD t 0) : Chx L T R [] [] :=
  ⟨rfl, rfl, fun j hj => by simp at hj, fun i t _ ht => by have := h t ht; simpa [cnt] using this⟩
theorem Chx.snoc {L : List Win} {T : Nat → List Int} {R TS DS : List Int} (h : Chx L T R TS DS) {team : Nat} {d : Int} (ht : team < R.length) (hm : mayF L T d (team : Int) = true) (hc : (cnt L TS DS TS.length (fi d L) team : Int) < R.getD team 0) : Chx L T R (TS ++ [(team : Int)]) (DS ++ [d]) := by
  refine ⟨by simp [h.len], ?_, fun j hj => ?_, fun i t hi ht' => ?_⟩
  · rw [List.all_append, h.tin, Bool.true_and]
    have : isT R.length (team : Int) = true := by
      unfold isT
      rw [decide_eq_true (by omega), decide_eq_true (by omega)]; rfl
    simp [this]
  · rcases Nat.lt_or_ge j TS.length with h' | h'
    · rw [getD_snoc_lt _ _ _ h', getD_snoc_lt _ _ _ (by rw [h.len]; exact h')]; exact h.may j h'
    · have hj' : j = TS.length := by simp at hj; omega
      rw [getD_snoc_eq _ _ _ hj', getD_snoc_eq _ _ _ (by rw [h.len]; exact hj')]; exact hm
  · rw [cnt_snoc_all L TS DS _ _ h.len]
    by_cases e : fi d L = i ∧ (team : Int) = (t : Int)
    · obtain ⟨rfl, e2⟩ := e
      obtain rfl : team = t := by omega
      rw [if_pos ⟨rfl, rfl⟩]; omega
    · rw [if_neg e, Nat.add_zero]; exact h.fit i t hi ht'
/-- On the way through fill. -/
structure FilMid (w W : World) (g S : Nat) (tv dv : Value) (TS DS : List Int) : Prop where
  dice : DiceAt W g
  grown : w.grownBy W (some g)
  ownt : W.ownsRow S 3 1 tv TS.length (vi TS)
  ownd : W.ownsRow S 3 1 dv DS.length (vi DS)
  sep : ∀ k, tv.ownBlock = some k → dv.ownBlock ≠ some k
  size : S ≤ W.heap.size
theorem grown_own {w W W' : World} {g S : Nat} {row : Option Nat} (h : w.grownBy W (some g)) (hg : W.grownBy W' row) (hr : ∀ k, row = some k → w.heap.size ≤ k) : w.grownBy W' (some g) :=
  ⟨hg.os.trans h.os, hg.tape.trans h.tape, hg.output.trans h.output, Nat.le_trans h.size hg.size, fun k hk hne => (hg.block k (by have := h.size; omega) (fun e => by have := hr k e.symm; omega)).trans (h.block k hk hne)⟩
theorem DiceAt.own {W W' : World} {g S : Nat} {row : Option Nat} (h : DiceAt W g) (hg : W.grownBy W' row) (hr : ∀ k, row = some k → S ≤ k) (hS : g < S) : DiceAt W' g := by
  obtain ⟨a, n, c, k, d0, d1, d2, d3⟩ := h
  refine ⟨a, n, c, k, (hg.block g (lt_of_heap d0) (fun e => by have := hr g e.symm; omega)).trans d0, d1, d2, d3.keep fun b o u hb hu => ?_⟩
  rw [World.cell?_of_block (a := ⟨b, o, none⟩) (hg.block b (by have := lt_of_heap d0; omega) (fun e => by have := hr b e.symm; omega))]; exact hu
theorem FilMid.appt {w W W5 : World} {g0 S : Nat} {tv dv : Value} {TS DS : List Int} {x : Int} {g cap : Nat} {o : Obj} (h : FilMid w W g0 S tv dv TS DS) (hS : g0 < S) (hwS : w.heap.size ≤ S)
    (ho : W5.ownsRow S 3 1 (.slice (some ⟨g, 0, none⟩) (TS.length + 1) cap) (TS.length + 1) (vi TS ++ [.int .i64 x])) (hg : (W.alloc o).grownBy W5 tv.ownBlock) (hq : tv.ownBlock = some g ∨ g = (W.alloc o).heap.size) :
    FilMid w W5 g0 S (.slice (some ⟨g, 0, none⟩) (TS.length + 1) cap) dv (TS ++ [x]) DS := by
  have hg2 : W.grownBy W5 tv.ownBlock := (World.grownBy_alloc W _ _).trans hg
  have hr : ∀ k, tv.ownBlock = some k → S ≤ k := fun k e => (h.ownt.lt k e).1
  refine ⟨h.dice.own hg2 hr hS, grown_own (S := S) h.grown hg2 (fun k e => Nat.le_trans hwS (hr k e)), ?_, h.ownd.kept hg2 ?_, fun k hk => ?_, Nat.le_trans h.size hg2.size⟩
  · rw [show (TS ++ [x]).length = TS.length + 1 by simp, vi_snoc]; exact ho
  · cases hp : dv.ownBlock with
    | none => exact .inl rfl
    | some k => exact .inr fun e => h.sep k e.symm hp
  · simp only [Value.ownBlock, Option.some.injEq] at hk
    subst hk
    intro e
    rcases hq with hq | hq
    · exact h.sep g hq e
    · have := (h.ownd.lt g e).2
      simp at hq
      omega
theorem FilMid.appd {w W W5 : World} {g0 S : Nat} {tv dv : Value} {TS DS : List Int} {x : Int} {g cap : Nat} {o : Obj} (h : FilMid w W g0 S tv dv TS DS) (hS : g0 < S) (hwS : w.heap.size ≤ S)
    (ho : W5.ownsRow S 3 1 (.slice (some ⟨g, 0, none⟩) (DS.length + 1) cap) (DS.length + 1) (vi DS ++ [.int .i64 x])) (hg : (W.alloc o).grownBy W5 dv.ownBlock) (hq : dv.ownBlock = some g ∨ g = (W.alloc o).heap.size) :
    FilMid w W5 g0 S tv (.slice (some ⟨g, 0, none⟩) (DS.length + 1) cap) TS (DS ++ [x]) := by
  have hg2 : W.grownBy W5 dv.ownBlock := (World.grownBy_alloc W _ _).trans hg
  have hr : ∀ k, dv.ownBlock = some k → S ≤ k := fun k e => (h.ownd.lt k e).1
  refine ⟨h.dice.own hg2 hr hS, grown_own (S := S) h.grown hg2 (fun k e => Nat.le_trans hwS (hr k e)), h.ownt.kept hg2 ?_, ?_, fun k hk => ?_, Nat.le_trans h.size hg2.size⟩
  · cases hp : tv.ownBlock with
    | none => exact .inl rfl
    | some k => exact .inr fun e => h.sep k hp e.symm
  · rw [show (DS ++ [x]).length = DS.length + 1 by simp, vi_snoc]; exact ho
  · simp only [Value.ownBlock, ne_eq, Option.some.injEq]
    intro e
    subst e
    rcases hq with hq | hq
    · exact h.sep g hk hq
    · have := (h.ownt.lt g hk).2
      simp at hq
      omega
theorem FilMid.threw {w W W' : World} {g S : Nat} {tv dv : Value} {TS DS : List Int} (h : FilMid w W g S tv dv TS DS) (hS : g < S) (hd : DiceAt W' g) (hg : W.grownBy W' (some g)) : FilMid w W' g S tv dv TS DS := by
  refine ⟨hd, h.grown.trans hg, h.ownt.kept hg ?_, h.ownd.kept hg ?_, h.sep, Nat.le_trans h.size hg.size⟩
  · cases hp : tv.ownBlock with
    | none => exact .inl rfl
    | some k => exact .inr fun e => by have := (h.ownt.lt k hp).1; simp at e; omega
  · cases hp : dv.ownBlock with
    | none => exact .inl rfl
    | some k => exact .inr fun e => by have := (h.ownd.lt k hp).1; simp at e; omega
/-- A row of one's own is read, whatever the dice at g do. -/
theorem own_teams {W : World} {g S n : Nat} {v : Value} {L : List Int} (h : W.ownsRow S 3 1 v n (vi L)) (hn : L.length = n) (hS : g < S) : ∃ a c, v = .slice a n c ∧ ∀ W2, W.grownBy W2 (some g) → TeamsAt W2 a L := by
  rcases h.2 with ⟨hv, h0⟩ | ⟨q, cap, cur, hv, hbq, _⟩
  · exact ⟨none, 0, by rw [hv, h0], fun _ _ j hj => by omega⟩
  · refine ⟨some ⟨q, 0, none⟩, cap, hv, fun W2 hg j hj => ⟨q, 0, rfl, ?_⟩⟩
    rw [hv] at h
    have hc : W.cell? ⟨q, 0 + j, none⟩ = some (.int .i64 (L.getD j 0)) := by
      rw [Nat.zero_add, h.cellAt j (by omega)]
      exact vi_get L j hj
    exact hg.cell hc (by simp; omega)

def v7 (k : Nat) (r : Int) (ok : Bool) : Value := match k with
  | 7 => .tuple #[.int .i64 r, .bool ok, .int .i64 0]
  | 8 => .int .i64 r
  | 9 => .bool ok
  | 11 => .int .i64 r
  | 12 => .bool ok
  | _ => undef
def j7 (k : Nat) : Bool := k == 7 || k == 8 || k == 9 || k == 11 || k == 12
theorem j7_or {k : Nat} (h : j7 k = true) : k = 7 ∨ k = 8 ∨ k = 9 ∨ k = 11 ∨ k = 12 := by
  unfold j7 at h
  simp at h
  omega
def X7 (Gd : Int → Bool → Prop) (k1 k2 : Nat) (u1 u2 : Value) : Prop := j7 k1 = true → j7 k2 = true → ∃ r ok, Gd r ok ∧ u1 = v7 k1 r ok ∧ u2 = v7 k2 r ok
theorem X7.no {Gd : Int → Bool → Prop} {k i : Nat} {u1 u2 : Value} (h : j7 i = false) : X7 Gd k i u1 u2 := fun _ h2 => by rw [h] at h2; cases h2
theorem X7.no' {Gd : Int → Bool → Prop} {k i : Nat} {u1 u2 : Value} (h : j7 i = false) : X7 Gd i k u1 u2 := fun h2 => by rw [h] at h2; cases h2
theorem X7.no1 {Gd : Int → Bool → Prop} {k i : Nat} {u1 u2 : Value} (h : j7 k = false) : X7 Gd k i u1 u2 := fun h2 => by rw [h] at h2; cases h2
theorem X7.no2 {Gd : Int → Bool → Prop} {k i : Nat} {u1 u2 : Value} (h : j7 k = false) : X7 Gd i k u1 u2 := fun _ h2 => by rw [h] at h2; cases h2
theorem v7_inj7 {r r' : Int} {ok ok' : Bool} (h : v7 7 r ok = v7 7 r' ok') : r = r' ∧ ok = ok' := by
  simp only [v7] at h
  simpa using h
theorem v7_inj8 {r r' : Int} {ok ok' : Bool} (h : v7 8 r ok = v7 8 r' ok') : r = r' := by
  simp only [v7] at h
  simpa using h
theorem v7_inj9 {r r' : Int} {ok ok' : Bool} (h : v7 9 r ok = v7 9 r' ok') : ok = ok' := by
  simp only [v7] at h
  simpa using h
theorem v7_7_8 {r r' : Int} {ok ok' : Bool} (h : r = r' ∧ ok = ok') : v7 8 r ok = v7 8 r' ok' := by rw [h.1, h.2]
theorem v7_7_9 {r r' : Int} {ok ok' : Bool} (h : r = r' ∧ ok = ok') : v7 9 r ok = v7 9 r' ok' := by rw [h.1, h.2]
theorem v7_8_11 {r r' : Int} {ok ok' : Bool} (h : r = r') : v7 11 r ok = v7 11 r' ok' := by simp [v7, h]
theorem v7_9_12 {r r' : Int} {ok ok' : Bool} (h : ok = ok') : v7 12 r ok = v7 12 r' ok' := by simp [v7, h]
def G7 (p q r : Option Addr) (nL c1 nQ c2 nR g team : Nat) (tv dv : Value) (Gd : Int → Bool → Prop) (_ : Array Bool) (k : Nat) (v : Value) (_ : World) : Prop := match k with
  | 0 => v = .agg #[.slice p nL c1, .slice q nQ c2, .slice r nR 2]
  | 1 => v = tv
  | 2 => v = dv
  | 3 => v = .int .i64 (team : Int)
  | 4 => v = .pointer (some ⟨g, 0, none⟩)
  | 5 => ∃ x, v = .int .i64 x
  | 6 => ∃ r ok, Gd r ok ∧ v = .tuple #[.int .i64 r, .bool ok, .int .i64 0]
  | 7 => ∃ r ok, Gd r ok ∧ v = v7 7 r ok
  | 8 => ∃ r ok, Gd r ok ∧ v = v7 8 r ok
  | 9 => ∃ r ok, Gd r ok ∧ v = v7 9 r ok
  | 10 => v = .int .i64 0
  | 11 => ∃ r ok, Gd r ok ∧ v = v7 11 r ok
  | 12 => ∃ r ok, Gd r ok ∧ v = v7 12 r ok
  | 13 => v = .int .i64 0
  | _ => True
def FillP (w : World) (g : Nat) (e : Ending) (w' : World) : Prop :=
  ∃ (p q r ta da : Option Addr) (c1 c2 ct cd : Nat) (L : List Win) (T : Nat → List Int) (Q R TS DS : List Int), e = .returned (.tuple #[.agg #[.slice p L.length c1, .slice q Q.length c2, .slice r R.length 2], .slice ta TS.length ct, .slice da TS.length cd]) ∧ DiceAt w' g ∧ w.grownBy w' (some g) ∧
    (∀ W2, w'.grownBy W2 (some g) → GoodCal W2 p q r L T Q R ∧ TeamsAt W2 ta TS ∧ TeamsAt W2 da DS) ∧ R.length = 2 ∧ Q.length = 3 ∧ 2 ≤ L.length ∧ L.length ≤ 5 ∧ (∀ j, j < L.length → (L.getD j win0).to_ ≤ 204) ∧ Chx L T R TS DS ∧ TS.length ≤ 6
theorem res15_run {W : World} {b : Nat} {v1 v2 v3 x y : Value} {a : Act} (hh : W.heap[b]? = some (.cells #[v1, v2, v3] 38 (0, 0))) (ht : a.tmps.getD 2 undef = .pointer (some ⟨b, 0, none⟩)) (hx : a.tmps.getD 3 undef = x) (hy : a.tmps.getD 4 undef = y) :
    (results Try.f15 a.tmps).run Try.prog W = .ok (.tuple #[.agg #[v1, v2, v3], x, y]) W := by
  have e0 := cell_of_row _ b 0 _ _ _ hh
  have e1 := cell_of_row _ b 1 _ _ _ hh
  have e2 := cell_of_row _ b 2 _ _ _ hh
  simp at e0 e1 e2 ht hx hy
  clear hh
  simp [results, Try.results15, go_sem, ht, e0, e1, e2, hx, hy]

theorem int_ne {W : World} {Z b o : Nat} {x : Int} (hz : W.heap[Z]? = some (.cells #[.slice none 0 0, .slice none 0 0, .slice none 0 0] 38 (0, 0))) (h : W.cell? ⟨b, o, none⟩ = some (.int .i64 x)) : b ≠ Z := by
  intro e
  subst e
  rw [cell_of_row _ b o _ _ _ hz] at h
  match o, h with
  | 0, h => simp at h
  | 1, h => simp at h
  | 2, h => simp at h
  | o + 3, h => simp at h
theorem teams_move {W W' : World} {Z : Nat} {p : Option Addr} {L : List Int} (hk : ∀ k, k ≠ Z → W'.heap[k]? = W.heap[k]?) (hz : W.heap[Z]? = some (.cells #[.slice none 0 0, .slice none 0 0, .slice none 0 0] 38 (0, 0))) (h : TeamsAt W p L) : TeamsAt W' p L := fun j hj => by
  obtain ⟨b, o, hp, hc⟩ := h j hj
  refine ⟨b, o, hp, ?_⟩
  rw [World.cell?_of_block (a := ⟨b, o + j, none⟩) (hk b (int_ne hz hc))]; exact hc
theorem good_move {W W' : World} {Z : Nat} {p q r : Option Addr} {L : List Win} {T : Nat → List Int} {Q R : List Int} (hk : ∀ k, k ≠ Z → W'.heap[k]? = W.heap[k]?) (hz : W.heap[Z]? = some (.cells #[.slice none 0 0, .slice none 0 0, .slice none 0 0] 38 (0, 0))) (h : GoodCal W p q r L T Q R) : GoodCal W' p q r L T Q R := by
  refine ⟨fun j hj => ?_, fun j hj => ?_, teams_move hk hz h.team, teams_move hk hz h.room, h.l1, h.l2, h.l3, h.rooms, h.days, h.asc, h.asct, h.tin, h.qin⟩
  · obtain ⟨b, o, hp, h1, h2, h3⟩ := h.wins j hj
    have hb := hk b (int_ne hz h1)
    refine ⟨b, o, hp, ?_, ?_, ?_⟩
    · rw [World.cell?_of_block (a := ⟨b, _, none⟩) hb]; exact h1
    · rw [World.cell?_of_block (a := ⟨b, _, none⟩) hb]; exact h2
    · rw [World.cell?_of_block (a := ⟨b, _, none⟩) hb]; exact h3
  · obtain ⟨h1, h2, h3⟩ := h.ts j hj
    exact ⟨h1, h2, teams_move hk hz h3⟩
theorem three_cells {W : World} {Z : Nat} {a b c v1 v2 v3 : Value} (hz : W.heap[Z]? = some (.cells #[a, b, c] 38 (0, 0))) :
    (((W.setCell ⟨Z, 0, none⟩ v1).setCell ⟨Z, 1, none⟩ v2).setCell ⟨Z, 2, none⟩ v3).heap[Z]? = some (.cells #[v1, v2, v3] 38 (0, 0)) ∧
      (∀ k, k ≠ Z → (((W.setCell ⟨Z, 0, none⟩ v1).setCell ⟨Z, 1, none⟩ v2).setCell ⟨Z, 2, none⟩ v3).heap[k]? = W.heap[k]?) ∧
      (((W.setCell ⟨Z, 0, none⟩ v1).setCell ⟨Z, 1, none⟩ v2).setCell ⟨Z, 2, none⟩ v3).heap.size = W.heap.size := by
  have b1 := heap_setCell_same W Z 0 _ _ v1 hz
  have b2 := heap_setCell_same _ Z 1 _ _ v2 b1
  have b3 := heap_setCell_same _ Z 2 _ _ v3 b2
  refine ⟨b3, fun k hk => ?_, by simp [World.setCell]⟩
  exact (heap_setCell_other _ ⟨Z, 2, none⟩ k _ hk).trans ((heap_setCell_other _ ⟨Z, 1, none⟩ k _ hk).trans (heap_setCell_other _ ⟨Z, 0, none⟩ k _ hk))
theorem restore {W W2 : World} {Z g : Nat} {v1 v2 v3 : Value} (hz : W.heap[Z]? = some (.cells #[.slice none 0 0, .slice none 0 0, .slice none 0 0] 38 (0, 0)))
    (hg : (((W.setCell ⟨Z, 0, none⟩ v1).setCell ⟨Z, 1, none⟩ v2).setCell ⟨Z, 2, none⟩ v3).grownBy W2 (some g)) (hne : Z ≠ g) :
    ∃ W3, W.grownBy W3 (some g) ∧ (∀ k, k ≠ Z → W2.heap[k]? = W3.heap[k]?) ∧ W3.heap[Z]? = some (.cells #[.slice none 0 0, .slice none 0 0, .slice none 0 0] 38 (0, 0)) := by
  obtain ⟨h1, h2, h3⟩ := three_cells (v1 := v1) (v2 := v2) (v3 := v3) hz
  have hlt := lt_of_heap h1
  have hz2 := (hg.block Z hlt (by simp; omega)).trans h1
  obtain ⟨k1, k2, k3⟩ := three_cells (v1 := .slice none 0 0) (v2 := .slice none 0 0) (v3 := .slice none 0 0) hz2
  have hsz := hg.size
  refine ⟨((W2.setCell ⟨Z, 0, none⟩ (.slice none 0 0)).setCell ⟨Z, 1, none⟩ (.slice none 0 0)).setCell ⟨Z, 2, none⟩ (.slice none 0 0), ⟨hg.os, hg.tape, hg.output, by rw [k3]; rw [h3] at hsz; exact hsz, fun k hk hkg => ?_⟩, fun k hk => (k2 k hk).symm, k1⟩
  by_cases e : k = Z
  · subst e; rw [k1, hz]
  · rw [k2 k e, hg.block k (by rw [h3]; exact hk) hkg, h2 k e]

set_option maxRecDepth 100000 in
set_option maxHeartbeats 8000000 in
theorem fill_any (w : World) (g : Nat) (h : DiceAt w g) : Calls Try.prog 15 #[.pointer (some ⟨g, 0, none⟩)] w (FillP w g) := by
  have hlt := h.lt
  obtain ⟨i0, hi0, hz0, hz1, hz2⟩ := info_parts info3
  obtain ⟨Z, hZ⟩ : ∃ Z, w.heap.size = Z := ⟨_, rfl⟩
  have hd1 := h.below ((Below.refl w.heap.size w).alloc (Nat.le_refl _) (.cells #[.slice none 0 0, .slice none 0 0, .slice none 0 0] 38))
  have hzh : (w.alloc (.cells #[.slice none 0 0, .slice none 0 0, .slice none 0 0] 38)).heap[Z]? = some (.cells #[.slice none 0 0, .slice none 0 0, .slice none 0 0] 38 (0, 0)) := by rw [← hZ]; exact heap_alloc_new _ _
  have C1 := Lib.hid (calendar_any _ g hd1)
  have HZ := Lib.hid hZ; have HZH := Lib.hid hzh
  have hgz : w.grownBy (w.alloc (.cells #[.slice none 0 0, .slice none 0 0, .slice none 0 0] 38)) (some g) := World.grownBy_alloc _ _ _
  have HGZ := Lib.hid hgz
  clear h hd1 hzh hgz
  go_enter Try.func15, Try.ntmps15
  go_wp2_with fail
  clear hZ
  generalize (w.alloc (.cells #[.slice none 0 0, .slice none 0 0, .slice none 0 0] 38)) = wz at *
  refine (C1.out).mono ?_
  rintro e w1 ⟨p, q, r, c1, c2, L, T, Q, R, rfl, hd1, hg1, hgood, hR, hQ, hL2, hL5, hto⟩
  obtain ⟨Cb, hCb⟩ : ∃ C, w1.heap.size = C := ⟨_, rfl⟩
  have hd2 := hd1.below ((Below.refl _ _).alloc (Nat.le_refl _) (.cells #[.slice p L.length c1, .slice q Q.length c2, .slice r R.length 2] 38))
  have hch : (w1.alloc (.cells #[.slice p L.length c1, .slice q Q.length c2, .slice r R.length 2] 38)).heap[Cb]? = some (.cells #[.slice p L.length c1, .slice q Q.length c2, .slice r R.length 2] 38 (0, 0)) := by rw [← hCb]; exact heap_alloc_new _ _
  have hgA : w1.grownBy (w1.alloc (.cells #[.slice p L.length c1, .slice q Q.length c2, .slice r R.length 2] 38)) (some g) := World.grownBy_alloc _ _ _
  have hzlt := lt_of_heap HZH.out
  have hZs := HZ.out
  have hgz : g ≠ Z := by omega
  have hZ1 : (w1.alloc (.cells #[.slice p L.length c1, .slice q Q.length c2, .slice r R.length 2] 38)).heap[Z]? = some (.cells #[.slice none 0 0, .slice none 0 0, .slice none 0 0] 38 (0, 0)) := by
    rw [hgA.block Z (by have := hg1.size; omega) (by simp; omega), hg1.block Z hzlt (by simp; omega)]; exact HZH.out
  have hCg : g < Cb := by have := hd1.lt; omega
  have hZC : Z < Cb := by have := hg1.size; omega
  have HGW := Lib.hid ((HGZ.out.trans hg1).trans hgA)
  have HGOOD := Lib.hid (fun W2 (hW : (w1.alloc (.cells #[.slice p L.length c1, .slice q Q.length c2, .slice r R.length 2] 38)).grownBy W2 (some g)) => hgood W2 (hgA.trans hW))
  have HD2 := Lib.hid hd2; have HCH := Lib.hid hch; have HZ1 := Lib.hid hZ1; have HTO := Lib.hid hto
  have hszA : (w1.alloc (.cells #[.slice p L.length c1, .slice q Q.length c2, .slice r R.length 2] 38)).heap.size = Cb + 1 := by simp [hCb]
  have HRL := Lib.hid hR; have HQL := Lib.hid hQ
  clear hd1 hg1 hgood hto hd2 hch hgA hZ1 C1 HGZ HZH hzlt hR hQ
  have CN := Lib.hid (next_any _ g 7 (by decide) (by decide) HD2.out)
  go_wp2_with fail
  clear hCb
  generalize (w1.alloc (.cells #[.slice p L.length c1, .slice q Q.length c2, .slice r R.length 2] 38)) = wA at *
  refine (CN.out).mono ?_
  rintro e w2 ⟨k0, rfl, hk0, hk1, hd2, hg2⟩
  obtain ⟨kk, rfl⟩ := Int.eq_ofNat_of_zero_le hk0
  obtain ⟨S, hS⟩ : ∃ S, w2.heap.size = S := ⟨_, rfl⟩
  have hSC : Cb < S := by have := hg2.size; omega
  have hgS : g < S := by omega
  have hrooms : ∀ t, t < R.length → 0 ≤ R.getD t 0 := fun t ht => by
    have hgd := HGOOD.out wA (World.grownBy.refl _ _)
    have := List.all_eq_true.1 hgd.rooms (R[t]) (List.getElem_mem ht)
    unfold roomB at this
    rw [List.getD, List.getElem?_eq_getElem ht]
    simp at this
    exact this.1
  have hmid : FilMid w w2 g S (.slice none 0 0) (.slice none 0 0) [] [] := ⟨hd2, HGW.out.trans hg2, World.ownsRow_nil _ _ _ _, World.ownsRow_nil _ _ _ _, (fun k hk => by cases hk), by omega⟩
  have HMID := Lib.hid hmid; have HA2 := Lib.hid hg2; have HCX := Lib.hid (Chx.nil L T R hrooms)
  clear hd2 hg2 hmid CN hrooms hS
  go_wp2_with fail
  go_loopw [6, 7, 8] (fun tv dv kv wr => ∃ (k : Nat) (TS DS : List Int), kv = .int .i64 (k : Int) ∧ TS.length + k ≤ 6 ∧ FilMid w wr g S tv dv TS DS ∧ wA.grownBy wr (some g) ∧ Chx L T R TS DS) (fun _ _ kv _ => (intOf kv).toNat)
  case atStart => exact ⟨kk, [], [], rfl, by simp; omega, HMID.out, HA2.out, HCX.out⟩
  case round =>
    clear HMID HA2 HCX
    obtain ⟨k, TS, DS, rfl, hk6, hM, hgA, hC⟩ := hrel
    have HM := Lib.hid hM; have HA := Lib.hid hgA; have HC := Lib.hid hC
    clear hM hgA hC
    by_cases hk : 0 < k
    · have hk' : (0 : Int) < (k : Int) := by omega
      have hkd : decide (0 < k) = true := decide_eq_true hk
      have s3 : IntKind.i64.wrap ((k : Int) - 1) = ((k - 1 : Nat) : Int) := by rw [IntWalk.i64_in _ (by omega)]; omega
      have CT := Lib.hid (next_any wr g 2 (by decide) (by decide) HM.out.dice)
      go_wp2_with fail
      refine (CT.out).mono ?_
      rintro e w3 ⟨tm, rfl, ht0, ht1, hd3, hg3⟩
      obtain ⟨team, rfl⟩ := Int.eq_ofNat_of_zero_le ht0
      have HM3 := Lib.hid (HM.out.threw hgS hd3 hg3); have HA3 := Lib.hid (HA.out.trans hg3)
      obtain ⟨ta, ct, hut, htt⟩ := own_teams HM3.out.ownt rfl hgS
      obtain ⟨da, cd, hud, hdt⟩ := own_teams HM3.out.ownd rfl hgS
      obtain ⟨Gd, hGd⟩ : ∃ Gd : Int → Bool → Prop, Gd = fun r ok => ok = true → mayF L T r (team : Int) = true ∧ (cnt L TS DS TS.length (fi r L) team : Int) < R.getD team 0 := ⟨_, rfl⟩
      have HEA := Lib.hid (fun (x : Int) W (hW : w3.grownBy W (some g)) => show Calls Try.prog 29 #[.agg #[.slice p L.length c1, .slice q Q.length c2, .slice r R.length 2], .slice ta TS.length ct, .slice da DS.length cd, .int .i64 (team : Int), .int .i64 x] W (fun e w' => ∃ r1 ok1, e = .returned (.tuple #[.int .i64 r1, .bool ok1, .int .i64 0]) ∧ Gd r1 ok1 ∧ Below W.heap.size W w') by
        have hc := rearliest_good p q r ta da L T Q R TS DS c1 c2 2 ct cd team x W (HGOOD.out W (HA3.out.trans hW)) (by omega) (htt W hW) (hdt W hW) HC.out.len (by omega) HC.out.tin (by have := HRL.out; omega) HC.out.may HC.out.fit
        rw [hGd]
        exact hc)
      have HUT := Lib.hid hut; have HUD := Lib.hid hud; have HGD := Lib.hid hGd
      have HCAL := Lib.hid (fun W (hW : w3.grownBy W (some g)) => show W.heap[Cb]? = some (.cells #[.slice p L.length c1, .slice q Q.length c2, .slice r R.length 2] 38 (0, 0)) by
        have h1 := (HA3.out.block Cb (lt_of_heap HCH.out) (by simp; omega)).trans HCH.out
        rw [hW.block Cb (lt_of_heap h1) (by simp; omega)]; exact h1)
      clear hd3 hg3 htt hdt hut hud hGd CT
      have HTT := Lib.hid ht1
      clear ht0 ht1
      go_upto_region 7 with fail
      refine region_facts3E (by kernel_rfl) (G7 p q r L.length c1 Q.length c2 R.length g team u6 u7 Gd) (X7 Gd) (fun _ W => DiceAt W g ∧ w3.grownBy W (some g)) (by kernel_rfl) (by kernel_rfl) ?h0 ?hstep ?hend
      case h0 =>
        have hb := below_drewN (Below.refl w3.heap.size w3) 1
        exact ⟨HM3.out.dice.below hb, ⟨hb.os, hb.tape, hb.output, hb.size, fun k hk _ => hb.block k hk⟩⟩
      case hstep =>
        intro i oo l a W ho hat hX K hK
        have hi : i < 14 := (Array.getElem?_eq_some_iff.1 ho).1
        obtain rfl | rfl | rfl | rfl | rfl | rfl | rfl | rfl | rfl | rfl | rfl | rfl | rfl | rfl : i = 0 ∨ i = 1 ∨ i = 2 ∨ i = 3 ∨ i = 4 ∨ i = 5 ∨ i = 6 ∨ i = 7 ∨ i = 8 ∨ i = 9 ∨ i = 10 ∨ i = 11 ∨ i = 12 ∨ i = 13 := by omega
        all_goals
          have ho := Option.some.inj (show some _ = some oo from ho)
          subst ho
        · have e0 : a.tmps[5]?.getD undef = .pointer (some ⟨Cb, 0, none⟩) := hat.out 5 (by kernel_rfl)
          have hcb := HCAL.out W hat.base.2
          have x0 := cell_of_row _ Cb 0 _ _ _ hcb
          have x1 := cell_of_row _ Cb 1 _ _ _ hcb
          have x2 := cell_of_row _ Cb 2 _ _ _ hcb
          simp at x0 x1 x2
          clear hcb
          have HF1 := Lib.hid (hK (.agg #[.slice p L.length c1, .slice q Q.length c2, .slice r R.length 2]) W rfl (fun k d hk hl => hat.have_ k d hk hl) (fun _ _ _ _ _ => ⟨X7.no (by decide), X7.no' (by decide)⟩) hat.base)
          clear hat hX hK
          go_simp
          exact HF1.out
        · have e0 : a.tmps[6]?.getD undef = u6 := hat.out 6 (by kernel_rfl)
          have HF1 := Lib.hid (hK (u6) W rfl (fun k d hk hl => hat.have_ k d hk hl) (fun _ _ _ _ _ => ⟨X7.no (by decide), X7.no' (by decide)⟩) hat.base)
          clear hat hX hK
          go_simp
          exact HF1.out
        · have e0 : a.tmps[7]?.getD undef = u7 := hat.out 7 (by kernel_rfl)
          have HF1 := Lib.hid (hK (u7) W rfl (fun k d hk hl => hat.have_ k d hk hl) (fun _ _ _ _ _ => ⟨X7.no (by decide), X7.no' (by decide)⟩) hat.base)
          clear hat hX hK
          go_simp
          exact HF1.out
        · have e0 : a.tmps[9]?.getD undef = .int .i64 (team : Int) := hat.out 9 (by kernel_rfl)
          have HF1 := Lib.hid (hK (.int .i64 (team : Int)) W rfl (fun k d hk hl => hat.have_ k d hk hl) (fun _ _ _ _ _ => ⟨X7.no (by decide), X7.no' (by decide)⟩) hat.base)
          clear hat hX hK
          go_simp
          exact HF1.out
        · have e0 : a.tmps[0]?.getD undef = .pointer (some ⟨g, 0, none⟩) := hat.out 0 (by kernel_rfl)
          have HF1 := Lib.hid (hK (.pointer (some ⟨g, 0, none⟩)) W rfl (fun k d hk hl => hat.have_ k d hk hl) (fun _ _ _ _ _ => ⟨X7.no (by decide), X7.no' (by decide)⟩) hat.base)
          clear hat hX hK
          go_simp
          exact HF1.out
        · have e0 : a.tmps[28]?.getD undef = .pointer (some ⟨g, 0, none⟩) := hat.have_ 4 28 (by kernel_rfl) (hat.dep 4 (by kernel_rfl))
          have CN := Lib.hid (next_any W g 30 (by decide) (by decide) hat.base.1)
          have HH := Lib.hid (And.intro hat (And.intro hX hK))
          clear hat hX hK
          go_simp
          refine (CN.out).mono ?_
          rintro e w' ⟨x, rfl, hx0, hx1, hd, hg⟩
          obtain ⟨hat, hX, hK⟩ := HH.out
          exact hK _ _ ⟨x, rfl⟩ (fun k d hk hl => hat.have_ k d hk hl) (fun _ _ _ _ _ => ⟨X7.no (by decide), X7.no' (by decide)⟩) ⟨hd, hat.base.2.trans hg⟩
        · have e0 : a.tmps[24]?.getD undef = .agg #[.slice p L.length c1, .slice q Q.length c2, .slice r R.length 2] := hat.have_ 0 24 (by kernel_rfl) (hat.dep 0 (by kernel_rfl))
          have e1 : a.tmps[25]?.getD undef = u6 := hat.have_ 1 25 (by kernel_rfl) (hat.dep 1 (by kernel_rfl))
          have e2 : a.tmps[26]?.getD undef = u7 := hat.have_ 2 26 (by kernel_rfl) (hat.dep 2 (by kernel_rfl))
          have e3 : a.tmps[27]?.getD undef = .int .i64 (team : Int) := hat.have_ 3 27 (by kernel_rfl) (hat.dep 3 (by kernel_rfl))
          obtain ⟨x, e4⟩ := hat.have_ 5 29 (by kernel_rfl) (hat.dep 5 (by kernel_rfl))
          have CE := Lib.hid (HEA.out x W hat.base.2)
          rw [HUT.out] at e1
          rw [HUD.out] at e2
          have HH := Lib.hid (And.intro hat (And.intro hX hK))
          clear hat hX hK
          go_simp
          refine (CE.out).mono ?_
          rintro e w' ⟨r1, ok1, rfl, hgd, hb⟩
          obtain ⟨hat, hX, hK⟩ := HH.out
          exact hK _ _ ⟨r1, ok1, hgd, rfl⟩ (fun k d hk hl => hat.have_ k d hk hl) (fun _ _ _ _ _ => ⟨X7.no (by decide), X7.no' (by decide)⟩) ⟨hat.base.1.below hb, hat.base.2.trans ⟨hb.os, hb.tape, hb.output, hb.size, fun k hk _ => hb.block k hk⟩⟩
        · obtain ⟨r1, ok1, hgd, e0⟩ := hat.have_ 6 30 (by kernel_rfl) (hat.dep 6 (by kernel_rfl))
          have HF1 := Lib.hid (hK (v7 7 r1 ok1) W ⟨r1, ok1, hgd, rfl⟩ (fun k d hk hl => hat.have_ k d hk hl) (fun k d hk hl hki => by
            have hno : j7 k = false := by
              cases hjk : j7 k with
              | false => rfl
              | true =>
                rcases j7_or hjk with rfl | rfl | rfl | rfl | rfl
                · exact absurd rfl hki
                · rw [hat.later 8 (by kernel_rfl)] at hl; cases hl
                · rw [hat.later 9 (by kernel_rfl)] at hl; cases hl
                · rw [hat.later 11 (by kernel_rfl)] at hl; cases hl
                · rw [hat.later 12 (by kernel_rfl)] at hl; cases hl
            exact ⟨X7.no1 hno, X7.no2 hno⟩) hat.base)
          clear hat hX hK
          simp only [v7] at HF1
          go_simp
          exact HF1.out
        · obtain ⟨r0, ok0, hgd, hu⟩ := hat.have_ 7 23 (by kernel_rfl) (hat.dep 7 (by kernel_rfl))
          have hu' := hu
          simp only [v7] at hu'
          have HF1 := Lib.hid (hK (v7 8 r0 ok0) W ⟨r0, ok0, hgd, rfl⟩ (fun k d hk hl => hat.have_ k d hk hl) (fun k d hk hl hki => by
            by_cases hkj : k = 7
            · subst hkj
              have hd : some d = some 23 := hk.symm.trans (by kernel_rfl)
              injection hd with hd
              subst hd
              rw [hu]
              exact ⟨fun _ _ => ⟨r0, ok0, hgd, rfl, rfl⟩, fun _ _ => ⟨r0, ok0, hgd, rfl, rfl⟩⟩
            · refine ⟨fun h1 _ => ?_, fun _ h1 => ?_⟩
              all_goals
                obtain ⟨r1, ok1, hg1, h3, h4⟩ := hX k d 7 23 hk (by kernel_rfl) hl (hat.dep 7 (by kernel_rfl)) hkj h1 rfl
                rw [hu] at h4
                have hinj := v7_inj7 h4
              · exact ⟨r1, ok1, hg1, h3, v7_7_8 hinj⟩
              · exact ⟨r1, ok1, hg1, v7_7_8 hinj, h3⟩) hat.base)
          clear hat hX hK hu
          simp only [v7] at HF1
          go_simp
          exact HF1.out
        · obtain ⟨r0, ok0, hgd, hu⟩ := hat.have_ 7 23 (by kernel_rfl) (hat.dep 7 (by kernel_rfl))
          have hu' := hu
          simp only [v7] at hu'
          have HF1 := Lib.hid (hK (v7 9 r0 ok0) W ⟨r0, ok0, hgd, rfl⟩ (fun k d hk hl => hat.have_ k d hk hl) (fun k d hk hl hki => by
            by_cases hkj : k = 7
            · subst hkj
              have hd : some d = some 23 := hk.symm.trans (by kernel_rfl)
              injection hd with hd
              subst hd
              rw [hu]
              exact ⟨fun _ _ => ⟨r0, ok0, hgd, rfl, rfl⟩, fun _ _ => ⟨r0, ok0, hgd, rfl, rfl⟩⟩
            · refine ⟨fun h1 _ => ?_, fun _ h1 => ?_⟩
              all_goals
                obtain ⟨r1, ok1, hg1, h3, h4⟩ := hX k d 7 23 hk (by kernel_rfl) hl (hat.dep 7 (by kernel_rfl)) hkj h1 rfl
                rw [hu] at h4
                have hinj := v7_inj7 h4
              · exact ⟨r1, ok1, hg1, h3, v7_7_9 hinj⟩
              · exact ⟨r1, ok1, hg1, v7_7_9 hinj, h3⟩) hat.base)
          clear hat hX hK hu
          simp only [v7] at HF1
          go_simp
          exact HF1.out
        · obtain ⟨r1, ok1, hgd, e0⟩ := hat.have_ 7 23 (by kernel_rfl) (hat.dep 7 (by kernel_rfl))
          simp only [v7] at e0
          have HF1 := Lib.hid (hK (.int .i64 0) W rfl (fun k d hk hl => hat.have_ k d hk hl) (fun _ _ _ _ _ => ⟨X7.no (by decide), X7.no' (by decide)⟩) hat.base)
          clear hat hX hK
          go_simp
          exact HF1.out
        · obtain ⟨r0, ok0, hgd, hu⟩ := hat.have_ 8 31 (by kernel_rfl) (hat.dep 8 (by kernel_rfl))
          have hu' := hu
          simp only [v7] at hu'
          have HF1 := Lib.hid (hK (v7 11 r0 ok0) W ⟨r0, ok0, hgd, rfl⟩ (fun k d hk hl => hat.have_ k d hk hl) (fun k d hk hl hki => by
            by_cases hkj : k = 8
            · subst hkj
              have hd : some d = some 31 := hk.symm.trans (by kernel_rfl)
              injection hd with hd
              subst hd
              rw [hu]
              exact ⟨fun _ _ => ⟨r0, ok0, hgd, rfl, rfl⟩, fun _ _ => ⟨r0, ok0, hgd, rfl, rfl⟩⟩
            · refine ⟨fun h1 _ => ?_, fun _ h1 => ?_⟩
              all_goals
                obtain ⟨r1, ok1, hg1, h3, h4⟩ := hX k d 8 31 hk (by kernel_rfl) hl (hat.dep 8 (by kernel_rfl)) hkj h1 rfl
                rw [hu] at h4
                have hinj := v7_inj8 h4
              · exact ⟨r1, ok1, hg1, h3, v7_8_11 hinj⟩
              · exact ⟨r1, ok1, hg1, v7_8_11 hinj, h3⟩) hat.base)
          clear hat hX hK hu
          simp only [v7] at HF1
          go_simp
          exact HF1.out
        · obtain ⟨r0, ok0, hgd, hu⟩ := hat.have_ 9 32 (by kernel_rfl) (hat.dep 9 (by kernel_rfl))
          have hu' := hu
          simp only [v7] at hu'
          have HF1 := Lib.hid (hK (v7 12 r0 ok0) W ⟨r0, ok0, hgd, rfl⟩ (fun k d hk hl => hat.have_ k d hk hl) (fun k d hk hl hki => by
            by_cases hkj : k = 9
            · subst hkj
              have hd : some d = some 32 := hk.symm.trans (by kernel_rfl)
              injection hd with hd
              subst hd
              rw [hu]
              exact ⟨fun _ _ => ⟨r0, ok0, hgd, rfl, rfl⟩, fun _ _ => ⟨r0, ok0, hgd, rfl, rfl⟩⟩
            · refine ⟨fun h1 _ => ?_, fun _ h1 => ?_⟩
              all_goals
                obtain ⟨r1, ok1, hg1, h3, h4⟩ := hX k d 9 32 hk (by kernel_rfl) hl (hat.dep 9 (by kernel_rfl)) hkj h1 rfl
                rw [hu] at h4
                have hinj := v7_inj9 h4
              · exact ⟨r1, ok1, hg1, h3, v7_9_12 hinj⟩
              · exact ⟨r1, ok1, hg1, v7_9_12 hinj, h3⟩) hat.base)
          clear hat hX hK hu
          simp only [v7] at HF1
          go_simp
          exact HF1.out
        · have e0 : a.tmps[33]?.getD undef = .int .i64 0 := hat.have_ 10 33 (by kernel_rfl) (hat.dep 10 (by kernel_rfl))
          have HF1 := Lib.hid (hK (.int .i64 0) W rfl (fun k d hk hl => hat.have_ k d hk hl) (fun _ _ _ _ _ => ⟨X7.no (by decide), X7.no' (by decide)⟩) hat.base)
          clear hat hX hK
          go_simp
          exact HF1.out
      case hend =>
        intro l u wc hall hG hX hB
        obtain ⟨r1, ok1, hgd, e11, e12⟩ := hX 11 10 12 11 (by kernel_rfl) (by kernel_rfl) (by decide) rfl rfl
        simp only [v7] at e11 e12
        have HMc := Lib.hid (HM3.out.threw hgS hB.1 hB.2); have HAc := Lib.hid (HA3.out.trans hB.2)
        rw [HGD.out] at hgd
        have HGO := Lib.hid hgd
        clear hG hX hB hall hgd HUT HUD HEA HCAL
        simp only [putAll, Act.put, List.setIfInBounds_toArray, List.set_cons_zero, List.set_cons_succ, Nat.zero_add, Nat.reduceAdd]
        rw [e11, e12]
        clear e11 e12
        generalize u 0 = y0; generalize u 1 = y1; generalize u 2 = y2; generalize u 3 = y3; generalize u 4 = y4; generalize u 5 = y5; generalize u 6 = y6; generalize u 7 = y7; generalize u 8 = y8; generalize u 9 = y9; generalize u 10 = y10; generalize u 13 = y13
        cases ok1 with
        | false =>
          go_wp2_with fail
          go_roundw
          case rel => exact ⟨k - 1, TS, DS, by first | rfl | (rw [s3]) | go_num, by omega, HMc.out, HAc.out, HC.out⟩
          case measure => simp [intOf]; omega
        | true =>
          obtain ⟨hm, hc⟩ := HGO.out rfl
          have HCN := Lib.hid (HC.out.snoc (by have := HRL.out; have := HTT.out; omega) hm hc)
          have hsz := HMc.out.size
          have hszc : Cb < S := hSC
          clear hm hc
          have tok1 : True := trivial
          go_wp2_with (first | (at_builtin; have _t := tok1; go_loud (refine wpList_append_lies _ rfl (.tmp 35) (.tmp 37) 22 rfl S 3 i0 (.int .i64 0) 1 8 (by kernel_rfl) hi0 hz0 hz1 hz2 rfl (by decide) u6 TS.length (vi TS) rfl (HMc.out.ownt.alloc _) ⟨wc.heap.size, 0, none⟩ 1 1 [.int .i64 (team : Int)] rfl rfl (World.news_of_block (cs := #[.int .i64 (team : Int)]) (heap_alloc_new wc _)) (fun u hu => by simp at hu; subst hu; rfl) (by decide) (by unfold maxLen; omega) (by omega) (by simp; omega) _ rfl ?_); intro g5 cap5 w5 ho5 hg5 hq5 hl5; have HM5 := Lib.hid (HMc.out.appt hgS (by have := HZ.out; omega) ho5 hg5 hq5); have HA5 := Lib.hid (grown_own (S := S) HAc.out ((World.grownBy_alloc wc _ _).trans hg5) (fun k e => by have := (HMc.out.ownt.lt k e).1; omega)); have hsz5 := HM5.out.size; have tok2 : True := trivial; clear ho5 hg5 hq5 hl5 tok1) | (at_builtin; have _t := tok2; go_loud (refine wpList_append_lies _ rfl (.tmp 39) (.tmp 41) 22 rfl S 3 i0 (.int .i64 0) 1 8 (by kernel_rfl) hi0 hz0 hz1 hz2 rfl (by decide) u7 DS.length (vi DS) rfl (HM5.out.ownd.alloc _) ⟨w5.heap.size, 0, none⟩ 1 1 [.int .i64 r1] rfl rfl (World.news_of_block (cs := #[.int .i64 r1]) (heap_alloc_new w5 _)) (fun u hu => by simp at hu; subst hu; rfl) (by decide) (by have := HC.out.len; unfold maxLen; omega) (by have := HC.out.len; omega) (by simp; omega) _ rfl ?_); intro g6 cap6 w6 ho6 hg6 hq6 hl6; have HM6 := Lib.hid (HM5.out.appd hgS (by have := HZ.out; omega) ho6 hg6 hq6); have HA6 := Lib.hid (grown_own (S := S) HA5.out ((World.grownBy_alloc w5 _ _).trans hg6) (fun k e => by have := (HM5.out.ownd.lt k e).1; omega)); clear ho6 hg6 hq6 hl6 tok2))
          go_roundw
          case rel => exact ⟨k - 1, TS ++ [(team : Int)], DS ++ [r1], by first | rfl | (rw [s3]) | go_num, by simp; omega, HM6.out, HA6.out, HCN.out⟩
          case measure => simp [intOf]; omega
    · have hk0 : k = 0 := by omega
      subst hk0
      have hkd : decide (0 < 0) = false := rfl
      have hcb := (HA.out.block Cb (lt_of_heap HCH.out) (by simp; omega)).trans HCH.out
      have hzb := (HA.out.block Z (lt_of_heap HZ1.out) (by simp; omega)).trans HZ1.out
      obtain ⟨ta, ct, hut, htt⟩ := own_teams HM.out.ownt rfl hgS
      obtain ⟨da, cd, hud, hdt⟩ := own_teams HM.out.ownd rfl hgS
      subst hut; subst hud
      have x0 := cell_of_row _ Cb 0 _ _ _ hcb
      have x1 := cell_of_row _ Cb 1 _ _ _ hcb
      have x2 := cell_of_row _ Cb 2 _ _ _ hcb
      have z0 := cell_of_row _ Z 0 _ _ _ hzb
      have z1 := cell_of_row _ Z 1 _ _ _ hzb
      have z2 := cell_of_row _ Z 2 _ _ _ hzb
      have f0 : wr.frozen? ⟨Z, 0, none⟩ = false := by simp [World.frozen?, hzb]
      have f1 : wr.frozen? ⟨Z, 1, none⟩ = false := by simp [World.frozen?, hzb]
      have f2 : wr.frozen? ⟨Z, 2, none⟩ = false := by simp [World.frozen?, hzb]
      simp at x0 x1 x2 z0 z1 z2
      have HZB := Lib.hid hzb; have HTT := Lib.hid htt; have HDT := Lib.hid hdt
      clear hcb hzb htt hdt
      have hM := HM.out
      have hZs := HZ.out
      obtain ⟨h1, h2, h3⟩ := three_cells (v1 := .slice p L.length c1) (v2 := .slice q Q.length c2) (v3 := .slice r R.length 2) HZB.out
      have H1 := Lib.hid h1; have H2 := Lib.hid h2; have H3 := Lib.hid h3
      have hRES := fun W2 (hW : (((wr.setCell ⟨Z, 0, none⟩ (.slice p L.length c1)).setCell ⟨Z, 1, none⟩ (.slice q Q.length c2)).setCell ⟨Z, 2, none⟩ (.slice r R.length 2)).grownBy W2 (some g)) => restore HZB.out hW (by omega)
      have HRES := Lib.hid hRES
      have hOS : (((wr.setCell ⟨Z, 0, none⟩ (.slice p L.length c1)).setCell ⟨Z, 1, none⟩ (.slice q Q.length c2)).setCell ⟨Z, 2, none⟩ (.slice r R.length 2)).os = wr.os ∧ (((wr.setCell ⟨Z, 0, none⟩ (.slice p L.length c1)).setCell ⟨Z, 1, none⟩ (.slice q Q.length c2)).setCell ⟨Z, 2, none⟩ (.slice r R.length 2)).tape = wr.tape ∧ (((wr.setCell ⟨Z, 0, none⟩ (.slice p L.length c1)).setCell ⟨Z, 1, none⟩ (.slice q Q.length c2)).setCell ⟨Z, 2, none⟩ (.slice r R.length 2)).output = wr.output := ⟨rfl, rfl, rfl⟩
      have HOS := Lib.hid hOS
      clear h1 h2 h3 hRES hM hOS
      go_wp2_with fail
      have hO := HOS.out; have hr := HRES.out; have h1 := H1.out; have h2 := H2.out; have h3 := H3.out
      generalize ((wr.setCell ⟨Z, 0, none⟩ (.slice p L.length c1)).setCell ⟨Z, 1, none⟩ (.slice q Q.length c2)).setCell ⟨Z, 2, none⟩ (.slice r R.length 2) = W3 at *
      refine bodyPost_ret (res15_run h1 rfl rfl rfl) rfl ⟨p, q, r, ta, da, c1, c2, ct, cd, L, T, Q, R, TS, DS, ?heq, ?_, ⟨hO.1.trans HM.out.grown.os, hO.2.1.trans HM.out.grown.tape, hO.2.2.trans HM.out.grown.output, by rw [h3]; exact HM.out.grown.size, fun k hk hne => ?_⟩, fun W2 hW => ?_, HRL.out, HQL.out, hL2, hL5, HTO.out, HC.out, by omega⟩
      · show Ending.returned _ = Ending.returned _
        have hl := HC.out.len
        simp only [Array.getD_eq_getD_getElem?, hl]
        rfl
      · obtain ⟨p', n, c, k, d0, d1, d2, d3⟩ := HM.out.dice
        refine ⟨p', n, c, k, (h2 g (by omega)).trans d0, d1, d2, d3.keep fun b o u hb' hu => ?_⟩
        rw [World.cell?_of_block (a := ⟨b, o, none⟩) (h2 b (by omega))]; exact hu
      · rw [h2 k (by omega)]; exact HM.out.grown.block k hk hne
      · obtain ⟨W4, hg4, hk4, hz4⟩ := hr W2 hW
        exact ⟨good_move hk4 hz4 (HGOOD.out W4 (HA.out.trans hg4)), teams_move hk4 hz4 (HTT.out W4 hg4), teams_move hk4 hz4 (HDT.out W4 hg4)⟩
end Go.Proofs.Ytnconhbambhhgaa
