/- PackagesVersions. -/
import Derived.Test.YtdhochjcigingaaDoorPkE
import Derived.Test.YtdhochjcigingaaDoorTxB
import Derived.Deep.RegionHeld3
import Derived.Deep.CutRange
namespace Go.Proofs.YtdhochjcigingaaDoor
open Go.RowKit
set_option linter.all false

/-- The dice, the tables, and what came in. -/
structure EW (m : Int) (w : World) (g : Nat) (W : World) : Prop where
  dice : DiceAt W g
  tabs : TabP m W
  below : Below w.heap.size w W
  ge : w.heap.size ≤ g
  size : 10 ≤ w.heap.size
theorem EW.step {m : Int} {w : World} {g : Nat} {W W' : World} (h : EW m w g W) (hb : Below W.heap.size W W') : EW m w g W' :=
  ⟨h.dice.below hb, h.tabs.step hb, h.below.trans (hb.mono h.below.size), h.ge, h.size⟩
theorem EW.al {m : Int} {w : World} {g : Nat} {W : World} (h : EW m w g W) (o : Obj) : EW m w g (W.alloc o) := h.step ((Below.refl _ _).alloc (Nat.le_refl _) o)
theorem EW.call {m : Int} {w : World} {g : Nat} {W W' : World} (h : EW m w g W) (hg : W.grownBy W' (some g)) (hd : DiceAt W' g) : EW m w g W' := by
  have hge := h.ge
  have hsz := h.below.size
  have hb : Below w.heap.size W W' := ⟨hg.os, hg.tape, hg.output, hg.size, fun k hk => hg.block k (by omega) (fun e => by injection e with e; omega)⟩
  exact ⟨hd, h.tabs.below hb h.size, h.below.trans hb, h.ge, h.size⟩

/-- The four lists in memory, and the range's box X. -/
structure RS (m : Int) (w : World) (g X : Nat) (a b lo hi : Value) (A B Lo Hi : List Int) (W : World) : Prop where
  ew : EW m w g W
  na : Nums W a A
  nb : Nums W b B
  nl : Nums W lo Lo
  nh : Nums W hi Hi
  box : W.heap[X]? = some (.cells #[lo, hi] 53 (0, 0))
theorem RS.step {m : Int} {w : World} {g X : Nat} {a b lo hi : Value} {A B Lo Hi : List Int} {W W' : World} (h : RS m w g X a b lo hi A B Lo Hi W) (hb : Below W.heap.size W W') : RS m w g X a b lo hi A B Lo Hi W' := by
  refine ⟨h.ew.step hb, h.na.step hb, h.nb.step hb, h.nl.step hb, h.nh.step hb, (hb.block _ ?_).trans h.box⟩
  have hx := h.box
  rcases Nat.lt_or_ge X W.heap.size with k | k
  · exact k
  · rw [Array.getElem?_eq_none k] at hx; cases hx
theorem RS.cells {m : Int} {w : World} {g X : Nat} {a b lo hi : Value} {A B Lo Hi : List Int} {W : World} (h : RS m w g X a b lo hi A B Lo Hi W) : W.cell? ⟨X, 0, none⟩ = some lo ∧ W.cell? ⟨X, 1, none⟩ = some hi :=
  ⟨cell_of_row _ _ 0 _ _ _ h.box, cell_of_row _ _ 1 _ _ _ h.box⟩
theorem refcompare_v {W : World} {u v : Value} {A B : List Int} (ha : A.length ≤ 500) (hb : B.length ≤ 500) (hA : Nums W u A) (hB : Nums W v B) : Calls Tryd.prog 40 #[u, v] W (CmpB (cmpV A B) W) := by
  obtain ⟨p, c, rfl, h1⟩ := hA
  obtain ⟨q, d, rfl, h2⟩ := hB
  exact refcompare_q p q c d A B W ha hb h1 h2
theorem refin_v {W : World} {x y v : Value} {Lo Hi A : List Int} (hl : Lo.length ≤ 500) (hh : Hi.length ≤ 500) (ha : A.length ≤ 500) (hL : Nums W x Lo) (hH : Nums W y Hi) (hA : Nums W v A) : Calls Tryd.prog 42 #[.agg #[x, y], v] W (BoolP (inV Lo Hi A) W) := by
  obtain ⟨p, c, rfl, h1⟩ := hL
  obtain ⟨q, d, rfl, h2⟩ := hH
  obtain ⟨r, k, rfl, h3⟩ := hA
  exact refin_any p q r c d k Lo Hi A W hl hh ha h1 h2 h3
theorem rtext_v {W : World} {v : Value} {L : List Int} (h : Nums W v L) (hv : verB L = true) : Calls Tryd.prog 43 #[v] W (TextYes (txt L) W) := by
  obtain ⟨p, c, rfl, h1⟩ := h
  exact rtext_yes p c L W h1 hv

/-- Text of any list: both sides. -/
def txtA (L : List Int) : List UInt8 := if verB L then txt L else []
def txtE (L : List Int) : Int := if verB L then 0 else 22
def TextR (L : List Int) (w : World) (e : Ending) (w' : World) : Prop := e = .returned (.tuple #[.string ⟨(txtA L).toArray⟩, .int .i64 (txtE L)]) ∧ Below w.heap.size w w'
theorem text_all {m : Int} {W : World} {v : Value} {L : List Int} (hT : TabP m W) (hl : L.length ≤ 500) (h : Nums W v L) : Calls Tryd.prog 50 #[v] W (TextR L W) := by
  unfold TextR txtA txtE
  cases hv : verB L
  · obtain ⟨p, c, rfl, h1⟩ := h
    exact text_no p c L W hl h1 hv
  · exact text_v hT h hv
theorem rtext_all {W : World} {v : Value} {L : List Int} (hl : L.length ≤ 500) (h : Nums W v L) : Calls Tryd.prog 43 #[v] W (TextR L W) := by
  unfold TextR txtA txtE
  cases hv : verB L
  · obtain ⟨p, c, rfl, h1⟩ := h
    exact rtext_no p c L W hl h1 hv
  · exact rtext_v h hv

/-- Version of any text: both sides. -/
def verV (l : List UInt8) : List Int := if verOk l then verL l else []
def verE (l : List UInt8) : Int := if verOk l then 0 else 22
def VerR (l : List UInt8) (w : World) (e : Ending) (w' : World) : Prop := ∃ v, e = .returned (.tuple #[v, .int .i64 (verE l)]) ∧ Nums w' v (verV l) ∧ Below w.heap.size w w'
theorem ver_out (l : List UInt8) (w : World) : ∀ e w', (if verOk l = true then VerYes (verL l) w else VerNo w) e w' → VerR l w e w' := by
  intro e w' h
  unfold VerR verV verE
  cases hv : verOk l
  · rw [hv] at h
    exact ⟨_, h.1, Nums.empty _, h.2⟩
  · rw [hv] at h
    obtain ⟨v, he, ho, hb⟩ := h
    exact ⟨v, he, Nums.own ho, hb⟩
theorem ver_p {m : Int} (l : List UInt8) (hl : l.length ≤ 1000) (w : World) (hT : TabP m w) : Calls Tryd.prog 47 #[.string ⟨l.toArray⟩] w (VerR l w) := (version_all l hl w hT).mono (ver_out l w)
theorem ver_r (l : List UInt8) (hl : l.length ≤ 1000) (w : World) : Calls Tryd.prog 48 #[.string ⟨l.toArray⟩] w (VerR l w) := (rversion_any l hl w).mono (ver_out l w)
theorem verV_len (l : List UInt8) (hl : l.length ≤ 1000) : (verV l).length ≤ 4 := by
  unfold verV
  cases hv : verOk l
  · simp
  · have := pieces_len _ l (Nat.le_refl _)
    unfold verOk at hv
    simp only [Bool.and_eq_true, decide_eq_true_eq] at hv
    simp only [if_true]
    unfold verL
    rw [List.length_map]
    omega

/-- Word: one of some short texts. -/
def WordR (w : World) (g : Nat) (e : Ending) (w' : World) : Prop := ∃ t : List UInt8, t.length ≤ 3 ∧ e = .returned (.string ⟨t.toArray⟩) ∧ DiceAt w' g ∧ w.grownBy w' (some g)
set_option maxHeartbeats 1000000 in
theorem word_any (w : World) (g X : Nat) (h : DiceAt w g) (hX : X ≠ g) (hXl : X < w.heap.size) (hc : ∀ j, j < 4 → ∃ t : List UInt8, t.length ≤ 3 ∧ w.cell? ⟨X, j, none⟩ = some (.string ⟨t.toArray⟩)) :
    Calls Tryd.prog 46 #[.pointer (some ⟨g, 0, none⟩), .slice (some ⟨X, 0, none⟩) 4 4] w (WordR w g) := by
  have cN := next_any w g 4 (by omega) (by omega) h
  have HC := Lib.hid hc; clear hc
  have CN := Lib.hid cN; clear cN h
  go_enter Tryd.func46, Tryd.ntmps46
  go_wp2_with fail
  refine (CN.out).mono ?_
  rintro e w' ⟨r, rfl, hr0, hr1, hd, hg⟩
  obtain ⟨k, rfl⟩ : ∃ k : Nat, r = k := ⟨r.toNat, by omega⟩
  obtain ⟨t, ht, hcell⟩ := HC.out k (by omega)
  have hcell' : w'.cell? ⟨X, k, none⟩ = some (.string ⟨t.toArray⟩) := hg.cell hcell (by simp; omega)
  have HD := Lib.hid hd; have HG := Lib.hid hg
  clear hd hg hcell
  go_wp2_with fail
  go_ret
  exact ⟨t, ht, rfl, HD.out, HG.out⟩

theorem txt_ne {L : List Int} {n : Nat} (h : Good L n) (hn : n ≤ 4) : 0 < (txt L).length := by
  rcases Nat.eq_zero_or_pos (txt L).length with h0 | h0
  · exfalso
    have he : txt L = [] := List.length_eq_zero_iff.1 h0
    have := (txt_back h hn).2.2.1
    rw [he] at this
    revert this
    decide
  · exact h0
def OfB (w : World) (g : Nat) (e : Ending) (w' : World) : Prop := ∃ z : Int, (0 ≤ z ∧ z ≤ 255) ∧ e = .returned (.int .i64 z) ∧ DiceAt w' g ∧ w.grownBy w' (some g)
theorem of_bytes (w : World) (g : Nat) (h : DiceAt w g) : Calls Tryd.prog 44 #[.pointer (some ⟨g, 0, none⟩), .slice (some ⟨w.heap.size, 0, none⟩) 4 4] (w.alloc (.cells #[.int .i64 46, .int .i64 48, .int .i64 49, .int .i64 120] 3)) (OfB w g) :=
  (of_new w g [46, 48, 49, 120] h (by decide) (by decide)).mono fun e w' ⟨z, hz, he, hd, hg⟩ => ⟨z, by
    simp at hz
    rcases hz with rfl | rfl | rfl | rfl <;> decide, he, hd, hg⟩

/-- A block B of bytes T. -/
structure BT (B : Nat) (T : List UInt8) (W : World) : Prop where
  cells : ∀ j, j < T.length → W.cell? ⟨B, j, none⟩ = some (.int .u8 (T.getD j 0).toNat) ∧ W.frozen? ⟨B, j, none⟩ = false
  lt : B < W.heap.size
theorem BT.step {B : Nat} {T : List UInt8} {W W' : World} (h : BT B T W) (hb : Below W.heap.size W W') : BT B T W' :=
  ⟨fun j hj => by
    obtain ⟨c1, c2⟩ := h.cells j hj
    exact ⟨cell_later' hb c1, (hb.frozen (p := ⟨B, j, none⟩) h.lt).trans c2⟩, Nat.lt_of_lt_of_le h.lt hb.size⟩
theorem BT.call {B g : Nat} {T : List UInt8} {W W' : World} (h : BT B T W) (hg : W.grownBy W' (some g)) (hne : B ≠ g) : BT B T W' :=
  ⟨fun j hj => by
    obtain ⟨c1, c2⟩ := h.cells j hj
    have hn : some B ≠ some g := fun e => by injection e with e; exact hne e
    exact ⟨(hg.cell_far ⟨B, j, none⟩ h.lt hn).trans c1, (hg.frozen_far ⟨B, j, none⟩ h.lt hn).trans c2⟩, Nat.lt_of_lt_of_le h.lt hg.size⟩
theorem BT.store {B : Nat} {T : List UInt8} {W : World} (h : BT B T W) (i : Nat) (hi : i < T.length) (v : Int) (hv : 0 ≤ v ∧ v ≤ 255) : BT B (T.set i (UInt8.ofNat v.toNat)) (W.setCell ⟨B, i, none⟩ (.int .u8 v)) := by
  refine ⟨fun j hj => ?_, by simpa [World.setCell] using h.lt⟩
  rw [List.length_set] at hj
  obtain ⟨c1, c2⟩ := h.cells j hj
  refine ⟨?_, by rw [World.frozen?_setCell]; exact c2⟩
  by_cases hji : j = i
  · subst hji
    rw [World.cell?_setCell_same _ _ _ c1]
    rw [List.getD, List.getElem?_set_self hj]
    simp only [Option.getD_some]
    rw [byte_ofNat v hv]
  · rw [World.cell?_setCell_other _ _ _ _ (fun e => hji (by injection e with e1 e2; omega))]
    rw [c1, List.getD, List.getD, List.getElem?_set_ne (by omega)]
theorem BT.run {B : Nat} {T : List UInt8} {W : World} (h : BT B T W) (c : Nat) : (Go.convert 44 9 (.slice (some ⟨B, 0, none⟩) T.length c)).run Tryd.prog W = .ok (.string ⟨T.toArray⟩) W :=
  Bts.convert ⟨_, c, rfl, .inr ⟨B, 0, rfl, fun j hj => by rw [Nat.zero_add]; exact (h.cells j hj).1⟩⟩
theorem EW.store {m : Int} {w : World} {g B i : Nat} {v : Value} {W : World} (h : EW m w g W) (hB : w.heap.size ≤ B) (hg : g < B) : EW m w g (W.setCell ⟨B, i, none⟩ v) := by
  have hs := h.size
  have hb : Below w.heap.size W (W.setCell ⟨B, i, none⟩ v) := (Below.refl _ _).setCell hB _
  exact ⟨dice_set h.dice hg, h.tabs.below hb hs, h.below.trans hb, h.ge, hs⟩

/-- The dice and the bytes, in a region. -/
structure CS (m : Int) (w : World) (g B : Nat) (T : List UInt8) (W : World) : Prop where
  ew : EW m w g W
  bt : BT B T W
  lt : g < W.heap.size
  ne : B ≠ g
theorem CS.step {m : Int} {w : World} {g B : Nat} {T : List UInt8} {W W' : World} (h : CS m w g B T W) (hb : Below W.heap.size W W') : CS m w g B T W' := ⟨h.ew.step hb, h.bt.step hb, Nat.lt_of_lt_of_le h.lt hb.size, h.ne⟩
theorem CS.al {m : Int} {w : World} {g B : Nat} {T : List UInt8} {W : World} (h : CS m w g B T W) (o : Obj) : CS m w g B T (W.alloc o) := h.step ((Below.refl _ _).alloc (Nat.le_refl _) o)
theorem CS.full {m : Int} {w : World} {g B : Nat} {T : List UInt8} {W : World} (h : CS m w g B T W) (c : Nat) : (Go.convert 44 9 (.slice (some ⟨B, 0, none⟩) T.length c)).run Tryd.prog W = .ok (.string ⟨T.toArray⟩) W := h.bt.run c
def WordC (m : Int) (w : World) (g B : Nat) (T : List UInt8) (e : Ending) (w' : World) : Prop := ∃ t : List UInt8, t.length ≤ 3 ∧ e = .returned (.string ⟨t.toArray⟩) ∧ CS m w g B T w'
theorem word_c {m : Int} {w : World} {g B : Nat} {T : List UInt8} {W : World} (h : CS m w g B T W) : Calls Tryd.prog 46 #[.pointer (some ⟨g, 0, none⟩), .slice (some ⟨W.heap.size, 0, none⟩) 4 4] (W.alloc (.cells #[.string ⟨#[46, 48]⟩, .string ⟨#[46]⟩, .string ⟨#[46, 46, 49]⟩, .string ⟨#[46, 48, 55]⟩] 9)) (WordC m w g B T) := by
  have h1 := h.al (.cells #[.string ⟨#[46, 48]⟩, .string ⟨#[46]⟩, .string ⟨#[46, 46, 49]⟩, .string ⟨#[46, 48, 55]⟩] 9)
  have hlt := h.lt
  refine (word_any _ g W.heap.size h1.ew.dice (by omega) (by simp) (fun j hj => ?_)).mono fun e w' ⟨t, ht, he, hd, hg⟩ => ⟨t, ht, he, ⟨h1.ew.call hg hd, h1.bt.call hg h1.ne, Nat.lt_of_lt_of_le h1.lt hg.size, h1.ne⟩⟩
  rw [cell_of_row _ _ j _ _ _ (heap_alloc_new _ _)]
  match j, hj with
  | 0, _ => exact ⟨[46, 48], by decide, rfl⟩
  | 1, _ => exact ⟨[46], by decide, rfl⟩
  | 2, _ => exact ⟨[46, 46, 49], by decide, rfl⟩
  | 3, _ => exact ⟨[46, 48, 55], by decide, rfl⟩

/-- The texts' block Y. -/
structure QW8 (m : Int) (w : World) (g Y : Nat) (Q : List (List UInt8)) (W : World) : Prop where
  ew : EW m w g W
  cells : ∀ j, j < 4 → W.cell? ⟨Y, j, none⟩ = some (.string ⟨(Q.getD j []).toArray⟩)
theorem QW8.step {m : Int} {w : World} {g Y : Nat} {Q : List (List UInt8)} {W W' : World} (h : QW8 m w g Y Q W) (hb : Below W.heap.size W W') : QW8 m w g Y Q W' := ⟨h.ew.step hb, fun j hj => cell_later' hb (h.cells j hj)⟩
def QRel8 (m : Int) (w : World) (g Y : Nat) (Q : List (List UInt8)) (iv : Value) (wr : World) : Prop := ∃ k : Nat, iv = .int .i64 (k : Int) ∧ k ≤ 4 ∧ QW8 m w g Y Q wr
end Go.Proofs.YtdhochjcigingaaDoor
