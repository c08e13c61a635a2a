/- packages: the contracts over slices as values; the sanity check. -/
import Derived.Test.YtdhochjcigingaaDoorPkD
namespace Go.Proofs.YtdhochjcigingaaDoor
open Go.RowKit
set_option linter.all false

/-- v reads as the numbers of L. -/
def Nums (W : World) (v : Value) (L : List Int) : Prop := ∃ (p : Option Addr) (c : Nat), v = .slice p L.length c ∧ NumsAt W p L
theorem Nums.step {W W' : World} {v : Value} {L : List Int} (h : Nums W v L) (hb : Below W.heap.size W W') : Nums W' v L := by
  obtain ⟨p, c, hv, hn⟩ := h
  exact ⟨p, c, hv, hn.step hb⟩
theorem Nums.own {W : World} {base : Nat} {v : Value} {L : List Int} (h : W.ownsRow base 3 1 v L.length (vi L)) : Nums W v L := by
  by_cases h0 : 0 < L.length
  · obtain ⟨g, cap, rfl, _, _⟩ := h.form h0
    refine ⟨_, cap, rfl, fun j hj => ⟨g, 0, rfl, ?_⟩⟩
    rw [Nat.zero_add, h.cellAt j (by omega)]
    unfold vi
    rw [List.getElem?_map, List.getD, List.getElem?_eq_getElem hj]
    rfl
  · have : L = [] := List.length_eq_zero_iff.1 (by omega)
    subst this
    rcases h.2 with ⟨e, _⟩ | ⟨g, cap, cur, e, _⟩
    · exact ⟨none, 0, e, fun j hj => by simp at hj⟩
    · exact ⟨some ⟨g, 0, none⟩, cap, e, fun j hj => by simp at hj⟩
theorem Nums.lit (W : World) (L : List Int) (c : Nat) : Nums (W.alloc (.cells (vi L).toArray 3)) (.slice (some ⟨W.heap.size, 0, none⟩) L.length c) L :=
  ⟨_, c, rfl, fun j hj => ⟨W.heap.size, 0, rfl, by
    rw [Nat.zero_add, cell_of_row _ _ j _ _ _ (heap_alloc_new _ _)]
    unfold vi
    simp [List.getD, hj]⟩⟩
theorem Nums.lit1 (W : World) (a : Obj) (L : List Int) (c : Nat) : Nums ((W.alloc a).alloc (.cells (vi L).toArray 3)) (.slice (some ⟨W.heap.size + 1, 0, none⟩) L.length c) L := by
  have := Nums.lit (W.alloc a) L c
  rwa [show (W.alloc a).heap.size = W.heap.size + 1 from by simp] at this
theorem Nums.lit2 (W : World) (a b : Obj) (L : List Int) (c : Nat) : Nums (((W.alloc a).alloc b).alloc (.cells (vi L).toArray 3)) (.slice (some ⟨W.heap.size + 2, 0, none⟩) L.length c) L := by
  have := Nums.lit1 (W.alloc a) b L c
  rwa [show (W.alloc a).heap.size = W.heap.size + 1 from by simp] at this
theorem Nums.alloc {W : World} {v : Value} {L : List Int} (h : Nums W v L) (o : Obj) : Nums (W.alloc o) v L := h.step ((Below.refl _ _).alloc (Nat.le_refl _) o)
theorem Nums.empty (W : World) : Nums W (.slice none 0 0) [] := ⟨none, 0, rfl, fun j hj => by simp at hj⟩

theorem compare_v {W : World} {u v : Value} {A B : List Int} (ha : A.length ≤ 500) (hb : B.length ≤ 500) (hA : Nums W u A) (hB : Nums W v B) : Calls Tryd.prog 39 #[u, v] W (CmpB (cmpV A B) W) := by
  obtain ⟨p, c, rfl, h1⟩ := hA
  obtain ⟨q, d, rfl, h2⟩ := hB
  exact compare_q p q c d A B W ha hb h1 h2
theorem same_v {W : World} {u v : Value} {A B : List Int} (ha : A.length ≤ 500) (hb : B.length ≤ 500) (hA : Nums W u A) (hB : Nums W v B) : Calls Tryd.prog 49 #[u, v] W (BoolP (decide (A = B)) W) := by
  obtain ⟨p, c, rfl, h1⟩ := hA
  obtain ⟨q, d, rfl, h2⟩ := hB
  exact same_q p q c d A B W ha hb h1 h2
theorem in_v {W : World} {x y v : Value} {Lo Hi A : List Int} (hl : Lo.length ≤ 500) (hh : Hi.length ≤ 500) (ha : A.length ≤ 500) (hL : Nums W x Lo) (hH : Nums W y Hi) (hA : Nums W v A) : Calls Tryd.prog 41 #[.agg #[x, y], v] W (BoolP (inV Lo Hi A) W) := by
  obtain ⟨p, c, rfl, h1⟩ := hL
  obtain ⟨q, d, rfl, h2⟩ := hH
  obtain ⟨r, k, rfl, h3⟩ := hA
  exact in_any p q r c d k Lo Hi A W hl hh ha h1 h2 h3
/-- In at three literals that have just been laid. -/
theorem in_lits (W : World) (Lo Hi A : List Int) (hl : Lo.length ≤ 500) (hh : Hi.length ≤ 500) (ha : A.length ≤ 500) :
    Calls Tryd.prog 41 #[.agg #[.slice (some ⟨W.heap.size, 0, none⟩) Lo.length Lo.length, .slice (some ⟨W.heap.size + 1, 0, none⟩) Hi.length Hi.length], .slice (some ⟨W.heap.size + 2, 0, none⟩) A.length A.length] (((W.alloc (.cells (vi Lo).toArray 3)).alloc (.cells (vi Hi).toArray 3)).alloc (.cells (vi A).toArray 3)) (BoolP (inV Lo Hi A) (((W.alloc (.cells (vi Lo).toArray 3)).alloc (.cells (vi Hi).toArray 3)).alloc (.cells (vi A).toArray 3))) := by
  exact in_v hl hh ha (((Nums.lit W Lo _).alloc _).alloc _) ((Nums.lit1 W _ Hi _).alloc _) (Nums.lit2 W _ _ A _)
theorem text_v {m : Int} {W : World} {v : Value} {L : List Int} (hT : TabP m W) (h : Nums W v L) (hv : verB L = true) : Calls Tryd.prog 50 #[v] W (TextYes (txt L) W) := by
  obtain ⟨p, c, rfl, h1⟩ := h
  exact text_yes p c L W hT h1 hv

def VerV (L : List Int) (w : World) (e : Ending) (w' : World) : Prop := ∃ v, e = .returned (.tuple #[v, .int .i64 0]) ∧ Nums w' v L ∧ Below w.heap.size w w'
theorem version_v {m : Int} (l : List UInt8) (hl : l.length ≤ 1000) (h : l.count 46 < 4) (hp : (pieces l).all numB5 = true) (w : World) (hT : TabP m w) : Calls Tryd.prog 47 #[.string ⟨l.toArray⟩] w (VerV (verL l) w) := by
  have := version_few l hl h w hT
  rw [if_pos hp] at this
  exact this.mono fun e w' ⟨v, he, ho, hb⟩ => ⟨v, he, Nums.own ho, hb⟩

/-- The tables and one list, on the way. -/
structure NW (m : Int) (w : World) (v : Value) (L : List Int) (W : World) : Prop where
  nums : Nums W v L
  tabs : TabP m W
  below : Below w.heap.size w W
theorem NW.step {m : Int} {w : World} {v : Value} {L : List Int} {W W' : World} (h : NW m w v L W) (hb : Below W.heap.size W W') : NW m w v L W' :=
  ⟨h.nums.step hb, h.tabs.step hb, h.below.trans (hb.mono h.below.size)⟩

theorem v110 : verL [49, 46, 49, 48] = [1, 10] := by decide +kernel
theorem t110 : txt [1, 10] = [49, 46, 49, 48] := by decide +kernel
theorem c110 : cmpV [1, 10] [1, 9] = 1 := by decide +kernel
theorem i1 : inV [1, 2] [2] [1, 99] = true := by decide +kernel
theorem i2 : inV [1, 2] [2] [2, 0] = false := by decide +kernel

def w3s (W : World) (a b c : Obj) : World := ((W.alloc a).alloc b).alloc c
theorem in_lit_a (W : World) : Calls Tryd.prog 41 #[.agg #[.slice (some ⟨W.heap.size, 0, none⟩) 2 2, .slice (some ⟨W.heap.size + 1, 0, none⟩) 1 1], .slice (some ⟨W.heap.size + 2, 0, none⟩) 2 2] (((W.alloc (.cells #[.int .i64 1, .int .i64 2] 3)).alloc (.cells #[.int .i64 2] 3)).alloc (.cells #[.int .i64 1, .int .i64 99] 3)) (BoolP true (((W.alloc (.cells #[.int .i64 1, .int .i64 2] 3)).alloc (.cells #[.int .i64 2] 3)).alloc (.cells #[.int .i64 1, .int .i64 99] 3))) := by
  have := in_lits W [1, 2] [2] [1, 99] (by decide) (by decide) (by decide)
  rw [i1] at this
  exact this
theorem in_lit_b (W : World) : Calls Tryd.prog 41 #[.agg #[.slice (some ⟨W.heap.size, 0, none⟩) 2 2, .slice (some ⟨W.heap.size + 1, 0, none⟩) 1 1], .slice (some ⟨W.heap.size + 2, 0, none⟩) 2 2] (((W.alloc (.cells #[.int .i64 1, .int .i64 2] 3)).alloc (.cells #[.int .i64 2] 3)).alloc (.cells #[.int .i64 2, .int .i64 0] 3)) (BoolP false (((W.alloc (.cells #[.int .i64 1, .int .i64 2] 3)).alloc (.cells #[.int .i64 2] 3)).alloc (.cells #[.int .i64 2, .int .i64 0] 3))) := by
  have := in_lits W [1, 2] [2] [2, 0] (by decide) (by decide) (by decide)
  rw [i2] at this
  exact this
theorem NW.al {m : Int} {w : World} {v : Value} {L : List Int} {W : World} (h : NW m w v L W) (o : Obj) : NW m w v L (W.alloc o) := h.step ((Below.refl _ _).alloc (Nat.le_refl _) o)

set_option maxRecDepth 100000 in
set_option maxHeartbeats 1000000 in
theorem awake12_any {m : Int} (w : World) (h : TabP m w) : Calls Tryd.prog 36 #[] w (BoolP true w) := by
  have cV := version_v [49, 46, 49, 48] (by decide) (by decide) (by decide +kernel) w h
  rw [v110] at cV
  have HT := Lib.hid h
  have CV := Lib.hid cV; clear cV h
  go_enter Tryd.func36, Tryd.ntmps36
  go_wp2_with fail
  refine (CV.out).mono ?_
  rintro e w1 ⟨v, he, hn, hb1⟩
  subst he
  have hN1 : NW m w v [1, 10] w1 := ⟨hn, HT.out.step hb1, hb1⟩
  have cT := text_v hN1.tabs hN1.nums (by decide +kernel)
  rw [t110] at cT
  have CT := Lib.hid cT; have HN1 := Lib.hid hN1
  clear cT hN1 hn hb1 CV
  go_wp2_with fail
  refine (CT.out).mono ?_
  rintro e w2 ⟨he, hb2⟩
  subst he
  have HN2 := Lib.hid (HN1.out.step hb2)
  clear hb2 CT HN1
  have cC : Calls Tryd.prog 39 #[v, .slice (some ⟨w2.heap.size, 0, none⟩) 2 2] (w2.alloc (.cells #[.int .i64 1, .int .i64 9] 3)) (CmpB 1 (w2.alloc (.cells #[.int .i64 1, .int .i64 9] 3))) := by
    have := compare_v (by decide) (by decide) (HN2.out.step ((Below.refl _ _).alloc (Nat.le_refl _) _)).nums (Nums.lit w2 [1, 9] 2)
    rw [c110] at this
    exact this
  have CC := Lib.hid cC
  clear cC
  go_wp2_with fail
  refine (CC.out).mono ?_
  rintro e w3 ⟨rfl, rfl⟩
  have HN3 := Lib.hid (HN2.out.step ((Below.refl _ _).alloc (Nat.le_refl _) (.cells #[.int .i64 1, .int .i64 9] 3)))
  generalize w2.alloc (.cells #[.int .i64 1, .int .i64 9] 3) = W3 at *
  have CI := Lib.hid (in_lit_a W3)
  clear CC HN2
  go_wp2_with fail
  ((with_reducible refine (CI.out).mono ?_); rintro e w4 ⟨rfl, hb4⟩)
  have HN4 := Lib.hid ((((HN3.out.al _).al _).al _).step hb4)
  have CI2 := Lib.hid (in_lit_b w4)
  clear CI hb4
  go_wp2_with fail
  ((with_reducible refine (CI2.out).mono ?_); rintro e w5 ⟨rfl, hb5⟩)
  have HN5 := Lib.hid ((((HN4.out.al _).al _).al _).step hb5)
  clear hb5
  go_wp2_with fail
  go_ret
  exact ⟨rfl, HN5.out.below⟩
end Go.Proofs.YtdhochjcigingaaDoor
