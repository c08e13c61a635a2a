/- The walk of LedgerLatest. -/
import Derived.Test.YtncljgihliiejaaLKnown
import Derived.Test.YtncljgihliiejaaLatestM
import Derived.Deep.CutRange
import Derived.Deep.DeepCutAuto
namespace Go.Proofs.Ytncljgihliiejaa
open Go.RowKit

/-- What stays while dice are thrown: two fields of a box. -/
structure Thr1 (W0 W : World) (g B : Nat) (x0 x1 : Int) : Prop where
  dice : DiceAt W g
  grown : W0.grownBy W (some g)
  c0 : W.cell? ⟨B, 0, none⟩ = some (.int .i64 x0)
  c1 : W.cell? ⟨B, 1, none⟩ = some (.int .i64 x1)
  ne : B ≠ g
theorem Thr1.drew {W0 W : World} {g B : Nat} {x0 x1 : Int} (h : Thr1 W0 W g B x0 x1) : Thr1 W0 W.drew g B x0 x1 := ⟨h.dice, ⟨h.grown.os, h.grown.tape, h.grown.output, h.grown.size, h.grown.block⟩, h.c0, h.c1, h.ne⟩

def Threw1 (W0 : World) (g B : Nat) (x0 x1 m : Int) (e : Ending) (w' : World) : Prop :=
  ∃ r : Int, e = .returned (.int .i64 r) ∧ 0 ≤ r ∧ r < m ∧ Thr1 W0 w' g B x0 x1

theorem next_thr1 (W0 W : World) (g B : Nat) (x0 x1 m : Int) (hm : 1 ≤ m) (hm2 : m ≤ 1000000) (h : Thr1 W0 W g B x0 x1) :
    Calls Try.prog 37 #[.pointer (some ⟨g, 0, none⟩), .int .i64 m] W (Threw1 W0 g B x0 x1 m) := by
  refine (next_any W g m hm hm2 h.dice).mono ?_
  rintro e w' ⟨r, he, h0, h1, hd, hg⟩
  exact ⟨r, he, h0, h1, hd, h.grown.trans hg, hg.cell h.c0 (by simp only; intro e; injection e with e; exact h.ne e), hg.cell h.c1 (by simp only; intro e; injection e with e; exact h.ne e), h.ne⟩

/-- The same, with the zero value in a new block. -/
structure Thr2 (W0 W : World) (g B R : Nat) (x0 x1 : Int) : Prop where
  thr : Thr1 W0 W g B x0 x1
  res : W.heap[R]? = some (.cells #[.int .i64 0, .int .i64 0, .int .i64 0, .int .i64 0, .int .i64 0] 27 (0, 0))
  ne : R ≠ g
  old : W0.heap.size ≤ R
  neB : R ≠ B

theorem Thr1.made {W0 W : World} {g B : Nat} {x0 x1 : Int} (h : Thr1 W0 W g B x0 x1) : Thr2 W0 (W.alloc (.cells #[.int .i64 0, .int .i64 0, .int .i64 0, .int .i64 0, .int .i64 0] 27)) g B W.heap.size x0 x1 := by
  have hlt := h.dice.lt
  have hB := World.block_lt_of_cell? _ _ h.c0
  simp only at hB
  refine ⟨⟨h.dice.below ((Below.refl _ _).alloc (Nat.le_refl _) _), h.grown.trans (World.grownBy_alloc _ _ _), ?_, ?_, h.ne⟩, heap_alloc_new _ _, by omega, h.grown.size, by omega⟩
  · rw [World.cell?_alloc_lt _ _ _ hB]; exact h.c0
  · rw [World.cell?_alloc_lt _ _ _ hB]; exact h.c1

def ThrewTwo (W0 : World) (g B R : Nat) (x0 x1 m : Int) (e : Ending) (w' : World) : Prop :=
  ∃ r : Int, e = .returned (.int .i64 r) ∧ 0 ≤ r ∧ r < m ∧ Thr2 W0 w' g B R x0 x1

theorem next_thr2 (W0 W : World) (g B R : Nat) (x0 x1 m : Int) (hm : 1 ≤ m) (hm2 : m ≤ 1000000) (h : Thr2 W0 W g B R x0 x1) :
    Calls Try.prog 37 #[.pointer (some ⟨g, 0, none⟩), .int .i64 m] W (ThrewTwo W0 g B R x0 x1 m) := by
  refine (next_any W g m hm hm2 h.thr.dice).mono ?_
  rintro e w' ⟨r, he, h0, h1, hd, hg⟩
  have hne := h.ne; have hB := h.thr.ne
  exact ⟨r, he, h0, h1, ⟨hd, h.thr.grown.trans hg, hg.cell h.thr.c0 (by simp only; intro e; injection e with e; exact hB e), hg.cell h.thr.c1 (by simp only; intro e; injection e with e; exact hB e), hB⟩, (hg.block _ (lt_of_heap h.res) (by intro e; injection e with e; exact hne e)).trans h.res, hne, h.old, h.neB⟩

theorem Thr2.cells {W0 W : World} {g B R : Nat} {x0 x1 : Int} (h : Thr2 W0 W g B R x0 x1) :
    (W.cell? ⟨R, 0, none⟩ = some (.int .i64 0) ∧ W.cell? ⟨R, 1, none⟩ = some (.int .i64 0) ∧ W.cell? ⟨R, 2, none⟩ = some (.int .i64 0) ∧ W.cell? ⟨R, 3, none⟩ = some (.int .i64 0) ∧ W.cell? ⟨R, 4, none⟩ = some (.int .i64 0)) ∧
    ∀ j, W.frozen? ⟨R, j, none⟩ = false := by
  have hr := h.res
  refine ⟨⟨?_, ?_, ?_, ?_, ?_⟩, fun j => by simp [World.frozen?, hr]⟩
  all_goals rw [cell_of_row W R _ _ 27 (0, 0) hr]; rfl

/-- A decision was made out of dice. -/
def XMade (wc wx : World) (g : Nat) (x0 x1 k s : Int) (v : Value) : Prop :=
  ∃ (R : Nat) (r0 r1 : Int), v = .pointer (some ⟨R, 0, none⟩) ∧ (0 ≤ r0 ∧ r0 < 2) ∧ (0 ≤ r1 ∧ r1 < 2) ∧
    wx.heap[R]? = some (.cells #[.int .i64 (x0 + r0), .int .i64 x1, .int .i64 k, .int .i64 s, .int .i64 r1] 27 (0, 0)) ∧ wc.heap.size ≤ R ∧ wc.grownBy wx (some g)

theorem xmade_res {wc w' : World} {g B R : Nat} {x0 x1 k s r0 r1 : Int} (h : Thr2 wc w' g B R x0 x1) (a0 : 0 ≤ r0) (a1 : r0 < 2) (b0 : 0 ≤ r1) (b1 : r1 < 2) :
    XMade wc (resW w' R (x0 + r0) x1 k s r1) g x0 x1 k s (.pointer (some ⟨R, 0, none⟩)) :=
  ⟨R, r0, r1, rfl, ⟨a0, a1⟩, ⟨b0, b1⟩, resW_heap _ _ _ _ _ h.res, h.old, resW_grown _ _ _ _ _ h.thr.grown h.old⟩

theorem xmade_alloc {wc w' : World} {g B : Nat} {x0 x1 k s r0 r1 : Int} (h : Thr1 wc w' g B x0 x1) (a0 : 0 ≤ r0) (a1 : r0 < 2) (b0 : 0 ≤ r1) (b1 : r1 < 2) :
    XMade wc (w'.alloc (.cells #[.int .i64 (x0 + r0), .int .i64 x1, .int .i64 k, .int .i64 s, .int .i64 r1] 27)) g x0 x1 k s (.pointer (some ⟨w'.heap.size, 0, none⟩)) :=
  ⟨w'.heap.size, r0, r1, rfl, ⟨a0, a1⟩, ⟨b0, b1⟩, heap_alloc_new _ _, h.grown.size, h.grown.trans (World.grownBy_alloc _ _ _)⟩

theorem want_step {W8 wr : World} {A : Nat} {cd : Dec} (hw : wr.heap[A + 1]? = some (.cells (cells5 cd).toArray 27 (0, 0))) (hb : Below (A + 1) W8 wr) (hs : A + 2 ≤ wr.heap.size) (d : Dec) (X : Obj) :
    ((resW wr (A + 1) d.day d.known d.kind d.subj d.value).alloc X).heap[A + 1]? = some (.cells (cells5 d).toArray 27 (0, 0)) ∧ Below (A + 1) W8 ((resW wr (A + 1) d.day d.known d.kind d.subj d.value).alloc X) ∧
      A + 2 ≤ ((resW wr (A + 1) d.day d.known d.kind d.subj d.value).alloc X).heap.size := by
  have hz := resW_size (w := wr) (b := A + 1) d.day d.known d.kind d.subj d.value
  refine ⟨?_, ?_, by simp; omega⟩
  · rw [heap_alloc_old _ _ (by omega)]
    unfold resW
    have h1 := heap_setCell_same wr (A + 1) 0 _ _ (.int .i64 d.day) hw
    have h2 := heap_setCell_same _ (A + 1) 1 _ _ (.int .i64 d.known) h1
    have h3 := heap_setCell_same _ (A + 1) 2 _ _ (.int .i64 d.kind) h2
    have h4 := heap_setCell_same _ (A + 1) 3 _ _ (.int .i64 d.subj) h3
    have h5 := heap_setCell_same _ (A + 1) 4 _ _ (.int .i64 d.value) h4
    rw [h5]; rfl
  · refine Below.alloc ?_ (by omega) _
    unfold resW
    exact ((((hb.setCell (Nat.le_refl _) _).setCell (Nat.le_refl _) _).setCell (Nat.le_refl _) _).setCell (Nat.le_refl _) _).setCell (Nat.le_refl _) _

theorem want_stay {W8 wr : World} {A : Nat} {cs : Array Value} (hw : wr.heap[A + 1]? = some (.cells cs 27 (0, 0))) (hb : Below (A + 1) W8 wr) (hs : A + 2 ≤ wr.heap.size) (X : Obj) :
    (wr.alloc X).heap[A + 1]? = some (.cells cs 27 (0, 0)) ∧ Below (A + 1) W8 (wr.alloc X) ∧ A + 2 ≤ (wr.alloc X).heap.size :=
  ⟨by rw [heap_alloc_old _ _ (by omega)]; exact hw, hb.alloc (by omega) _, by simp; omega⟩

theorem Row.grown {w W : World} {b o g : Nat} {l : List Dec} (h : Row w b o l) (hg : w.grownBy W (some g)) (hne : b ≠ g) : Row W b o l := fun j hj => by
  obtain ⟨h0, h1, h2, h3, h4⟩ := h j hj
  have hn : some b ≠ some g := by intro e; injection e with e; exact hne e
  exact ⟨hg.cell h0 hn, hg.cell h1 hn, hg.cell h2 hn, hg.cell h3 hn, hg.cell h4 hn⟩

set_option maxHeartbeats 1000000 in
theorem llatest_heavy (w : World) (a : Option Addr) (n c : Nat) (x y : Int) (h : decide (n ≤ 400) = false) :
    Calls Try.prog 8 #[.slice a n c, .int .u8 x, .int .u8 y] w fun e w' => e = .returned (.bool true) ∧ Below w.heap.size w w' := by
  go_enter Try.func8, Try.ntmps8
  go_wp2_with fail
  refine (light_any a n c false _ h).mono ?_
  rintro e w1 ⟨rfl, rfl⟩
  go_wp2_with fail
  refine (lawake_any _).mono ?_
  rintro e w2 ⟨rfl, hb⟩
  go_wp2_with fail
  go_ret
  exact ⟨rfl, hb⟩

/-- The ledger in its box, while dice are thrown and memory is made. -/
structure LS (W : World) (g B : Nat) (p : Option Addr) (q : Nat) (l : List Dec) : Prop where
  box : W.cell? ⟨B, 0, none⟩ = some (.slice p l.length q)
  row : l = [] ∨ ∃ b, p = some ⟨b, 0, none⟩ ∧ b ≠ g ∧ Row W b 0 l
  ne : B ≠ g
theorem LS.grown {W W' : World} {g B : Nat} {p : Option Addr} {q : Nat} {l : List Dec} (h : LS W g B p q l) (hg : W.grownBy W' (some g)) : LS W' g B p q l := by
  refine ⟨hg.cell h.box (by simp only; intro e; injection e with e; exact h.ne e), ?_, h.ne⟩
  rcases h.row with hr | ⟨b, hp, hne, hr⟩
  · exact .inl hr
  · exact .inr ⟨b, hp, hne, hr.grown hg hne⟩
theorem LS.below {W W' : World} {g B : Nat} {p : Option Addr} {q : Nat} {l : List Dec} (h : LS W g B p q l) (hb : Below W.heap.size W W') : LS W' g B p q l := by
  refine ⟨cell_later hb h.box, ?_, h.ne⟩
  rcases h.row with hr | ⟨b, hp, hne, hr⟩
  · exact .inl hr
  · exact .inr ⟨b, hp, hne, hr.mono hb⟩
theorem LS.rows {W : World} {g B : Nat} {p : Option Addr} {q : Nat} {l : List Dec} (h : LS W g B p q l) : l = [] ∨ ∃ b o, p = some ⟨b, o, none⟩ ∧ Row W b o l := by
  rcases h.row with hr | ⟨b, hp, _, hr⟩
  · exact .inl hr
  · exact .inr ⟨b, 0, hp, hr⟩

set_option maxRecDepth 100000 in
set_option maxHeartbeats 8000000 in
theorem llatest_light (w : World) (a : Option Addr) (n c : Nat) (x y : Int) (hx : 0 ≤ x ∧ x ≤ 255) (hy : 0 ≤ y ∧ y ≤ 255) (h : decide (n ≤ 400) = true) (hi : Ints w w.heap.size a n) :
    Calls Try.prog 8 #[.slice a n c, .int .u8 x, .int .u8 y] w fun e w' => e = .returned (.bool true) ∧ Below w.heap.size w w' := by
  have h400 : n ≤ 400 := by simpa using h
  have cR := roll_any a n c w h400 hi
  have CR := Lib.hid cR; clear cR hi
  obtain ⟨hx0, hx1⟩ := hx
  obtain ⟨hy0, hy1⟩ := hy
  go_enter Try.func8, Try.ntmps8
  go_wp2_with fail
  refine (light_any a n c true _ h).mono ?_
  rintro e w0 ⟨rfl, rfl⟩
  obtain ⟨g, hge⟩ : ∃ g, g = w0.heap.size := ⟨_, rfl⟩
  rw [← hge] at CR
  go_wp2_with fail
  refine CR.out.mono ?_
  rintro e w1 ⟨rfl, hd, hb1⟩
  have hg1 := hd.lt
  rw [hge] at hb1
  have HB1 := Lib.hid hb1; clear hb1 CR h h400
  have HGE := Lib.hid hge; clear hge
  go_wp2_with fail
  refine (ledger_any w1 _ 12 hd (by omega)).mono ?_
  rintro e w2 ⟨l, p, q, rfl, hg, hl, hq, hs, hx, hd2, hg2⟩
  have hg12 := hd2.lt
  have HD := Lib.hid hd2; have HG := Lib.hid hg; have HG2 := Lib.hid hg2; have HX := Lib.hid hx; have HS := Lib.hid hs
  clear hd hg hg2 hx hd2 hs
  obtain ⟨ld, hld⟩ : ∃ ld, ld = l.getLastD dz := ⟨_, rfl⟩
  have HLD := Lib.hid hld; clear hld
  have hlx : l.length ≤ 1000 := by omega
  go_upto_if 44 with (fail)
  go_cut [] from 45 to 50 (fun wc => LS wc g w2.heap.size p q l ∧ w2.grownBy wc (some g) ∧ DiceAt wc g ∧ (wc.cell? ⟨w2.heap.size + 1, 0, none⟩ = some (.int .i64 ld.day) ∧ wc.cell? ⟨w2.heap.size + 1, 1, none⟩ = some (.int .i64 ld.known)) ∧ w2.heap.size + 2 ≤ wc.heap.size)
  case first =>
    have hbox : ∀ (X : Obj), ((w2.alloc (.cells #[.slice p l.length q] 25)).alloc X).cell? ⟨w2.heap.size, 0, none⟩ = some (.slice p l.length q) := fun X => by rw [World.cell?_alloc_lt _ _ _ (by simp)]; simp
    have hrow : ∀ (X : Obj), l = [] ∨ ∃ b, p = some ⟨b, 0, none⟩ ∧ b ≠ g ∧ Row ((w2.alloc (.cells #[.slice p l.length q] 25)).alloc X) b 0 l := by
      intro X
      rcases HX.out with h | ⟨b, hp, hb, h⟩
      · exact .inl h
      · exact .inr ⟨b, hp, by omega, (h.mono ((Below.refl _ _).alloc (Nat.le_refl _) _)).mono ((Below.refl _ _).alloc (Nat.le_refl _) _)⟩
    have hgr : ∀ (X : Obj), w2.grownBy ((w2.alloc (.cells #[.slice p l.length q] 25)).alloc X) (some g) := fun X => (World.grownBy_alloc _ _ _).trans (World.grownBy_alloc _ _ _)
    have hdi : ∀ (X : Obj), DiceAt ((w2.alloc (.cells #[.slice p l.length q] 25)).alloc X) g := fun X => (HD.out.below ((Below.refl _ _).alloc (Nat.le_refl _) _)).below ((Below.refl _ _).alloc (Nat.le_refl _) _)
    have HBOX := Lib.hid hbox; have HROW := Lib.hid hrow; have HGR := Lib.hid hgr; have HDI := Lib.hid hdi
    clear hbox hrow hgr hdi
    by_cases hn : 0 < l.length
    · have hnb : decide ((0 : Int) < (l.length : Int)) = true := by simp; omega
      have hnb2 : decide (0 < l.length) = true := by simp; omega
      obtain ⟨b, rfl, hbge, hrow⟩ : ∃ b, p = some ⟨b, 0, none⟩ ∧ w1.heap.size ≤ b ∧ Row w2 b 0 l := by
        rcases HX.out with h | h
        · rw [h] at hn; simp at hn
        · exact h
      obtain ⟨e0, e1, e2, e3, e4⟩ := hrow (l.length - 1) (by omega)
      rw [Nat.zero_add] at e0 e1 e2 e3 e4
      rw [← getLastD_eq hn, ← HLD.out] at e0 e1 e2 e3 e4
      have hbl := World.block_lt_of_cell? _ _ e0
      simp only at hbl
      have hi0 : (0 : Int) ≤ (l.length : Int) - 1 := by omega
      have hi1 : (l.length : Int) - 1 < (l.length : Int) := by omega
      clear hrow
      go_wp2_with fail
      go_meet
      exact ⟨⟨HBOX.out _, HROW.out _, by omega⟩, HGR.out _, HDI.out _, ⟨by simp, by simp⟩, by simp⟩
    · have hnb : decide (0 < l.length) = false := by rw [decide_eq_false_iff_not]; exact hn
      have hl0 : l = [] := List.length_eq_zero_iff.1 (by omega)
      have hd0 : ld.day = 0 := by rw [HLD.out, hl0]; rfl
      have hk0 : ld.known = 0 := by rw [HLD.out, hl0]; rfl
      have H0 := Lib.hid hd0; have H1 := Lib.hid hk0; clear hl0 hd0 hk0
      go_wp2_with fail
      go_meet
      exact ⟨⟨HBOX.out _, HROW.out _, by omega⟩, HGR.out _, HDI.out _, ⟨by rw [H0.out]; simp, by rw [H1.out]; simp⟩, by simp⟩
  case rest =>
    obtain ⟨hLS, hgr, hdi, ⟨hc0, hc1⟩, hsz⟩ := hcut
    obtain ⟨⟨sd0, sd1⟩, sk0, sk1⟩ := dec_small HS.out HG.out (by omega)
    have hsd := HS.out.1
    rw [← HLD.out] at sd0 sd1 sk0 sk1 hsd
    obtain ⟨B, hBe⟩ : ∃ B, B = w2.heap.size := ⟨_, rfl⟩
    rw [← hBe] at hLS hc0 hc1 hsz hg12
    rw [← hBe]
    have HBE := Lib.hid hBe; clear hBe
    have hT : Thr1 wc wc g (B + 1) ld.day ld.known := ⟨hdi, World.grownBy.refl _ _, hc0, hc1, by omega⟩
    have hTd : Thr2 wc (wc.alloc (.cells #[.int .i64 0, .int .i64 0, .int .i64 0, .int .i64 0, .int .i64 0] 27)).drew g (B + 1) wc.heap.size ld.day ld.known := ⟨hT.made.thr.drew, hT.made.res, hT.made.ne, hT.made.old, hT.made.neB⟩
    have HLS := Lib.hid hLS; have HGR := Lib.hid hgr
    clear hLS hgr hdi HD
    go_upto_region 10 with (fail)
    have hTd1 := hT.drew
    obtain ⟨wb, rfl⟩ : ∃ wb : World, wb = wc := ⟨_, rfl⟩
    go_cut [13] from 51 to 62 (fun s13 wx => XMade wb wx g ld.day ld.known (1 + x % 5) (y % 3) s13)
    case first =>
      have k0 : wb.drew.cell? ⟨B + 1, 0, none⟩ = some (.int .i64 ld.day) := hT.c0
      have k1 : wb.drew.cell? ⟨B + 1, 1, none⟩ = some (.int .i64 ld.known) := hT.c1
      go_region_held3 (fun W => W.cell? ⟨B + 1, 0, none⟩ = some (.int .i64 ld.day) ∧ W.cell? ⟨B + 1, 1, none⟩ = some (.int .i64 ld.known)) (go_keep)
        (first
          | (go_at_call 37; refine (next_thr2 wb _ g (B + 1) _ ld.day ld.known _ (by omega) (by omega) (by first | assumption | exact Thr1.made (by assumption))).mono ?_; rintro e w' ⟨r, rfl, hr0, hr1, hT2⟩; have hc0' := hT2.thr.c0; have hc1' := hT2.thr.c1; obtain ⟨⟨y0, y1, y2, y3, y4⟩, yf⟩ := hT2.cells; have hn1 := hT2.neB; have hn2 := hT2.neB.symm; have hq1 : IntKind.i64.wrap (ld.day + r) = ld.day + r := IntWalk.i64_in (ld.day + r) (by omega))
          | (go_at_call 37; refine (next_thr1 wb _ g (B + 1) ld.day ld.known _ (by omega) (by omega) (by assumption)).mono ?_; rintro e w' ⟨r, rfl, hr0, hr1, hT'⟩; have hc0' := hT'.c0; have hc1' := hT'.c1; have hq1 : IntKind.i64.wrap (ld.day + r) = ld.day + r := IntWalk.i64_in (ld.day + r) (by omega)))
      all_goals go_wp2_with fail
      all_goals go_meet
      · exact xmade_alloc hT' (by assumption) (by assumption) hr0 hr1
      all_goals exact xmade_res hT2 (by assumption) (by assumption) hr0 hr1
    case rest =>
      obtain ⟨R, r0, r1, rfl, ⟨ra0, ra1⟩, ⟨rb0, rb1⟩, hR, hRw, hgx⟩ := hcut
      have hLSx := HLS.out.grown hgx
      have hg2x := HGR.out.trans hgx
      have hszx : B + 2 ≤ wc.heap.size := by have := hgx.size; omega
      have hRx := lt_of_heap hR
      have hbase : Below w0.heap.size w0 wc := by
        have h1 := HG2.out
        rw [HGE.out] at h1 hg2x
        exact below_grown (below_grown HB1.out h1) hg2x
      obtain ⟨xd, hxd⟩ : ∃ xd : Dec, xd = ⟨ld.day + r0, ld.known, 1 + x % 5, y % 3, r1⟩ := ⟨_, rfl⟩
      have hok : xd.ok = true := by
        rw [hxd]
        have := sk1
        have hkn : ld.known ≤ l.length := by rw [HLD.out]; exact HS.out.2
        show validB (ld.day + r0) ld.known (1 + x % 5) (y % 3) r1 = true
        exact validB_mk ⟨⟨by omega, by omega⟩, ⟨by omega, by omega⟩, ⟨by omega, by omega⟩, ⟨by omega, by omega⟩, ⟨by omega, by omega⟩⟩
      have had : addN l xd = 0 := addN_ok (by omega) hok (by rw [← HLD.out, hxd]; show ld.day ≤ ld.day + r0; omega) (by rw [← HLD.out, hxd]; exact Int.le_refl _)
      have hgood2 : Good (l ++ [xd]) := HG.out.snoc hok (by rw [← HLD.out, hxd]; show ld.day ≤ ld.day + r0; omega) (by rw [← HLD.out, hxd]; exact Int.le_refl _)
      have hln : latestK (l ++ [xd]) (1 + x % 5) (y % 3) (cutN (l ++ [xd]) (ld.day + r0)) = some xd := by
        have := latest_new hgood2
        rw [hxd] at this ⊢
        exact this
      have cA := add_any wc (p := p) (c := q) l xd HG.out (by omega) hLSx.rows
      rw [had, if_pos rfl] at cA
      have hval : xd.val = .agg #[.int .i64 (ld.day + r0), .int .i64 ld.known, .int .i64 (1 + x % 5), .int .i64 (y % 3), .int .i64 r1] := by rw [hxd]; rfl
      rw [hval] at cA
      have hRc : wc.heap[R]? = some (.cells (cells5 xd).toArray 27 (0, 0)) := by rw [hR, hxd]; rfl
      have k0 := cell_of_row _ R 0 _ _ _ hR
      have k1 := cell_of_row _ R 1 _ _ _ hR
      have k2 := cell_of_row _ R 2 _ _ _ hR
      have k3 := cell_of_row _ R 3 _ _ _ hR
      have k4 := cell_of_row _ R 4 _ _ _ hR
      simp at k0 k1 k2 k3 k4
      have kb := hLSx.box
      have CA := Lib.hid cA; have HX := Lib.hid hxd; have HLS2 := Lib.hid hLSx; have HB0 := Lib.hid hbase; have HLN := Lib.hid hln; have HRC := Lib.hid hRc; have HG2' := Lib.hid hgood2; have HV := Lib.hid hval
      clear cA hxd hLSx hbase hln hRc hgood2 hok had hR hg2x hgx hT hTd hTd1 hc0 hc1 HGR HB1 HG2 HLS hval
      go_wp2_with fail
      refine CA.out.mono ?_
      rintro e w4 ⟨v4, rfl, ⟨p4, c4, rfl, hc4, hx4⟩, hb4⟩
      have hLS4 := HLS2.out.below hb4
      have hR4 := (hb4.block R hRx).trans HRC.out
      have hb04 := below_step HB0.out hb4
      have hsz4 := hb4.size
      have hx4' : (l ++ [xd]) = [] ∨ ∃ b o, p4 = some ⟨b, o, none⟩ ∧ Row w4 b o (l ++ [xd]) := by
        rcases hx4 with h | ⟨b, hp, _, h⟩
        · exact .inl h
        · exact .inr ⟨b, 0, hp, h⟩
      have k0 := cell_later hb4 k0
      have HLS4 := Lib.hid hLS4; have HR4 := Lib.hid hR4; have HB4 := Lib.hid hb04; have HX4 := Lib.hid hx4'
      clear hLS4 hR4 hb04 hx4 hx4' hb4 k1 k2 k3 k4 kb CA HLS2 HB0 HRC
      have hR4x : R < w4.heap.size := by omega
      have hBx4 : B < w4.heap.size := by omega
      have ha4 : Below w4.heap.size w4 (w4.alloc (.cells #[.slice p4 (l.length + 1) c4] 25)) := (Below.refl _ _).alloc (Nat.le_refl _) _
      have hlen2 : (l ++ [xd]).length = l.length + 1 := by simp
      have cL := latest_any (w4.alloc (.cells #[.slice p4 (l.length + 1) c4] 25)) (p := p4) (c := c4) (1 + x % 5) (y % 3) (ld.day + r0) (l ++ [xd]) HG2'.out (by omega) hc4 (by
        rcases HX4.out with h | ⟨b, o, hp, h⟩
        · exact .inl h
        · exact .inr ⟨b, o, hp, h.mono ha4⟩)
      rw [HLN.out, hlen2] at cL
      have CL := Lib.hid cL; have HA4 := Lib.hid ha4; clear cL hlen2 ha4
      go_wp2_with fail
      refine CL.out.mono ?_
      rintro e w5 ⟨rfl, hb5⟩
      have hA5 := below_step HA4.out hb5
      have hLS5 := HLS4.out.below hA5
      have hR5 := (hA5.block R hR4x).trans HR4.out
      have hb05 := below_step HB4.out hA5
      have hsz5 := hA5.size
      clear hb5 hA5 CL HA4 HLS4 HR4 HB4 k0 HX4
      have HLS5 := Lib.hid hLS5; have HR5 := Lib.hid hR5; have HB5 := Lib.hid hb05
      clear hLS5 hR5 hb05
      simp only [Option.getD_some, Option.isSome_some]
      rw [HV.out]
      go_wp2_with fail
      obtain ⟨N, hN⟩ : ∃ N, N = w5.heap.size := ⟨_, rfl⟩
      rw [← hN]
      obtain ⟨W6, hW6⟩ : ∃ W6, W6 = w5.alloc (.cells #[.int .i64 (ld.day + r0), .int .i64 ld.known, .int .i64 (1 + x % 5), .int .i64 (y % 3), .int .i64 r1] 27) := ⟨_, rfl⟩
      rw [← hW6]
      have ha6 : Below w5.heap.size w5 W6 := by subst hW6; exact (Below.refl _ _).alloc (Nat.le_refl _) _
      have hLS6 := HLS5.out.below ha6
      have hR6 := (ha6.block R (by omega)).trans HR5.out
      have hN6 : W6.heap[N]? = some (.cells (cells5 xd).toArray 27 (0, 0)) := by subst hW6; subst hN; rw [heap_alloc_new]; rw [HX.out]; rfl
      have hb06 := below_step HB5.out ha6
      have hcl := fun t : Int => cutN_le l t
      have HLS6 := Lib.hid hLS6; have HR6 := Lib.hid hR6; have HN6 := Lib.hid hN6; have HB6 := Lib.hid hb06; have HCL := Lib.hid hcl
      clear hLS6 hR6 hN6 hb06 ha6 hW6 hN HLS5 HR5 HB5 k0 HLN HG2' HV hc4 hsz4 hR4x hBx4 hsz5 hcl hRw hRx hszx hsz hsd sd0 sd1 sk0 sk1
      go_loopw [18] (fun day wr => ∃ t : Nat, t ≤ 30 ∧ day = .int .i64 t ∧ Below W6.heap.size W6 wr) (fun day _ => 30 - (intOf day).toNat)
      case atStart => exact ⟨0, by omega, rfl, Below.refl _ _⟩
      case round =>
        obtain ⟨t, ht, rfl, hb⟩ := hrel
        obtain ⟨wo, rfl⟩ : ∃ wo : World, wo = wr := ⟨_, rfl⟩
        by_cases ht2 : t < 30
        · have hLSo := HLS6.out.below hb
          have hsz := hb.size
          have kb := hLSo.box
          have cL := latest_any wo (p := p) (c := q) (1 + x % 5) (y % 3) t l HG.out hlx hq hLSo.rows
          obtain ⟨rr, hrr⟩ : ∃ rr, rr = latestK l (1 + x % 5) (y % 3) (cutN l t) := ⟨_, rfl⟩
          rw [← hrr] at cL
          obtain ⟨rd, hrd⟩ : ∃ rd, rd = rr.getD dz := ⟨_, rfl⟩
          obtain ⟨rb, hrb⟩ : ∃ rb, rb = rr.isSome := ⟨_, rfl⟩
          unfold LatestPost at cL
          rw [← hrd, ← hrb] at cL
          have CL := Lib.hid cL; have HBo := Lib.hid hb; have HRR := Lib.hid hrr; have HRD := Lib.hid hrd; have HRB := Lib.hid hrb; have HLSo := Lib.hid hLSo
          clear cL hb hrr hrd hrb hLSo
          go_wp2_with fail
          refine CL.out.mono ?_
          rintro e w7 ⟨rfl, hb7⟩
          have hb67 := below_step HBo.out hb7
          have kb := (HLSo.out.below hb7).box
          have hsz7 := hb67.size
          have hBx7 := World.block_lt_of_cell? _ _ kb
          simp only at hBx7
          have HB67 := Lib.hid hb67; have HLS7 := Lib.hid (HLSo.out.below hb7)
          clear hb67 hb7 CL HBo HLSo
          unfold Dec.val
          go_wp2_with fail
          obtain ⟨A, hA⟩ : ∃ A, A = w7.heap.size := ⟨_, rfl⟩
          rw [← hA]
          obtain ⟨W8, hW8⟩ : ∃ W8, W8 = (w7.alloc (.cells #[.int .i64 rd.day, .int .i64 rd.known, .int .i64 rd.kind, .int .i64 rd.subj, .int .i64 rd.value] 27)).alloc (.cells #[.int .i64 0, .int .i64 0, .int .i64 0, .int .i64 0, .int .i64 0] 27) := ⟨_, rfl⟩
          rw [← hW8]
          have ha8 : Below w7.heap.size w7 W8 := by subst hW8; exact ((Below.refl _ _).alloc (Nat.le_refl _) _).alloc (by simp) _
          have hA8 : W8.heap[A]? = some (.cells #[.int .i64 rd.day, .int .i64 rd.known, .int .i64 rd.kind, .int .i64 rd.subj, .int .i64 rd.value] 27 (0, 0)) := by subst hW8; subst hA; rw [heap_alloc_old _ _ (by simp)]; exact heap_alloc_new _ _
          have hA9 : W8.heap[A + 1]? = some (.cells #[.int .i64 0, .int .i64 0, .int .i64 0, .int .i64 0, .int .i64 0] 27 (0, 0)) := by subst hW8; subst hA; exact heap_alloc2_new w7 _ _
          have hz8 : W8.heap.size = A + 2 := by subst hW8; subst hA; simp
          have hrow8 := (HLS7.out.below ha8).rows
          have hrowA : l = [] ∨ ∃ b o, p = some ⟨b, o, none⟩ ∧ b < A ∧ Row w7 b o l := by
            rcases HLS7.out.rows with h | ⟨b, o, hp, h⟩
            · exact .inl h
            · rcases Nat.eq_zero_or_pos l.length with h0 | h0
              · exact .inl (List.length_eq_zero_iff.1 h0)
              · exact .inr ⟨b, o, hp, by have := World.block_lt_of_cell? _ _ (h 0 h0).1; rw [hA]; exact this, h⟩
          have hb68 := below_step HB67.out ha8
          have hsz8 := hb68.size
          have hAW : W6.heap.size ≤ A := by omega
          have HA8 := Lib.hid hA8; have HA9 := Lib.hid hA9; have HZ8 := Lib.hid hz8; have HROWA := Lib.hid hrowA; have HB68 := Lib.hid hb68; have HA78 := Lib.hid ha8
          clear hA8 hA9 hrow8 hrowA hb68 ha8 hz8 hsz8 kb hsz7 hBx7 HLS7 HB67 hsz
          have HAE := Lib.hid hA; clear hA hW8
          go_loopw [93, 22] (fun i found wr => ∃ j : Nat, j ≤ l.length ∧ i = .int .i64 j ∧ found = .bool (latestK l (1 + x % 5) (y % 3) (min j (cutN l t))).isSome ∧
            wr.heap[A + 1]? = some (.cells (cells5 ((latestK l (1 + x % 5) (y % 3) (min j (cutN l t))).getD dz)).toArray 27 (0, 0)) ∧ Below (A + 1) W8 wr ∧ A + 2 ≤ wr.heap.size) (fun i _ _ => l.length - (intOf i).toNat)
          case atStart => exact ⟨0, Nat.zero_le _, rfl, by rw [Nat.zero_min]; rfl, by rw [Nat.zero_min]; exact HA9.out, Below.refl _ _, by rw [HZ8.out]; exact Nat.le_refl _⟩
          case round =>
            obtain ⟨j, hj, rfl, rfl, hw, hb, hszr⟩ := hrel
            by_cases hjl : j < l.length
            · rcases HROWA.out with h | ⟨b, o, hp, hba, hrow⟩
              · subst h; simp at hjl
              subst hp
              have hrow2 : Row wr b o l := by
                have h8 := hrow.mono HA78.out
                intro i hi
                obtain ⟨e0, e1, e2, e3, e4⟩ := h8 i hi
                exact ⟨(hb.cell (p := ⟨b, _, none⟩) (by show b < A + 1; omega)).trans e0, (hb.cell (p := ⟨b, _, none⟩) (by show b < A + 1; omega)).trans e1, (hb.cell (p := ⟨b, _, none⟩) (by show b < A + 1; omega)).trans e2, (hb.cell (p := ⟨b, _, none⟩) (by show b < A + 1; omega)).trans e3, (hb.cell (p := ⟨b, _, none⟩) (by show b < A + 1; omega)).trans e4⟩
              obtain ⟨c0, c1, c2, c3, c4⟩ := hrow2 j hjl
              have hf := latest_front HG.out (1 + x % 5) (y % 3) t j hjl
              have hwcells := hw
              obtain ⟨cd, hcd⟩ : ∃ cd, cd = (latestK l (1 + x % 5) (y % 3) (min j (cutN l t))).getD dz := ⟨_, rfl⟩
              rw [← hcd] at hw
              have v0 := cell_of_row _ (A + 1) 0 _ _ _ hw
              have v1 := cell_of_row _ (A + 1) 1 _ _ _ hw
              have v2 := cell_of_row _ (A + 1) 2 _ _ _ hw
              have v3 := cell_of_row _ (A + 1) 3 _ _ _ hw
              have v4 := cell_of_row _ (A + 1) 4 _ _ _ hw
              have vf : ∀ i, wr.frozen? ⟨A + 1, i, none⟩ = false := fun i => by simp [World.frozen?, hw]
              simp [cells5] at v0 v1 v2 v3 v4
              have hA1 : A + 1 < wr.heap.size := by omega
              have HW := Lib.hid hw; have HBI := Lib.hid hb; have HWC := Lib.hid hwcells; have HF := Lib.hid hf; have HCD := Lib.hid hcd
              clear hw hb hwcells hf hrow hrow2 hcd
              by_cases hk : l[j].kind = 1 + x % 5 ∧ l[j].subj = y % 3 ∧ l[j].day ≤ t
              · obtain ⟨hk1, hk2, hk3⟩ := hk
                have b1 : (l[j].kind == 1 + x % 5) = true := by simpa using hk1
                have b2 : (l[j].subj == y % 3) = true := by simpa using hk2
                have b3 : decide (l[j].day ≤ (t : Int)) = true := by simpa using hk3
                have hnext : latestK l (1 + x % 5) (y % 3) (min (j + 1) (cutN l t)) = some l[j] := by rw [HF.out, if_pos ⟨hk1, hk2, hk3⟩]
                have HN := Lib.hid hnext; clear hk1 hk2 hk3 hnext
                go_wp2_with fail
                go_roundw
                case rel =>
                  obtain ⟨m1, m2, m3⟩ := want_step HW.out HBI.out hszr l[j] (.cells #[.int .i64 l[j].day, .int .i64 l[j].known, .int .i64 l[j].kind, .int .i64 l[j].subj, .int .i64 l[j].value] 27)
                  exact ⟨j + 1, by omega, by go_num, by rw [HN.out]; rfl, by rw [HN.out]; exact m1, m2, m3⟩
                case measure => simp [intOf]; omega
              · have hnext : latestK l (1 + x % 5) (y % 3) (min (j + 1) (cutN l t)) = latestK l (1 + x % 5) (y % 3) (min j (cutN l t)) := by rw [HF.out, if_neg hk]
                have HN := Lib.hid hnext; clear hnext
                have key : ∀ X, ((wr.alloc X).heap[A + 1]? = some (.cells (cells5 ((latestK l (1 + x % 5) (y % 3) (min (j + 1) (cutN l t))).getD dz)).toArray 27 (0, 0)) ∧ Below (A + 1) W8 (wr.alloc X) ∧ A + 2 ≤ (wr.alloc X).heap.size) := fun X => by rw [HN.out]; exact want_stay HWC.out HBI.out hszr X
                have KEY := Lib.hid key; clear key
                clear v0 v1 v2 v3 v4 vf
                by_cases hk1 : l[j].kind = 1 + x % 5
                · have b1 : (l[j].kind == 1 + x % 5) = true := by simpa using hk1
                  by_cases hk2 : l[j].subj = y % 3
                  · have b2 : (l[j].subj == y % 3) = true := by simpa using hk2
                    have b3 : decide (l[j].day ≤ (t : Int)) = false := by rw [decide_eq_false_iff_not]; exact fun h => hk ⟨hk1, hk2, h⟩
                    clear hk hk1 hk2
                    go_wp2_with fail
                    go_roundw
                    case rel => exact ⟨j + 1, by omega, by go_num, by rw [HN.out], (KEY.out _).1, (KEY.out _).2⟩
                    case measure => simp [intOf]; omega
                  · have b2 : (l[j].subj == y % 3) = false := by simpa using hk2
                    clear hk hk1 hk2
                    go_wp2_with fail
                    go_roundw
                    case rel => exact ⟨j + 1, by omega, by go_num, by rw [HN.out], (KEY.out _).1, (KEY.out _).2⟩
                    case measure => simp [intOf]; omega
                · have b1 : (l[j].kind == 1 + x % 5) = false := by simpa using hk1
                  clear hk hk1
                  go_wp2_with fail
                  go_roundw
                  case rel => exact ⟨j + 1, by omega, by go_num, by rw [HN.out], (KEY.out _).1, (KEY.out _).2⟩
                  case measure => simp [intOf]; omega
            · have hjl2 : j = l.length := by omega
              have hmin : min j (cutN l t) = cutN l t := by rw [hjl2]; exact Nat.min_eq_right (HCL.out _)
              rw [hmin, ← HRR.out, ← HRB.out]
              rw [hmin, ← HRR.out, ← HRD.out] at hw
              have ha := (hb.block A (by omega)).trans HA8.out
              have u0 := cell_of_row _ A 0 _ _ _ ha
              have u1 := cell_of_row _ A 1 _ _ _ ha
              have u2 := cell_of_row _ A 2 _ _ _ ha
              have u3 := cell_of_row _ A 3 _ _ _ ha
              have u4 := cell_of_row _ A 4 _ _ _ ha
              have v0 := cell_of_row _ (A + 1) 0 _ _ _ hw
              have v1 := cell_of_row _ (A + 1) 1 _ _ _ hw
              have v2 := cell_of_row _ (A + 1) 2 _ _ _ hw
              have v3 := cell_of_row _ (A + 1) 3 _ _ _ hw
              have v4 := cell_of_row _ (A + 1) 4 _ _ _ hw
              simp [cells5] at u0 u1 u2 u3 u4 v0 v1 v2 v3 v4
              have hbn : (rb != rb) = false := by simp
              have hbb : Below W6.heap.size W6 wr := HB68.out.trans (hb.mono (by omega))
              have HBB := Lib.hid hbb
              clear hmin hjl2 hw ha hb hbb
              go_wp2_with fail
              go_roundw
              case rel => exact ⟨t + 1, by omega, by go_num, HBB.out⟩
              case measure => simp [intOf]; omega
        · have : t = 30 := by omega
          subst this
          have hr := (hb.block R (lt_of_heap HR6.out)).trans HR6.out
          have hn := (hb.block N (lt_of_heap HN6.out)).trans HN6.out
          have u0 := cell_of_row _ R 0 _ _ _ hr
          have u1 := cell_of_row _ R 1 _ _ _ hr
          have u2 := cell_of_row _ R 2 _ _ _ hr
          have u3 := cell_of_row _ R 3 _ _ _ hr
          have u4 := cell_of_row _ R 4 _ _ _ hr
          have v0 := cell_of_row _ N 0 _ _ _ hn
          have v1 := cell_of_row _ N 1 _ _ _ hn
          have v2 := cell_of_row _ N 2 _ _ _ hn
          have v3 := cell_of_row _ N 3 _ _ _ hn
          have v4 := cell_of_row _ N 4 _ _ _ hn
          simp [cells5] at u0 u1 u2 u3 u4 v0 v1 v2 v3 v4
          have HBF := Lib.hid (below_step HB6.out hb)
          clear hr hn hb
          go_wp2_with fail
          refine (lawake_any _).mono ?_
          rintro e w9 ⟨rfl, hb9⟩
          go_wp2_with fail
          go_ret
          exact ⟨rfl, below_step HBF.out hb9⟩

theorem llatest_any (w : World) (a : Option Addr) (n c : Nat) (x y : Int) (hx : 0 ≤ x ∧ x ≤ 255) (hy : 0 ≤ y ∧ y ≤ 255) (hi : Ints w w.heap.size a n) :
    Calls Try.prog 8 #[.slice a n c, .int .u8 x, .int .u8 y] w fun e w' => e = .returned (.bool true) ∧ Below w.heap.size w w' := by
  cases h : decide (n ≤ 400)
  · exact llatest_heavy w a n c x y h
  · exact llatest_light w a n c x y hx hy h hi
end Go.Proofs.Ytncljgihliiejaa
