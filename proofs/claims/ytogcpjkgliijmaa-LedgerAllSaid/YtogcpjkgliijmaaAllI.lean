/- What LedgerAll's loops carry: a ledger's round, a question's round. -/
import Derived.Test.YtogcpjkgliijmaaRAddE
import Derived.Test.YtogcpjkgliijmaaDif2
import Derived.Test.YtogcpjkgliijmaaDecide
import Derived.Test.YtogcpjkgliijmaaLatestM
import Derived.Test.YtogcpjkgliijmaaRLatest
import Derived.Test.YtogcpjkgliijmaaRThen
import Derived.Test.YtogcpjkgliijmaaRChanged
import Derived.Test.YtogcpjkgliijmaaSInts
/- What LedgerAll's walk needs beside: what two lists' comparisons say on both sides, Of, a row of five. -/
namespace Go.Proofs.Ytogcpjkgliijmaa
open Go.RowKit

theorem both_dif (a b : List Dec) (hl : a.length ≤ 1000) (hl2 : b.length ≤ 1000) : ∃ (r : Int) (q s : Bool),
    (∀ w pa pb ca cb, Reads w pa a → Reads w pb b → Calls Try.prog 25 #[.agg #[.slice pa a.length ca], .agg #[.slice pb b.length cb]] w fun e w' => e = .returned (.tuple #[.int .i64 r, .bool q]) ∧ Below w.heap.size w w') ∧
    (∀ w pa pb ca cb, Reads w pa a → Reads w pb b → Calls Try.prog 26 #[.agg #[.slice pa a.length ca], .agg #[.slice pb b.length cb]] w fun e w' => e = .returned (.tuple #[.int .i64 r, .bool q]) ∧ Below w.heap.size w w') ∧
    (∀ w pa pb ca cb, Reads w pa a → Reads w pb b → Calls Try.prog 24 #[.agg #[.slice pa a.length ca], .agg #[.slice pb b.length cb]] w fun e w' => e = .returned (.bool s) ∧ Below w.heap.size w w') ∧
    (∀ w pa pb ca cb, Reads w pa a → Reads w pb b → Calls Try.prog 21 #[.agg #[.slice pa a.length ca], .agg #[.slice pb b.length cb]] w fun e w' => e = .returned (.bool s) ∧ Below w.heap.size w w') := by
  rcases dif_or a b with rfl | ⟨k, hk⟩
  · refine ⟨0, false, true, ?_, fun w pa pb ca cb ha hb => refdiffer_same w pa pb ca cb a ha hb hl, fun w pa pb ca cb ha hb => same_same w pa pb ca cb a ha hb hl, fun w pa pb ca cb ha hb => refsame_same w pa pb ca cb a ha hb hl⟩
    intro w pa pb ca cb ha hb
    exact differ_any w pa pb ca cb a.length a (by rw [List.take_length]; exact ha) hb (Nat.le_refl _) hl (by rw [if_pos rfl]) (by simp)
  · exact ⟨k, true, false, fun w pa pb ca cb ha hb => differ_dif w pa pb ca cb k a b hk ha hb hl hl2, fun w pa pb ca cb ha hb => refdiffer_dif w pa pb ca cb k a b hk ha hb hl hl2,
      fun w pa pb ca cb ha hb => same_dif w pa pb ca cb k a b hk ha hb hl hl2, fun w pa pb ca cb ha hb => refsame_dif w pa pb ca cb k a b hk ha hb hl hl2⟩

def OfPost (w : World) (g : Nat) (e : Ending) (w' : World) : Prop := ∃ r : Int, e = .returned (.int .i64 r) ∧ DiceAt w' g ∧ w.grownBy w' (some g)

set_option maxHeartbeats 1000000 in
theorem of_any (w : World) (g X : Nat) (h : DiceAt w g) (hX : X ≠ g) (h0 : w.cell? ⟨X, 0, none⟩ = some (.int .i64 40)) (h1 : w.cell? ⟨X, 1, none⟩ = some (.int .i64 41)) :
    Calls Try.prog 18 #[.pointer (some ⟨g, 0, none⟩), .slice (some ⟨X, 0, none⟩) 2 2] w (OfPost w g) := by
  have hc := next_any w g 2 (by omega) (by omega) h
  have HC := Lib.hid hc; have HX := Lib.hid hX
  clear hc h
  go_enter Try.func18, Try.ntmps18
  go_wp2_with fail
  refine HC.out.mono ?_
  rintro e W ⟨r, rfl, hr0, hr1, hd, hg⟩
  have k0 := hg.cell (w := w) h0 (by simp; exact HX.out)
  have k1 := hg.cell (w := w) h1 (by simp; exact HX.out)
  have HG := Lib.hid hg; have HD := Lib.hid hd
  clear hg hd HC h0 h1
  have hr : r = 0 ∨ r = 1 := by omega
  rcases hr with rfl | rfl
  · go_wp2_with fail
    go_ret
    exact ⟨_, rfl, HD.out, HG.out⟩
  · go_wp2_with fail
    go_ret
    exact ⟨_, rfl, HD.out, HG.out⟩

theorem row5 (W : World) (a b c d e : Dec) : Row (W.alloc (.cells (flat [a, b, c, d, e]).toArray 27)) W.heap.size 0 [a, b, c, d, e] := by
  intro j hj
  simp only [List.length_cons, List.length_nil] at hj
  have : j = 0 ∨ j = 1 ∨ j = 2 ∨ j = 3 ∨ j = 4 := by omega
  rcases this with rfl | rfl | rfl | rfl | rfl <;> simp [flat, cells5]
end Go.Proofs.Ytogcpjkgliijmaa

/- What is carried along LedgerAll's walk. -/
namespace Go.Proofs.Ytogcpjkgliijmaa
open Go.RowKit

/-- Decisions in a block that is not g. -/
def RdNe (W : World) (g : Nat) (p : Option Addr) (l : List Dec) : Prop := l = [] ∨ ∃ b o, p = some ⟨b, o, none⟩ ∧ b ≠ g ∧ Row W b o l

theorem RdNe.reads {W : World} {g : Nat} {p : Option Addr} {l : List Dec} (h : RdNe W g p l) : Reads W p l := by
  rcases h with h | ⟨b, o, hp, _, h⟩
  · exact .inl h
  · exact .inr ⟨b, o, hp, h⟩

theorem Row.grown {W W' : World} {g b o : Nat} {l : List Dec} (h : Row W b o l) (hg : W.grownBy W' (some g)) (hb : b ≠ g) : Row W' b o l := fun j hj => by
  obtain ⟨h0, h1, h2, h3, h4⟩ := h j hj
  exact ⟨hg.cell h0 (by simpa using hb), hg.cell h1 (by simpa using hb), hg.cell h2 (by simpa using hb), hg.cell h3 (by simpa using hb), hg.cell h4 (by simpa using hb)⟩

theorem RdNe.grown {W W' : World} {g : Nat} {p : Option Addr} {l : List Dec} (h : RdNe W g p l) (hg : W.grownBy W' (some g)) : RdNe W' g p l := by
  rcases h with h | ⟨b, o, hp, hb, h⟩
  · exact .inl h
  · exact .inr ⟨b, o, hp, hb, h.grown hg hb⟩

/-- The two ledgers in their boxes. -/
structure LG (w W : World) (R A g : Nat) (pr p : Option Addr) (cr q : Nat) (lr l : List Dec) : Prop where
  r : W.cell? ⟨R, 0, none⟩ = some (.slice pr lr.length cr)
  a : W.cell? ⟨A, 0, none⟩ = some (.slice p l.length q)
  rr : RdNe W g pr lr
  ra : RdNe W g p l
  neR : R ≠ g
  neA : A ≠ g
  below : Below w.heap.size w W
  le : w.heap.size ≤ g

variable {w W W' : World} {R A g : Nat} {pr p : Option Addr} {cr q : Nat} {lr l : List Dec}

theorem below_grown_some {g : Nat} (h : Below w.heap.size w W) (hg : W.grownBy W' (some g)) (hle : w.heap.size ≤ g) : Below w.heap.size w W' :=
  ⟨hg.os.trans h.os, hg.tape.trans h.tape, hg.output.trans h.output, Nat.le_trans h.size hg.size, fun k hk => (hg.block k (Nat.lt_of_lt_of_le hk h.size) (by simp; omega)).trans (h.block k hk)⟩

theorem LG.grown (h : LG w W R A g pr p cr q lr l) (hg : W.grownBy W' (some g)) : LG w W' R A g pr p cr q lr l :=
  ⟨hg.cell h.r (by simpa using h.neR), hg.cell h.a (by simpa using h.neA), h.rr.grown hg, h.ra.grown hg, h.neR, h.neA, below_grown_some h.below hg h.le, h.le⟩

theorem LG.mono (h : LG w W R A g pr p cr q lr l) (hb : Below W.heap.size W W') : LG w W' R A g pr p cr q lr l := h.grown (grown_of_below hb _)

/-- The five cells of a decision. -/
def D5 (W : World) (b : Nat) (d : Dec) : Prop :=
  W.cell? ⟨b, 0, none⟩ = some (.int .i64 d.day) ∧ W.cell? ⟨b, 1, none⟩ = some (.int .i64 d.known) ∧ W.cell? ⟨b, 2, none⟩ = some (.int .i64 d.kind) ∧ W.cell? ⟨b, 3, none⟩ = some (.int .i64 d.subj) ∧ W.cell? ⟨b, 4, none⟩ = some (.int .i64 d.value)

theorem D5.grown {b : Nat} {d : Dec} (h : D5 W b d) (hg : W.grownBy W' (some g)) (hb : b ≠ g) : D5 W' b d := by
  obtain ⟨h0, h1, h2, h3, h4⟩ := h
  exact ⟨hg.cell h0 (by simpa using hb), hg.cell h1 (by simpa using hb), hg.cell h2 (by simpa using hb), hg.cell h3 (by simpa using hb), hg.cell h4 (by simpa using hb)⟩

/-- Where the five decisions are made. -/
structure ST (w W : World) (R A g : Nat) (pr p : Option Addr) (cr q : Nat) (lr l : List Dec) (X L : Nat) (d ld : Dec) : Prop where
  lg : LG w W R A g pr p cr q lr l
  dice : DiceAt W g
  x : D5 W X d
  last : D5 W L ld
  neX : X ≠ g
  neL : L ≠ g

variable {X L : Nat} {d ld : Dec}

theorem ST.grown (h : ST w W R A g pr p cr q lr l X L d ld) (hg : W.grownBy W' (some g)) (hd : DiceAt W' g) : ST w W' R A g pr p cr q lr l X L d ld :=
  ⟨h.lg.grown hg, hd, h.x.grown hg h.neX, h.last.grown hg h.neL, h.neX, h.neL⟩

theorem ST.mono (h : ST w W R A g pr p cr q lr l X L d ld) (hb : Below W.heap.size W W') : ST w W' R A g pr p cr q lr l X L d ld :=
  h.grown (grown_of_below hb _) (h.dice.below hb)

/-- The numbers 40 and 41 in a block of their own. -/
def XC (W : World) (g Y : Nat) : Prop := Y ≠ g ∧ W.cell? ⟨Y, 0, none⟩ = some (.int .i64 40) ∧ W.cell? ⟨Y, 1, none⟩ = some (.int .i64 41)

theorem XC.grown {Y : Nat} (h : XC W g Y) (hg : W.grownBy W' (some g)) : XC W' g Y :=
  ⟨h.1, hg.cell h.2.1 (by simpa using h.1), hg.cell h.2.2 (by simpa using h.1)⟩

theorem st_alloc (h : ST w W R A g pr p cr q lr l X L d ld) : ST w (W.alloc (.cells #[.int .i64 40, .int .i64 41] 3)) R A g pr p cr q lr l X L d ld ∧ XC (W.alloc (.cells #[.int .i64 40, .int .i64 41] 3)) g W.heap.size := by
  have hlt := h.dice.lt
  exact ⟨h.mono ((Below.refl _ _).alloc (Nat.le_refl _) _), by omega, by simp, by simp⟩

theorem st_decide (hs : (0 ≤ ld.day ∧ ld.day ≤ 30000) ∧ (0 ≤ ld.known ∧ ld.known ≤ 30000)) (W : World) (h : ST w W R A g pr p cr q lr l X L d ld) :
    Calls Try.prog 17 #[.pointer (some ⟨g, 0, none⟩), ld.val] W fun e w' => ∃ d2 : Dec, e = .returned d2.val ∧ ST w w' R A g pr p cr q lr l X L d ld ∧ ∀ Y, XC W g Y → XC w' g Y := by
  refine (decision_any W g ld h.dice hs.1 hs.2).mono ?_
  rintro e w' ⟨d2, he, -, -, -, -, -, hd, hg⟩
  exact ⟨d2, he, h.grown hg hd, fun Y hY => hY.grown hg⟩

theorem st_of (W : World) (Y : Nat) (h : ST w W R A g pr p cr q lr l X L d ld) (hY : XC W g Y) :
    Calls Try.prog 18 #[.pointer (some ⟨g, 0, none⟩), .slice (some ⟨Y, 0, none⟩) 2 2] W fun e w' => ∃ r : Int, e = .returned (.int .i64 r) ∧ ST w w' R A g pr p cr q lr l X L d ld := by
  refine (of_any W g Y h.dice hY.1 hY.2.1 hY.2.2).mono ?_
  rintro e w' ⟨r, he, hd, hg⟩
  exact ⟨r, he, h.grown hg hd⟩

theorem st_last {w3 : World} (h : LG w w3 R A g pr p cr q lr l) (hd : DiceAt w3 g) (hx : D5 w3 X d) (hX : X ≠ g) (hL : L = w3.heap.size) :
    ST w (resW (w3.alloc (.cells #[.int .i64 0, .int .i64 0, .int .i64 0, .int .i64 0, .int .i64 0] 27)) L ld.day ld.known ld.kind ld.subj ld.value) R A g pr p cr q lr l X L d ld := by
  have hb3 : Below w3.heap.size w3 (w3.alloc (.cells #[.int .i64 0, .int .i64 0, .int .i64 0, .int .i64 0, .int .i64 0] 27)) := (Below.refl _ _).alloc (Nat.le_refl _) _
  have hz : (w3.alloc (.cells #[.int .i64 0, .int .i64 0, .int .i64 0, .int .i64 0, .int .i64 0] 27)).heap[L]? = some (.cells #[.int .i64 0, .int .i64 0, .int .i64 0, .int .i64 0, .int .i64 0] 27 (0, 0)) := by rw [hL]; exact heap_alloc_new _ _
  have hgr := resW_grown ld.day ld.known ld.kind ld.subj ld.value (grown_of_below hb3 (some g)) (by omega : w3.heap.size ≤ L)
  have hr := resW_heap (z := .int .i64 0) ld.day ld.known ld.kind ld.subj ld.value hz
  have hlt := hd.lt
  have c0 := cell_of_row _ L 0 _ _ _ hr
  have c1 := cell_of_row _ L 1 _ _ _ hr
  have c2 := cell_of_row _ L 2 _ _ _ hr
  have c3 := cell_of_row _ L 3 _ _ _ hr
  have c4 := cell_of_row _ L 4 _ _ _ hr
  exact ⟨h.grown hgr, resW_dice _ _ _ _ _ (hd.below hb3) (by omega), hx.grown hgr hX, ⟨by simpa using c0, by simpa using c1, by simpa using c2, by simpa using c3, by simpa using c4⟩, hX, by omega⟩

theorem st_zero {w3 : World} (h : LG w w3 R A g pr p cr q lr l) (hd : DiceAt w3 g) (hx : D5 w3 X d) (hX : X ≠ g) (hL : L = w3.heap.size) :
    ST w (w3.alloc (.cells #[.int .i64 0, .int .i64 0, .int .i64 0, .int .i64 0, .int .i64 0] 27)) R A g pr p cr q lr l X L d ⟨0, 0, 0, 0, 0⟩ := by
  have hb3 : Below w3.heap.size w3 (w3.alloc (.cells #[.int .i64 0, .int .i64 0, .int .i64 0, .int .i64 0, .int .i64 0] 27)) := (Below.refl _ _).alloc (Nat.le_refl _) _
  have hlt := hd.lt
  exact ⟨h.mono hb3, hd.below hb3, hx.grown (grown_of_below hb3 (some g)) hX, by rw [hL]; exact ⟨by simp, by simp, by simp, by simp, by simp⟩, hX, by omega⟩

theorem LG.drew (h : LG w W R A g pr p cr q lr l) : LG w W.drew R A g pr p cr q lr l := ⟨h.r, h.a, h.rr, h.ra, h.neR, h.neA, h.below.drew, h.le⟩
theorem ST.drew (h : ST w W R A g pr p cr q lr l X L d ld) : ST w W.drew R A g pr p cr q lr l X L d ld := ⟨h.lg.drew, h.dice, h.x, h.last, h.neX, h.neL⟩

theorem st_cells (h : ST w W R A g pr p cr q lr l X L d ld) :
    (W.cell? ⟨X, 0, none⟩ = some (.int .i64 d.day) ∧ W.cell? ⟨X, 1, none⟩ = some (.int .i64 d.known) ∧ W.cell? ⟨X, 2, none⟩ = some (.int .i64 d.kind) ∧ W.cell? ⟨X, 3, none⟩ = some (.int .i64 d.subj) ∧ W.cell? ⟨X, 4, none⟩ = some (.int .i64 d.value)) ∧
    (W.cell? ⟨L, 0, none⟩ = some (.int .i64 ld.day) ∧ W.cell? ⟨L, 1, none⟩ = some (.int .i64 ld.known) ∧ W.cell? ⟨L, 2, none⟩ = some (.int .i64 ld.kind) ∧ W.cell? ⟨L, 3, none⟩ = some (.int .i64 ld.subj) ∧ W.cell? ⟨L, 4, none⟩ = some (.int .i64 ld.value)) := ⟨h.x, h.last⟩

/-- The five decisions, made. -/
def Five (w : World) (R A g : Nat) (pr p : Option Addr) (cr q : Nat) (lr l : List Dec) (s0 s1 s2 : Value) (W : World) : Prop :=
  ∃ (Y : Nat) (ds : List Dec), s0 = .slice (some ⟨Y, 0, none⟩) 5 5 ∧ s1 = .int .i64 5 ∧ s2 = .int .i64 0 ∧ ds.length = 5 ∧ Row W Y 0 ds ∧ LG w W R A g pr p cr q lr l

theorem five_made (h : ST w W R A g pr p cr q lr l X L d ld) (d0 d1 d2 d3 d4 : Dec) :
    Five w R A g pr p cr q lr l (.slice (some ⟨W.heap.size, 0, none⟩) 5 5) (.int .i64 5) (.int .i64 0) (W.alloc (.cells (flat [d0, d1, d2, d3, d4]).toArray 27)) :=
  ⟨_, _, rfl, rfl, rfl, rfl, row5 W d0 d1 d2 d3 d4, h.lg.mono ((Below.refl _ _).alloc (Nat.le_refl _) _)⟩
end Go.Proofs.Ytogcpjkgliijmaa

namespace Go.Proofs.Ytogcpjkgliijmaa
open Go.RowKit

/-- The made ledger, the ledger of the round, and what both Adds made of it. -/
structure IN (W0 W : World) (A Z X Y : Nat) (p pz px py : Option Addr) (q cz cx cy : Nat) (l lz L : List Dec) : Prop where
  a : W.cell? ⟨A, 0, none⟩ = some (.slice p l.length q)
  z : W.cell? ⟨Z, 0, none⟩ = some (.slice pz lz.length cz)
  x : W.cell? ⟨X, 0, none⟩ = some (.slice px L.length cx)
  y : W.cell? ⟨Y, 0, none⟩ = some (.slice py L.length cy)
  ra : Reads W p l
  rz : Reads W pz lz
  rx : Reads W px L
  ry : Reads W py L
  below : Below W0.heap.size W0 W

variable {W0 W W' : World} {A Z X Y : Nat} {p pz px py : Option Addr} {q cz cx cy : Nat} {l lz L : List Dec}

theorem IN.mono (h : IN W0 W A Z X Y p pz px py q cz cx cy l lz L) (hb : Below W.heap.size W W') : IN W0 W' A Z X Y p pz px py q cz cx cy l lz L :=
  ⟨cell_later hb h.a, cell_later hb h.z, cell_later hb h.x, cell_later hb h.y, h.ra.mono hb, h.rz.mono hb, h.rx.mono hb, h.ry.mono hb, below_step h.below hb⟩

theorem IN.drew (h : IN W0 W A Z X Y p pz px py q cz cx cy l lz L) : IN W0 W.drew A Z X Y p pz px py q cz cx cy l lz L :=
  ⟨h.a, h.z, h.x, h.y, h.ra, h.rz, h.rx, h.ry, h.below.drew⟩

theorem in_cells (h : IN W0 W A Z X Y p pz px py q cz cx cy l lz L) :
    W.cell? ⟨A, 0, none⟩ = some (.slice p l.length q) ∧ W.cell? ⟨Z, 0, none⟩ = some (.slice pz lz.length cz) ∧ W.cell? ⟨X, 0, none⟩ = some (.slice px L.length cx) ∧ W.cell? ⟨Y, 0, none⟩ = some (.slice py L.length cy) := ⟨h.a, h.z, h.x, h.y⟩

theorem in_same (hL : L.length ≤ 1000) (W : World) (h : IN W0 W A Z X Y p pz px py q cz cx cy l lz L) :
    Calls Try.prog 21 #[.agg #[.slice px L.length cx], .agg #[.slice py L.length cy]] W fun e w' => e = .returned (.bool true) ∧ IN W0 w' A Z X Y p pz px py q cz cx cy l lz L :=
  (refsame_same W px py cx cy L h.rx h.ry hL).mono fun e w' ⟨he, hb⟩ => ⟨he, h.mono hb⟩

theorem in_check {E : Int} (hE : E = errN lz) (hc : lz.length ≤ cz) (W : World) (h : IN W0 W A Z X Y p pz px py q cz cx cy l lz L) :
    Calls Try.prog 22 #[.agg #[.slice pz lz.length cz]] W fun e w' => e = .returned (.int .i64 E) ∧ IN W0 w' A Z X Y p pz px py q cz cx cy l lz L := by
  subst hE
  exact (check_err W lz hc h.rz).mono fun e w' ⟨he, hb⟩ => ⟨he, h.mono hb⟩

theorem in_refcheck {E : Int} (hE : E = errN lz) (W : World) (h : IN W0 W A Z X Y p pz px py q cz cx cy l lz L) :
    Calls Try.prog 23 #[.agg #[.slice pz lz.length cz]] W fun e w' => e = .returned (.int .i64 E) ∧ IN W0 w' A Z X Y p pz px py q cz cx cy l lz L := by
  subst hE
  exact (refcheck_err W lz h.rz).mono fun e w' ⟨he, hb⟩ => ⟨he, h.mono hb⟩

theorem in_dif (hL : L.length ≤ 1000) (hl : l.length ≤ 1000) : ∃ (r : Int) (b s : Bool), ∀ (W0 : World) (A Z X Y : Nat) (p pz px py : Option Addr) (q cz cx cy : Nat) (lz : List Dec) (W : World), IN W0 W A Z X Y p pz px py q cz cx cy l lz L →
    (Calls Try.prog 24 #[.agg #[.slice px L.length cx], .agg #[.slice p l.length q]] W fun e w' => e = .returned (.bool s) ∧ IN W0 w' A Z X Y p pz px py q cz cx cy l lz L) ∧
    (Calls Try.prog 21 #[.agg #[.slice py L.length cy], .agg #[.slice p l.length q]] W fun e w' => e = .returned (.bool s) ∧ IN W0 w' A Z X Y p pz px py q cz cx cy l lz L) ∧
    (Calls Try.prog 25 #[.agg #[.slice px L.length cx], .agg #[.slice p l.length q]] W fun e w' => e = .returned (.tuple #[.int .i64 r, .bool b]) ∧ IN W0 w' A Z X Y p pz px py q cz cx cy l lz L) ∧
    (Calls Try.prog 26 #[.agg #[.slice py L.length cy], .agg #[.slice p l.length q]] W fun e w' => e = .returned (.tuple #[.int .i64 r, .bool b]) ∧ IN W0 w' A Z X Y p pz px py q cz cx cy l lz L) := by
  obtain ⟨r, b, s, h25, h26, h24, h21⟩ := both_dif L l hL hl
  refine ⟨r, b, s, fun W0 A Z X Y p pz px py q cz cx cy lz W h => ⟨?_, ?_, ?_, ?_⟩⟩
  · exact (h24 W px p cx q h.rx h.ra).mono fun e w' ⟨he, hb⟩ => ⟨he, h.mono hb⟩
  · exact (h21 W py p cy q h.ry h.ra).mono fun e w' ⟨he, hb⟩ => ⟨he, h.mono hb⟩
  · exact (h25 W px p cx q h.rx h.ra).mono fun e w' ⟨he, hb⟩ => ⟨he, h.mono hb⟩
  · exact (h26 W py p cy q h.ry h.ra).mono fun e w' ⟨he, hb⟩ => ⟨he, h.mono hb⟩

/-- A question's round: the ledger, the question, and both answers. -/
structure QN (W0 W : World) (A K X Y : Nat) (p : Option Addr) (q : Nat) (l : List Dec) (k0 k1 k2 : Int) (rd : Dec) : Prop where
  a : W.cell? ⟨A, 0, none⟩ = some (.slice p l.length q)
  k : W.cell? ⟨K, 0, none⟩ = some (.int .i64 k0) ∧ W.cell? ⟨K, 1, none⟩ = some (.int .i64 k1) ∧ W.cell? ⟨K, 2, none⟩ = some (.int .i64 k2)
  x : D5 W X rd
  y : D5 W Y rd
  ra : Reads W p l
  below : Below W0.heap.size W0 W

variable {K : Nat} {k0 k1 k2 : Int} {rd : Dec}

theorem D5.mono {b : Nat} {d : Dec} (h : D5 W b d) (hb : Below W.heap.size W W') : D5 W' b d :=
  ⟨cell_later hb h.1, cell_later hb h.2.1, cell_later hb h.2.2.1, cell_later hb h.2.2.2.1, cell_later hb h.2.2.2.2⟩

theorem QN.mono (h : QN W0 W A K X Y p q l k0 k1 k2 rd) (hb : Below W.heap.size W W') : QN W0 W' A K X Y p q l k0 k1 k2 rd :=
  ⟨cell_later hb h.a, ⟨cell_later hb h.k.1, cell_later hb h.k.2.1, cell_later hb h.k.2.2⟩, h.x.mono hb, h.y.mono hb, h.ra.mono hb, below_step h.below hb⟩

theorem QN.drew (h : QN W0 W A K X Y p q l k0 k1 k2 rd) : QN W0 W.drew A K X Y p q l k0 k1 k2 rd := ⟨h.a, h.k, h.x, h.y, h.ra, h.below.drew⟩

theorem qn_cells (h : QN W0 W A K X Y p q l k0 k1 k2 rd) :
    W.cell? ⟨A, 0, none⟩ = some (.slice p l.length q) ∧ (W.cell? ⟨K, 0, none⟩ = some (.int .i64 k0) ∧ W.cell? ⟨K, 1, none⟩ = some (.int .i64 k1) ∧ W.cell? ⟨K, 2, none⟩ = some (.int .i64 k2)) ∧
    (W.cell? ⟨X, 0, none⟩ = some (.int .i64 rd.day) ∧ W.cell? ⟨X, 1, none⟩ = some (.int .i64 rd.known) ∧ W.cell? ⟨X, 2, none⟩ = some (.int .i64 rd.kind) ∧ W.cell? ⟨X, 3, none⟩ = some (.int .i64 rd.subj) ∧ W.cell? ⟨X, 4, none⟩ = some (.int .i64 rd.value)) ∧
    (W.cell? ⟨Y, 0, none⟩ = some (.int .i64 rd.day) ∧ W.cell? ⟨Y, 1, none⟩ = some (.int .i64 rd.known) ∧ W.cell? ⟨Y, 2, none⟩ = some (.int .i64 rd.kind) ∧ W.cell? ⟨Y, 3, none⟩ = some (.int .i64 rd.subj) ∧ W.cell? ⟨Y, 4, none⟩ = some (.int .i64 rd.value)) := ⟨h.a, h.k, h.x, h.y⟩

theorem qn_known (hg : Good l) (hl : l.length ≤ 1000) (hq : l.length ≤ q) {N : Int} (hN : N = knownK l (cutN l k2)) (W : World) (h : QN W0 W A K X Y p q l k0 k1 k2 rd) :
    Calls Try.prog 30 #[.agg #[.slice p l.length q], .int .i64 k2] W fun e w' => e = .returned (.int .i64 N) ∧ QN W0 w' A K X Y p q l k0 k1 k2 rd := by
  subst hN
  exact (known_any W k2 l hg hl hq h.ra).mono fun e w' ⟨he, hb⟩ => ⟨he, h.mono hb⟩

theorem qn_refknown (hg : Good l) (hl : l.length ≤ 1000) {N : Int} (hN : N = knownK l (cutN l k2)) (W : World) (h : QN W0 W A K X Y p q l k0 k1 k2 rd) :
    Calls Try.prog 31 #[.agg #[.slice p l.length q], .int .i64 k2] W fun e w' => e = .returned (.int .i64 N) ∧ QN W0 w' A K X Y p q l k0 k1 k2 rd := by
  subst hN
  exact (refknown_any W k2 l hg hl h.ra).mono fun e w' ⟨he, hb⟩ => ⟨he, h.mono hb⟩

theorem qn_then (hg : Good l) (hl : l.length ≤ 1000) (hq : l.length ≤ q) {M : List Dec} (hM : M = l.take (cutN l k2)) (W : World) (h : QN W0 W A K X Y p q l k0 k1 k2 rd) :
    Calls Try.prog 32 #[.agg #[.slice p l.length q], .int .i64 k2] W fun e w' => ∃ p' c', e = .returned (.agg #[.slice p' M.length c']) ∧ Reads w' p' M ∧ QN W0 w' A K X Y p q l k0 k1 k2 rd := by
  subst hM
  refine (then_any W k2 l hg hl hq h.ra).mono ?_
  rintro e w' ⟨p', c', he, _, hr, hb⟩
  exact ⟨p', c', he, hr, h.mono hb⟩

theorem qn_refthen (hg : Good l) (hl : l.length ≤ 1000) {M : List Dec} (hM : M = l.take (cutN l k2)) (W : World) (h : QN W0 W A K X Y p q l k0 k1 k2 rd) (p1 : Option Addr) (h1 : Reads W p1 M) :
    Calls Try.prog 33 #[.agg #[.slice p l.length q], .int .i64 k2] W fun e w' => ∃ p' c', e = .returned (.agg #[.slice p' M.length c']) ∧ Reads w' p' M ∧ Reads w' p1 M ∧ QN W0 w' A K X Y p q l k0 k1 k2 rd := by
  subst hM
  refine (refthen_any W k2 l hg hl h.ra).mono ?_
  rintro e w' ⟨p', c', he, _, hr, hb⟩
  exact ⟨p', c', he, hr, h1.mono hb, h.mono hb⟩

theorem qn_same {M : List Dec} (hM : M.length ≤ 1000) (W : World) (h : QN W0 W A K X Y p q l k0 k1 k2 rd) (p1 p2 : Option Addr) (c1 c2 : Nat) (h1 : Reads W p1 M) (h2 : Reads W p2 M) :
    Calls Try.prog 21 #[.agg #[.slice p1 M.length c1], .agg #[.slice p2 M.length c2]] W fun e w' => e = .returned (.bool true) ∧ QN W0 w' A K X Y p q l k0 k1 k2 rd :=
  (refsame_same W p1 p2 c1 c2 M h1 h2 hM).mono fun e w' ⟨he, hb⟩ => ⟨he, h.mono hb⟩

theorem qn_changed (hl : l.length ≤ 1000) (hq : l.length ≤ q) {cs : List Nat} (hcs : cs = chg l k0 k1 l.length) (W : World) (h : QN W0 W A K X Y p q l k0 k1 k2 rd) :
    Calls Try.prog 35 #[.agg #[.slice p l.length q], .int .i64 k0, .int .i64 k1] W fun e w' => ∃ v, e = .returned v ∧ RdN w' v cs ∧ QN W0 w' A K X Y p q l k0 k1 k2 rd := by
  subst hcs
  refine (changed_any W k0 k1 l hl hq h.ra).mono ?_
  rintro e w' ⟨v, he, ho, hb⟩
  exact ⟨v, he, rdN_of_own ho, h.mono hb⟩

theorem qn_refchanged (hl : l.length ≤ 1000) {cs : List Nat} (hcs : cs = chg l k0 k1 l.length) (W : World) (h : QN W0 W A K X Y p q l k0 k1 k2 rd) (v1 : Value) (h1 : RdN W v1 cs) :
    Calls Try.prog 36 #[.agg #[.slice p l.length q], .int .i64 k0, .int .i64 k1] W fun e w' => ∃ v, e = .returned v ∧ RdN w' v cs ∧ RdN w' v1 cs ∧ QN W0 w' A K X Y p q l k0 k1 k2 rd := by
  subst hcs
  refine (refchanged_any W k0 k1 l hl h.ra).mono ?_
  rintro e w' ⟨v, he, ho, hb⟩
  exact ⟨v, he, rdN_of_own ho, h1.mono hb, h.mono hb⟩

theorem qn_sameints {cs : List Nat} (hcs : cs.length ≤ 1000) (W : World) (h : QN W0 W A K X Y p q l k0 k1 k2 rd) (v1 v2 : Value) (h1 : RdN W v1 cs) (h2 : RdN W v2 cs) :
    Calls Try.prog 34 #[v1, v2] W fun e w' => e = .returned (.bool true) ∧ QN W0 w' A K X Y p q l k0 k1 k2 rd :=
  (sameints_same W hcs h1 h2).mono fun e w' ⟨he, hb⟩ => ⟨he, h.mono hb⟩
end Go.Proofs.Ytogcpjkgliijmaa
