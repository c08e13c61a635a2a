/- strings.Cut, strconv.Atoi and catalog.Parse. -/
import Derived.Test.YtdhochjcigingaaDoorText
namespace Go.Proofs.YtdhochjcigingaaDoor
open Go.RowKit
set_option linter.all false

def atoiV (l : List UInt8) : Int := match Lib.atoiAll l with
  | .ok v => v
  | .range => Lib.atoiSat l
  | _ => 0

theorem below_bytes (w : World) (e : TypeId) (s : ByteArray) : Below w.heap.size w (Lib.bytesWorld w e s) :=
  ⟨rfl, rfl, rfl, by rw [Lib.bytesWorld_size]; omega, fun j hj => Lib.bytesWorld_at_old w e s j hj⟩

def AtoiP (n : Int) (w : World) (e : Ending) (w' : World) : Prop := ∃ ev, e = .returned (.tuple #[.int .i64 n, ev]) ∧ Below w.heap.size w w'
theorem atoi_any {m : Int} (s : List UInt8) (hs : s.length ≤ 1000) (w : World) (h : Tabs m w) : Calls Tryd.prog 54 #[.string ⟨s.toArray⟩] w (AtoiP (atoiV s) w) := by
  have hd : (⟨s.toArray⟩ : ByteArray).data.toList = s := rfl
  have hz : (⟨s.toArray⟩ : ByteArray).size = s.length := by simp [ByteArray.size]
  unfold atoiV
  cases hr : Lib.atoiAll s with
  | ok v =>
    refine (Any.strconv_Atoi_ok Tryd.laysC172 ⟨s.toArray⟩ (by omega) v (by rw [hd]; exact hr) w).mono ?_
    rintro e w' ⟨he, hw⟩
    refine ⟨_, he, ?_⟩
    rcases hw with rfl | ⟨t, rfl⟩
    · exact Below.refl _ _
    · exact below_bytes _ _ _
  | range =>
    obtain ⟨te, pe, hc⟩ := h.rng
    refine (Any.strconv_Atoi_range Tryd.laysC172 ⟨s.toArray⟩ (by omega) (by rw [hd]; exact hr) _ w hc (.inr ⟨te, pe, rfl⟩)).mono ?_
    rintro e w' ⟨N, he, _, _, hb⟩
    rw [hd] at he
    exact ⟨_, he, hb⟩
  | _ =>
    obtain ⟨te, pe, hc⟩ := h.syn
    refine (Any.strconv_Atoi_syntax Tryd.laysC172 ⟨s.toArray⟩ (by omega) (by rw [hd]; exact hr) _ w hc (.inr ⟨te, pe, rfl⟩)).mono ?_
    rintro e w' ⟨N, he, _, _, hb⟩
    exact ⟨_, he, hb⟩

def cutA (s : List UInt8) : List UInt8 := (Lib.cut s [45]).1
def cutB (s : List UInt8) : List UInt8 := (Lib.cut s [45]).2.1
def cutC (s : List UInt8) : Bool := (Lib.cut s [45]).2.2
theorem cut_any {m : Int} (s : List UInt8) (hs : s.length ≤ 1000) (w : World) (h : Tabs m w) : Calls Tryd.prog 53 #[.string ⟨s.toArray⟩, .string ⟨#[45]⟩] w fun e w' => e = .returned (.tuple #[.string ⟨(cutA s).toArray⟩, .string ⟨(cutB s).toArray⟩, .bool (cutC s)]) ∧ ∃ n, w' = w.drewN n :=
  Tryd.strings_Cut ⟨s.toArray⟩ ⟨#[45]⟩ m w (by rw [show (⟨s.toArray⟩ : ByteArray).size = s.length from by simp [ByteArray.size]]; omega) h.max
theorem cutB_len (s : List UInt8) : (cutB s).length ≤ s.length := by
  unfold cutB Lib.cut
  split
  · simp only [List.length_drop]; omega
  · simp

/-- Parse's walk: the result's box and the use's. -/
structure PW (m : Int) (w : World) (R : Nat) (W : World) : Prop where
  res : W.heap[R]? = some (.cells #[.int .i64 0, .int .i64 0] 23 (0, 0))
  tabs : Tabs m W
  below : Below w.heap.size w W
  lt : R < W.heap.size

theorem PW.step {m : Int} {w : World} {R : Nat} {W W' : World} (h : PW m w R W) (hb : Below W.heap.size W W') : PW m w R W' :=
  ⟨(hb.block R h.lt).trans h.res, h.tabs.step hb, h.below.trans (hb.mono h.below.size), by have := h.lt; have := hb.size; omega⟩

/-- The use's box B, a block of two numbers. -/
structure PU (m : Int) (w : World) (R B : Nat) (a b : Int) (W : World) : Prop where
  pw : PW m w R W
  box : W.heap[B]? = some (.cells #[.int .i64 a, .int .i64 b] 23 (0, 0))
  lt : B < W.heap.size
  ne : R ≠ B
  le : w.heap.size ≤ B

theorem PU.step {m : Int} {w : World} {R B : Nat} {a b : Int} {W W' : World} (h : PU m w R B a b W) (hb : Below W.heap.size W W') : PU m w R B a b W' :=
  ⟨h.pw.step hb, (hb.block B h.lt).trans h.box, by have := h.lt; have := hb.size; omega, h.ne, h.le⟩
theorem PU.cells {m : Int} {w : World} {R B : Nat} {a b : Int} {W : World} (h : PU m w R B a b W) : W.cell? ⟨B, 0, none⟩ = some (.int .i64 a) ∧ W.cell? ⟨B, 1, none⟩ = some (.int .i64 b) ∧ W.frozen? ⟨B, 1, none⟩ = false :=
  ⟨by rw [cell_of_row _ B 0 _ _ _ h.box]; rfl, by rw [cell_of_row _ B 1 _ _ _ h.box]; rfl, by simp [World.frozen?, h.box]⟩
theorem PU.set {m : Int} {w : World} {R B : Nat} {a b : Int} {W : World} (h : PU m w R B a b W) (hm : Tabs m w) (c : Int) : PU m w R B a c (W.setCell ⟨B, 1, none⟩ (.int .i64 c)) := by
  have hsz := hm.size
  have hle := h.le
  refine ⟨⟨(Below.heap_setCell _ _ _ _ h.ne).trans h.pw.res, h.pw.tabs.setCell (by simp only; omega) _, h.pw.below.setCell hle _, by simp [World.setCell]; exact h.pw.lt⟩, ?_, by simp [World.setCell]; exact h.lt, h.ne, h.le⟩
  rw [heap_setCell_same _ B 1 _ _ _ h.box]; rfl

def ParseP (a b n : Int) (w : World) (e : Ending) (w' : World) : Prop := e = .returned (.tuple #[.agg #[.int .i64 a, .int .i64 b], .int .i64 n]) ∧ Below w.heap.size w w'
/-- The result's box. -/
theorem PW.cells {m : Int} {w : World} {R : Nat} {W : World} (h : PW m w R W) : W.cell? ⟨R, 0, none⟩ = some (.int .i64 0) ∧ W.cell? ⟨R, 1, none⟩ = some (.int .i64 0) ∧ W.frozen? ⟨R, 0, none⟩ = false ∧ W.frozen? ⟨R, 1, none⟩ = false :=
  ⟨by rw [cell_of_row _ R 0 _ _ _ h.res]; rfl, by rw [cell_of_row _ R 1 _ _ _ h.res]; rfl, by simp [World.frozen?, h.res], by simp [World.frozen?, h.res]⟩
theorem PW.out {m : Int} {w : World} {R : Nat} {W : World} (h : PW m w R W) (hR : w.heap.size ≤ R) (a b n : Int) {x : Act} (ht : x.tmps.getD 2 undef = .pointer (some ⟨R, 0, none⟩)) (ht3 : x.tmps.getD 3 undef = .int .i64 n) (hd : x.defers = []) :
    bodyPost Tryd.prog Tryd.f12 (ParseP a b n w) .ret x ((W.setCell ⟨R, 0, none⟩ (.int .i64 a)).setCell ⟨R, 1, none⟩ (.int .i64 b)) := by
  have h1 := heap_setCell_same W R 0 _ _ (.int .i64 a) h.res
  have h2 := heap_setCell_same _ R 1 _ _ (.int .i64 b) h1
  have e0 := cell_of_row _ R 0 _ _ _ h2
  have e1 := cell_of_row _ R 1 _ _ _ h2
  simp at e0 e1 ht ht3
  refine bodyPost_ret (v := .tuple #[.agg #[.int .i64 a, .int .i64 b], .int .i64 n]) ?_ hd ⟨rfl, (h.below.setCell hR _).setCell hR _⟩
  simp [results, Tryd.results12, go_sem, ht, ht3, e0, e1]

def parseA (s : List UInt8) : Int := (findS (cutA s) : Nat)
def parseB (s : List UInt8) : Int := atoiV (cutB s)
def parseOk (s : List UInt8) : Bool := decide (s ≠ []) && (textS (parseA s) (parseB s) == s)

set_option maxRecDepth 100000 in
set_option maxHeartbeats 4000000 in
theorem parse_good {m : Int} (s : List UInt8) (hs : s.length ≤ 1000) (w : World) (h : Tabs m w) (h0 : s ≠ []) (hok : textS (parseA s) (parseB s) = s) : Calls Tryd.prog 12 #[.string ⟨s.toArray⟩] w (ParseP (parseA s) (parseB s) 0 w) := by
  have hP0 : PW m w w.heap.size (w.alloc (.cells #[.int .i64 0, .int .i64 0] 23)) := ⟨heap_alloc_new _ _, h.alloc _, (Below.refl _ _).alloc (Nat.le_refl _) _, by simp⟩
  have cC := cut_any s hs _ hP0.tabs
  have hlB := cutB_len s
  have he : s.isEmpty = false := by simpa using h0
  unfold parseA parseB at *
  generalize cutA s = x at *
  generalize cutB s = y at *
  generalize cutC s = z at *
  have CC := Lib.hid cC; clear cC
  have HOK := Lib.hid hok
  go_enter Tryd.func12, Tryd.ntmps12
  go_wp2_with fail
  refine (CC.out).mono ?_
  rintro e w1 ⟨rfl, n, rfl⟩
  have hP1 := hP0.step (below_drewN (Below.refl _ _) n)
  generalize (w.alloc (.cells #[.int .i64 0, .int .i64 0] 23)).drewN n = W1 at *
  generalize hR : w.heap.size = R at *
  clear CC hP0 hok
  go_wp2_with fail
  refine (find_any x _ hP1.tabs).mono ?_
  rintro e w2 ⟨rfl, hb2⟩
  have hP2 := hP1.step hb2
  clear hb2 hP1
  go_wp2_with fail
  have hU3 : PU m w R w2.heap.size (findS x : Nat) 0 (w2.alloc (.cells #[.int .i64 (findS x : Nat), .int .i64 0] 23)) := by
    have hp := hP2.step ((Below.refl _ _).alloc (Nat.le_refl _) (.cells #[.int .i64 (findS x : Nat), .int .i64 0] 23))
    exact ⟨hp, heap_alloc_new _ _, by simp, by have := hP2.lt; omega, hP2.below.size⟩
  clear hP2
  generalize (w2.alloc (.cells #[.int .i64 (findS x : Nat), .int .i64 0] 23)) = W3 at *
  generalize w2.heap.size = B at *
  refine (atoi_any y (by omega) _ hU3.pw.tabs).mono ?_
  rintro e w3 ⟨ev, rfl, hb3⟩
  have hU4 := hU3.step hb3
  have hU5 := hU4.set h (atoiV y)
  obtain ⟨c0, c1, c2⟩ := hU4.cells
  obtain ⟨d0, d1, d2⟩ := hU5.cells
  clear hb3 hU3
  have cT := text_any (findS x : Nat) (atoiV y) _ hU5.pw.tabs
  rw [HOK.out] at cT
  have CT := Lib.hid cT; clear cT
  go_wp2_with fail
  refine (CT.out).mono ?_
  rintro e w4 ⟨rfl, hb4⟩
  have hU6 := hU5.step hb4
  obtain ⟨g0, g1, g2⟩ := hU6.cells
  obtain ⟨r0, r1, f0, f1⟩ := hU6.pw.cells
  clear hb4 c0 c1 c2 d0 d1 d2
  have hle : w.heap.size ≤ R := by omega
  go_wp2_with fail
  exact hU6.pw.out hle _ _ _ rfl rfl rfl
end Go.Proofs.YtdhochjcigingaaDoor
