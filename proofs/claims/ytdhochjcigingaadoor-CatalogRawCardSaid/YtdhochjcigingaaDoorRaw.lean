/- CatalogRaw: the walk. -/
import Derived.Test.YtdhochjcigingaaDoorRawN
import Derived.Test.YtdhochjcigingaaDoorRefCode
import Derived.Test.YtdhochjcigingaaDoorRefText
import Derived.Deep.RegionHeld3
import Derived.Deep.CutRange
namespace Go.Proofs.YtdhochjcigingaaDoor
open Go.RowKit
set_option linter.all false

/-- The use's box R on the law's way: it holds a and b. -/
structure LW (m : Int) (w : World) (R : Nat) (a b : Int) (W : World) : Prop where
  box : W.heap[R]? = some (.cells #[.int .i64 a, .int .i64 b] 23 (0, 0))
  tabs : Tabs m W
  below : Below w.heap.size w W
  lt : R < W.heap.size
  le : w.heap.size ≤ R

theorem LW.step {m : Int} {w : World} {R : Nat} {a b : Int} {W W' : World} (h : LW m w R a b W) (hb : Below W.heap.size W W') : LW m w R a b W' :=
  ⟨(hb.block R h.lt).trans h.box, h.tabs.step hb, h.below.trans (hb.mono h.below.size), by have := h.lt; have := hb.size; omega, h.le⟩
theorem LW.cells {m : Int} {w : World} {R : Nat} {a b : Int} {W : World} (h : LW m w R a b W) : W.cell? ⟨R, 0, none⟩ = some (.int .i64 a) ∧ W.cell? ⟨R, 1, none⟩ = some (.int .i64 b) ∧ W.frozen? ⟨R, 0, none⟩ = false ∧ W.frozen? ⟨R, 1, none⟩ = false :=
  ⟨by rw [cell_of_row _ R 0 _ _ _ h.box]; rfl, by rw [cell_of_row _ R 1 _ _ _ h.box]; rfl, by simp [World.frozen?, h.box], by simp [World.frozen?, h.box]⟩
theorem LW.set0 {m : Int} {w : World} {R : Nat} {a b : Int} {W : World} (h : LW m w R a b W) (hm : Tabs m w) (c : Int) : LW m w R c b (W.setCell ⟨R, 0, none⟩ (.int .i64 c)) := by
  have hsz := hm.size
  have hle := h.le
  refine ⟨?_, h.tabs.setCell (by simp only; omega) _, h.below.setCell hle _, by simp [World.setCell]; exact h.lt, h.le⟩
  rw [heap_setCell_same _ R 0 _ _ _ h.box]; rfl
theorem LW.set1 {m : Int} {w : World} {R : Nat} {a b : Int} {W : World} (h : LW m w R a b W) (hm : Tabs m w) (c : Int) : LW m w R a c (W.setCell ⟨R, 1, none⟩ (.int .i64 c)) := by
  have hsz := hm.size
  have hle := h.le
  refine ⟨?_, h.tabs.setCell (by simp only; omega) _, h.below.setCell hle _, by simp [World.setCell]; exact h.lt, h.le⟩
  rw [heap_setCell_same _ R 1 _ _ _ h.box]; rfl

/-- The four boxes of the results, and the use's box. -/
structure CW (m : Int) (w : World) (R : Nat) (a b : Int) (X Y Z V : Nat) (p q : Int) (z : Int) (str : ByteArray) (x1 x2 x3 x4 x5 x6 x7 x8 x9 x10 : Int) (W : World) : Prop where
  lw : LW m w R a b W
  hX : W.heap[X]? = some (.cells #[.int .i64 p, .int .i64 q] 23 (0, 0))
  hY : W.heap[Y]? = some (.cells #[.int .i64 p, .int .i64 q] 23 (0, 0))
  hZ : W.heap[Z]? = some (.cells #[.int .i64 z, .string str, .int .i64 x1, .int .i64 x2, .int .i64 x3, .int .i64 x4, .int .i64 x5, .int .i64 x6, .int .i64 x7, .int .i64 x8, .int .i64 x9, .int .i64 x10] 29 (0, 0))
  hV : W.heap[V]? = some (.cells #[.int .i64 z, .string str, .int .i64 x1, .int .i64 x2, .int .i64 x3, .int .i64 x4, .int .i64 x5, .int .i64 x6, .int .i64 x7, .int .i64 x8, .int .i64 x9, .int .i64 x10] 29 (0, 0))

theorem heap_lt {W : World} {b : Nat} {o : Obj} (h : W.heap[b]? = some o) : b < W.heap.size := by
  rcases Nat.lt_or_ge b W.heap.size with k | k
  · exact k
  · rw [Array.getElem?_eq_none k] at h; cases h
section
variable {m : Int} {w : World} {R : Nat} {a b : Int} {X Y Z V : Nat} {p q z : Int} {str : ByteArray} {x1 x2 x3 x4 x5 x6 x7 x8 x9 x10 : Int} {W W' : World}
theorem CW.step (h : CW m w R a b X Y Z V p q z str x1 x2 x3 x4 x5 x6 x7 x8 x9 x10 W) (hb : Below W.heap.size W W') : CW m w R a b X Y Z V p q z str x1 x2 x3 x4 x5 x6 x7 x8 x9 x10 W' :=
  ⟨h.lw.step hb, (hb.block _ (heap_lt h.hX)).trans h.hX, (hb.block _ (heap_lt h.hY)).trans h.hY, (hb.block _ (heap_lt h.hZ)).trans h.hZ, (hb.block _ (heap_lt h.hV)).trans h.hV⟩
theorem cells12 {B : Nat} (h : W.heap[B]? = some (.cells #[.int .i64 z, .string str, .int .i64 x1, .int .i64 x2, .int .i64 x3, .int .i64 x4, .int .i64 x5, .int .i64 x6, .int .i64 x7, .int .i64 x8, .int .i64 x9, .int .i64 x10] 29 (0, 0))) :
    W.cell? ⟨B, 0, none⟩ = some (.int .i64 z) ∧ W.cell? ⟨B, 1, none⟩ = some (.string str) ∧ W.cell? ⟨B, 2, none⟩ = some (.int .i64 x1) ∧ W.cell? ⟨B, 3, none⟩ = some (.int .i64 x2) ∧ W.cell? ⟨B, 4, none⟩ = some (.int .i64 x3) ∧ W.cell? ⟨B, 5, none⟩ = some (.int .i64 x4) ∧
    W.cell? ⟨B, 6, none⟩ = some (.int .i64 x5) ∧ W.cell? ⟨B, 7, none⟩ = some (.int .i64 x6) ∧ W.cell? ⟨B, 8, none⟩ = some (.int .i64 x7) ∧ W.cell? ⟨B, 9, none⟩ = some (.int .i64 x8) ∧ W.cell? ⟨B, 10, none⟩ = some (.int .i64 x9) ∧ W.cell? ⟨B, 11, none⟩ = some (.int .i64 x10) :=
  ⟨cell_of_row _ B 0 _ _ _ h, cell_of_row _ B 1 _ _ _ h, cell_of_row _ B 2 _ _ _ h, cell_of_row _ B 3 _ _ _ h, cell_of_row _ B 4 _ _ _ h, cell_of_row _ B 5 _ _ _ h, cell_of_row _ B 6 _ _ _ h, cell_of_row _ B 7 _ _ _ h, cell_of_row _ B 8 _ _ _ h, cell_of_row _ B 9 _ _ _ h, cell_of_row _ B 10 _ _ _ h, cell_of_row _ B 11 _ _ _ h⟩
theorem CW.all (h : CW m w R a b X Y Z V p q z str x1 x2 x3 x4 x5 x6 x7 x8 x9 x10 W) : (W.cell? ⟨R, 0, none⟩ = some (.int .i64 a) ∧ W.cell? ⟨R, 1, none⟩ = some (.int .i64 b)) ∧ (W.cell? ⟨X, 0, none⟩ = some (.int .i64 p) ∧ W.cell? ⟨X, 1, none⟩ = some (.int .i64 q)) ∧ (W.cell? ⟨Y, 0, none⟩ = some (.int .i64 p) ∧ W.cell? ⟨Y, 1, none⟩ = some (.int .i64 q)) ∧
    (W.cell? ⟨Z, 0, none⟩ = some (.int .i64 z) ∧ W.cell? ⟨Z, 1, none⟩ = some (.string str) ∧ W.cell? ⟨Z, 2, none⟩ = some (.int .i64 x1) ∧ W.cell? ⟨Z, 3, none⟩ = some (.int .i64 x2) ∧ W.cell? ⟨Z, 4, none⟩ = some (.int .i64 x3) ∧ W.cell? ⟨Z, 5, none⟩ = some (.int .i64 x4) ∧
    W.cell? ⟨Z, 6, none⟩ = some (.int .i64 x5) ∧ W.cell? ⟨Z, 7, none⟩ = some (.int .i64 x6) ∧ W.cell? ⟨Z, 8, none⟩ = some (.int .i64 x7) ∧ W.cell? ⟨Z, 9, none⟩ = some (.int .i64 x8) ∧ W.cell? ⟨Z, 10, none⟩ = some (.int .i64 x9) ∧ W.cell? ⟨Z, 11, none⟩ = some (.int .i64 x10)) ∧
    (W.cell? ⟨V, 0, none⟩ = some (.int .i64 z) ∧ W.cell? ⟨V, 1, none⟩ = some (.string str) ∧ W.cell? ⟨V, 2, none⟩ = some (.int .i64 x1) ∧ W.cell? ⟨V, 3, none⟩ = some (.int .i64 x2) ∧ W.cell? ⟨V, 4, none⟩ = some (.int .i64 x3) ∧ W.cell? ⟨V, 5, none⟩ = some (.int .i64 x4) ∧
    W.cell? ⟨V, 6, none⟩ = some (.int .i64 x5) ∧ W.cell? ⟨V, 7, none⟩ = some (.int .i64 x6) ∧ W.cell? ⟨V, 8, none⟩ = some (.int .i64 x7) ∧ W.cell? ⟨V, 9, none⟩ = some (.int .i64 x8) ∧ W.cell? ⟨V, 10, none⟩ = some (.int .i64 x9) ∧ W.cell? ⟨V, 11, none⟩ = some (.int .i64 x10)) :=
  ⟨⟨h.lw.cells.1, h.lw.cells.2.1⟩, ⟨cell_of_row _ X 0 _ _ _ h.hX, cell_of_row _ X 1 _ _ _ h.hX⟩, ⟨cell_of_row _ Y 0 _ _ _ h.hY, cell_of_row _ Y 1 _ _ _ h.hY⟩, cells12 h.hZ, cells12 h.hV⟩
end
/-- A call that gives v and keeps S. -/
def CP (S : World → Prop) (v : Value) (e : Ending) (w' : World) : Prop := e = .returned v ∧ S w'

def LRel (m : Int) (w : World) (R : Nat) (cv iv : Value) (wr : World) : Prop := ∃ (k : Nat) (a b c : Int), k ≤ 2 ∧ iv = .int .i64 (k : Int) ∧ cv = .int .i64 c ∧ (-9223372036854775808 ≤ a ∧ a ≤ 9223372036854775807) ∧ (-9223372036854775808 ≤ b ∧ b ≤ 9223372036854775807) ∧ (-9223372036854775808 ≤ c ∧ c ≤ 9223372036854775807) ∧ LW m w R a b wr

theorem raw_long {m : Int} (a b c : Int) (s : List UInt8) (hs : 200 < s.length) (hs2 : s.length ≤ 9223372036854775807) (w : World) (h : Tabs m w) :
    Calls Tryd.prog 3 #[.agg #[.int .i64 a, .int .i64 b], .string ⟨s.toArray⟩, .int .i64 c] w (BoolP true w) := by
  have hA := h.alloc (.cells #[.int .i64 a, .int .i64 b] 23)
  go_enter Tryd.func3, Tryd.ntmps3
  go_wp2_with fail
  refine (awake_any _ hA).mono ?_
  rintro e W ⟨rfl, hb⟩
  go_wp2_with fail
  go_ret
  exact ⟨rfl, below_of_alloc hb⟩

set_option maxRecDepth 100000 in
set_option maxHeartbeats 8000000 in
theorem raw_short {m : Int} (a b c : Int) (s : List UInt8) (hs : s.length ≤ 200) (ha : -9223372036854775808 ≤ a ∧ a ≤ 9223372036854775807) (hb : -9223372036854775808 ≤ b ∧ b ≤ 9223372036854775807) (hc : -9223372036854775808 ≤ c ∧ c ≤ 9223372036854775807) (w : World) (h : Tabs m w) :
    Calls Tryd.prog 3 #[.agg #[.int .i64 a, .int .i64 b], .string ⟨s.toArray⟩, .int .i64 c] w (BoolP true w) := by
  have hL : LW m w w.heap.size a b (w.alloc (.cells #[.int .i64 a, .int .i64 b] 23)) := ⟨heap_alloc_new _ _, h.alloc _, (Below.refl _ _).alloc (Nat.le_refl _) _, by simp, Nat.le_refl _⟩
  have c12 := fun W (h : Tabs m W) => parse_any s (by omega) W h
  have c13 := fun W => refparse_any digsOk s (by omega) W
  have c26 := fun W (h : Tabs m W) => find_any s W h
  have c27 := fun W => reffind_any s W
  have c28 := fun W (h : Tabs m W) => code_any s W h
  have c29 := fun W => refcode_any s W
  generalize pA s = p at *
  generalize pB s = q at *
  generalize pE s = r at *
  generalize codeS s = cs at *
  generalize findS s = fs at *
  have C12 := Lib.hid c12; have C13 := Lib.hid c13; have C26 := Lib.hid c26; have C27 := Lib.hid c27; have C28 := Lib.hid c28; have C29 := Lib.hid c29
  clear c12 c13 c26 c27 c28 c29
  have HT := Lib.hid h; clear h
  go_enter Tryd.func3, Tryd.ntmps3
  go_wp2_with fail
  generalize (w.alloc (.cells #[.int .i64 a, .int .i64 b] 23)) = W0 at *
  generalize hR : w.heap.size = R at *
  have HR := Lib.hid hR; clear hR
  go_loopw [2, 7] (fun cv iv wr => LRel m w R cv iv wr) (fun _ iv _ => 2 - (intOf iv).toNat)
  case atStart => exact ⟨0, a, b, c, by omega, rfl, rfl, ha, hb, hc, hL⟩
  case round =>
    clear hL ha hb hc

    obtain ⟨k, a, b, c, hk, rfl, rfl, ha, hb, hc, hW⟩ := hrel
    by_cases hlt : k < 2
    · obtain ⟨z, n, str, x1, x2, x3, x4, x5, x6, x7, x8, x9, x10, c14, c15⟩ := both_suite (m := m) c
      have C14 := Lib.hid c14; have C15 := Lib.hid c15
      clear c14 c15
      go_wp2_with fail
      refine (C12.out _ hW.tabs).mono ?_
      rintro e W1 ⟨rfl, hb1⟩
      have hW1 := hW.step hb1
      clear hb1 hW
      have hX := heap_alloc_new W1 (.cells #[.int .i64 p, .int .i64 q] 23)
      have lX : W1.heap.size < (W1.alloc (.cells #[.int .i64 p, .int .i64 q] 23)).heap.size := by simp
      have hW1a := hW1.step ((Below.refl _ _).alloc (Nat.le_refl _) (.cells #[.int .i64 p, .int .i64 q] 23))
      have HX := Lib.hid hX; have LX := Lib.hid lX; have HW := Lib.hid hW1a
      clear hX lX hW1 hW1a
      go_wp2_with fail
      refine (C13.out _).mono ?_
      rintro e W2 ⟨rfl, hb2⟩
      have hW2 := HW.out.step hb2
      have hX := (hb2.block _ LX.out).trans HX.out
      have lX := Nat.lt_of_lt_of_le LX.out hb2.size
      clear HX LX HW hb2
      generalize W1.heap.size = X at *
      generalize (W1.alloc (.cells #[.int .i64 p, .int .i64 q] 23)) = W1a at *
      have hb := (Below.refl W2.heap.size W2).alloc (Nat.le_refl _) (.cells #[.int .i64 p, .int .i64 q] 23)
      have hX2 := (hb.block _ lX).trans hX
      have lX2 := Nat.lt_of_lt_of_le lX hb.size
      have hY := heap_alloc_new W2 (.cells #[.int .i64 p, .int .i64 q] 23)
      have lY : W2.heap.size < (W2.alloc (.cells #[.int .i64 p, .int .i64 q] 23)).heap.size := by simp
      have hW2a := hW2.step hb
      have HX := Lib.hid hX2; have LX := Lib.hid lX2; have HY := Lib.hid hY; have LY := Lib.hid lY; have HW := Lib.hid hW2a
      clear hb hX lX hX2 lX2 hY lY hW2 hW2a
      go_wp2_with fail
      refine (C14.out _ HW.out.tabs).mono ?_
      rintro e W3 ⟨rfl, hb3⟩
      have hW3 := HW.out.step hb3
      have hX := (hb3.block _ LX.out).trans HX.out
      have lX := Nat.lt_of_lt_of_le LX.out hb3.size
      have hY := (hb3.block _ LY.out).trans HY.out
      have lY := Nat.lt_of_lt_of_le LY.out hb3.size
      clear HX LX HY LY HW hb3
      generalize W2.heap.size = Y at *
      generalize (W2.alloc (.cells #[.int .i64 p, .int .i64 q] 23)) = W2a at *
      have hb := (Below.refl W3.heap.size W3).alloc (Nat.le_refl _) (.cells #[.int .i64 z, .string str, .int .i64 x1, .int .i64 x2, .int .i64 x3, .int .i64 x4, .int .i64 x5, .int .i64 x6, .int .i64 x7, .int .i64 x8, .int .i64 x9, .int .i64 x10] 29)
      have hX2 := (hb.block _ lX).trans hX
      have lX2 := Nat.lt_of_lt_of_le lX hb.size
      have hY2 := (hb.block _ lY).trans hY
      have lY2 := Nat.lt_of_lt_of_le lY hb.size
      have hZ := heap_alloc_new W3 (.cells #[.int .i64 z, .string str, .int .i64 x1, .int .i64 x2, .int .i64 x3, .int .i64 x4, .int .i64 x5, .int .i64 x6, .int .i64 x7, .int .i64 x8, .int .i64 x9, .int .i64 x10] 29)
      have lZ : W3.heap.size < (W3.alloc (.cells #[.int .i64 z, .string str, .int .i64 x1, .int .i64 x2, .int .i64 x3, .int .i64 x4, .int .i64 x5, .int .i64 x6, .int .i64 x7, .int .i64 x8, .int .i64 x9, .int .i64 x10] 29)).heap.size := by simp
      have hW3a := hW3.step hb
      have HX := Lib.hid hX2; have LX := Lib.hid lX2; have HY := Lib.hid hY2; have LY := Lib.hid lY2; have HZ := Lib.hid hZ; have LZ := Lib.hid lZ; have HW := Lib.hid hW3a
      clear hb hX lX hX2 lX2 hY lY hY2 lY2 hZ lZ hW3 hW3a
      go_wp2_with fail
      refine (C15.out _).mono ?_
      rintro e W4 ⟨rfl, hb4⟩
      have hW4 := HW.out.step hb4
      have hX := (hb4.block _ LX.out).trans HX.out
      have lX := Nat.lt_of_lt_of_le LX.out hb4.size
      have hY := (hb4.block _ LY.out).trans HY.out
      have lY := Nat.lt_of_lt_of_le LY.out hb4.size
      have hZ := (hb4.block _ LZ.out).trans HZ.out
      have lZ := Nat.lt_of_lt_of_le LZ.out hb4.size
      clear HX LX HY LY HZ LZ HW hb4
      generalize W3.heap.size = Z at *
      generalize (W3.alloc (.cells #[.int .i64 z, .string str, .int .i64 x1, .int .i64 x2, .int .i64 x3, .int .i64 x4, .int .i64 x5, .int .i64 x6, .int .i64 x7, .int .i64 x8, .int .i64 x9, .int .i64 x10] 29)) = W3a at *
      have hb := (Below.refl W4.heap.size W4).alloc (Nat.le_refl _) (.cells #[.int .i64 z, .string str, .int .i64 x1, .int .i64 x2, .int .i64 x3, .int .i64 x4, .int .i64 x5, .int .i64 x6, .int .i64 x7, .int .i64 x8, .int .i64 x9, .int .i64 x10] 29)
      have hV := heap_alloc_new W4 (.cells #[.int .i64 z, .string str, .int .i64 x1, .int .i64 x2, .int .i64 x3, .int .i64 x4, .int .i64 x5, .int .i64 x6, .int .i64 x7, .int .i64 x8, .int .i64 x9, .int .i64 x10] 29)
      have hX2 := (hb.block _ lX).trans hX
      have hY2 := (hb.block _ lY).trans hY
      have hZ2 := (hb.block _ lZ).trans hZ
      have hW5 := hW4.step hb
      clear hb hX hY hZ lX lY lZ hW4
      have hC : CW m w R a b X Y Z W4.heap.size p q z str x1 x2 x3 x4 x5 x6 x7 x8 x9 x10 (W4.alloc (.cells #[.int .i64 z, .string str, .int .i64 x1, .int .i64 x2, .int .i64 x3, .int .i64 x4, .int .i64 x5, .int .i64 x6, .int .i64 x7, .int .i64 x8, .int .i64 x9, .int .i64 x10] 29)) := ⟨hW5, hX2, hY2, hZ2, hV⟩
      clear hX2 hY2 hZ2 hV hW5
      have HC := Lib.hid hC; clear hC
      go_upto_region 10 with (fail)
      replace hC := HC.out
      clear HC
      generalize (W4.alloc (.cells #[.int .i64 z, .string str, .int .i64 x1, .int .i64 x2, .int .i64 x3, .int .i64 x4, .int .i64 x5, .int .i64 x6, .int .i64 x7, .int .i64 x8, .int .i64 x9, .int .i64 x10] 29)) = W5 at *
      generalize W4.heap.size = V at *
      have d16 : ∀ W, CW m w R a b X Y Z V p q z str x1 x2 x3 x4 x5 x6 x7 x8 x9 x10 W → Calls Tryd.prog 16 #[.int .i64 a] W (CP (CW m w R a b X Y Z V p q z str x1 x2 x3 x4 x5 x6 x7 x8 x9 x10) (.string ⟨(anI a).toArray⟩)) := fun W h => (name_any a W h.lw.tabs).mono fun _ _ ⟨he, hb⟩ => ⟨he, h.step hb⟩
      have d17 : ∀ W, CW m w R a b X Y Z V p q z str x1 x2 x3 x4 x5 x6 x7 x8 x9 x10 W → Calls Tryd.prog 17 #[.int .i64 a] W (CP (CW m w R a b X Y Z V p q z str x1 x2 x3 x4 x5 x6 x7 x8 x9 x10) (.string ⟨(anI a).toArray⟩)) := fun W h => (refname_any a W).mono fun _ _ ⟨he, hb⟩ => ⟨he, h.step hb⟩
      have d18 : ∀ W, CW m w R a b X Y Z V p q z str x1 x2 x3 x4 x5 x6 x7 x8 x9 x10 W → Calls Tryd.prog 18 #[.int .i64 a] W (CP (CW m w R a b X Y Z V p q z str x1 x2 x3 x4 x5 x6 x7 x8 x9 x10) (.int .i64 (akI a))) := fun W h => (kind_any a W h.lw.tabs).mono fun _ _ ⟨he, hb⟩ => ⟨he, h.step hb⟩
      have d19 : ∀ W, CW m w R a b X Y Z V p q z str x1 x2 x3 x4 x5 x6 x7 x8 x9 x10 W → Calls Tryd.prog 19 #[.int .i64 a] W (CP (CW m w R a b X Y Z V p q z str x1 x2 x3 x4 x5 x6 x7 x8 x9 x10) (.int .i64 (akI a))) := fun W h => (refkind_any a W).mono fun _ _ ⟨he, hb⟩ => ⟨he, h.step hb⟩
      have d20 : ∀ W, CW m w R a b X Y Z V p q z str x1 x2 x3 x4 x5 x6 x7 x8 x9 x10 W → Calls Tryd.prog 20 #[.agg #[.int .i64 a, .int .i64 b]] W (CP (CW m w R a b X Y Z V p q z str x1 x2 x3 x4 x5 x6 x7 x8 x9 x10) (.bool (validB a b))) := fun W h => (valid_any a b W h.lw.tabs).mono fun _ _ ⟨he, hb⟩ => ⟨he, h.step hb⟩
      have d21 : ∀ W, CW m w R a b X Y Z V p q z str x1 x2 x3 x4 x5 x6 x7 x8 x9 x10 W → Calls Tryd.prog 21 #[.agg #[.int .i64 a, .int .i64 b]] W (CP (CW m w R a b X Y Z V p q z str x1 x2 x3 x4 x5 x6 x7 x8 x9 x10) (.bool (validB a b))) := fun W h => (refvalid_any a b W).mono fun _ _ ⟨he, hb⟩ => ⟨he, h.step hb⟩
      have d22 : ∀ W, CW m w R a b X Y Z V p q z str x1 x2 x3 x4 x5 x6 x7 x8 x9 x10 W → Calls Tryd.prog 22 #[.agg #[.int .i64 a, .int .i64 b]] W (CP (CW m w R a b X Y Z V p q z str x1 x2 x3 x4 x5 x6 x7 x8 x9 x10) (.int .i64 (strS a b))) := fun W h => (strength_any a b W h.lw.tabs).mono fun _ _ ⟨he, hb⟩ => ⟨he, h.step hb⟩
      have d23 : ∀ W, CW m w R a b X Y Z V p q z str x1 x2 x3 x4 x5 x6 x7 x8 x9 x10 W → Calls Tryd.prog 23 #[.agg #[.int .i64 a, .int .i64 b]] W (CP (CW m w R a b X Y Z V p q z str x1 x2 x3 x4 x5 x6 x7 x8 x9 x10) (.int .i64 (strS a b))) := fun W h => (refstren_any a b W).mono fun _ _ ⟨he, hb⟩ => ⟨he, h.step hb⟩
      have d24 : ∀ W, CW m w R a b X Y Z V p q z str x1 x2 x3 x4 x5 x6 x7 x8 x9 x10 W → Calls Tryd.prog 24 #[.agg #[.int .i64 a, .int .i64 b]] W (CP (CW m w R a b X Y Z V p q z str x1 x2 x3 x4 x5 x6 x7 x8 x9 x10) (.string ⟨(textS a b).toArray⟩)) := fun W h => (text_any a b W h.lw.tabs).mono fun _ _ ⟨he, hb⟩ => ⟨he, h.step hb⟩
      have d25 : ∀ W, CW m w R a b X Y Z V p q z str x1 x2 x3 x4 x5 x6 x7 x8 x9 x10 W → Calls Tryd.prog 25 #[.agg #[.int .i64 a, .int .i64 b]] W (CP (CW m w R a b X Y Z V p q z str x1 x2 x3 x4 x5 x6 x7 x8 x9 x10) (.string ⟨(textS a b).toArray⟩)) := fun W h => (reftext_any a b W).mono fun _ _ ⟨he, hb⟩ => ⟨he, h.step hb⟩
      have d26 : ∀ W, CW m w R a b X Y Z V p q z str x1 x2 x3 x4 x5 x6 x7 x8 x9 x10 W → Calls Tryd.prog 26 #[.string ⟨s.toArray⟩] W (CP (CW m w R a b X Y Z V p q z str x1 x2 x3 x4 x5 x6 x7 x8 x9 x10) (.int .i64 (fs : Nat))) := fun W h => (C26.out W h.lw.tabs).mono fun _ _ ⟨he, hb⟩ => ⟨he, h.step hb⟩
      have d27 : ∀ W, CW m w R a b X Y Z V p q z str x1 x2 x3 x4 x5 x6 x7 x8 x9 x10 W → Calls Tryd.prog 27 #[.string ⟨s.toArray⟩] W (CP (CW m w R a b X Y Z V p q z str x1 x2 x3 x4 x5 x6 x7 x8 x9 x10) (.int .i64 (fs : Nat))) := fun W h => (C27.out W).mono fun _ _ ⟨he, hb⟩ => ⟨he, h.step hb⟩
      have d28 : ∀ W, CW m w R a b X Y Z V p q z str x1 x2 x3 x4 x5 x6 x7 x8 x9 x10 W → Calls Tryd.prog 28 #[.string ⟨s.toArray⟩] W (CP (CW m w R a b X Y Z V p q z str x1 x2 x3 x4 x5 x6 x7 x8 x9 x10) (.int .i64 (cs : Nat))) := fun W h => (C28.out W h.lw.tabs).mono fun _ _ ⟨he, hb⟩ => ⟨he, h.step hb⟩
      have d29 : ∀ W, CW m w R a b X Y Z V p q z str x1 x2 x3 x4 x5 x6 x7 x8 x9 x10 W → Calls Tryd.prog 29 #[.string ⟨s.toArray⟩] W (CP (CW m w R a b X Y Z V p q z str x1 x2 x3 x4 x5 x6 x7 x8 x9 x10) (.int .i64 (cs : Nat))) := fun W h => (C29.out W).mono fun _ _ ⟨he, hb⟩ => ⟨he, h.step hb⟩
      clear C12 C13 C14 C15 C26 C27 C28 C29
      generalize anI a = na at *
      generalize akI a = ka at *
      generalize validB a b = vb at *
      generalize strS a b = sb at *
      generalize textS a b = tb at *
      have D16 := Lib.hid d16; have D17 := Lib.hid d17; have D18 := Lib.hid d18; have D19 := Lib.hid d19; have D20 := Lib.hid d20; have D21 := Lib.hid d21; have D22 := Lib.hid d22; have D23 := Lib.hid d23; have D24 := Lib.hid d24; have D25 := Lib.hid d25; have D26 := Lib.hid d26; have D27 := Lib.hid d27; have D28 := Lib.hid d28; have D29 := Lib.hid d29
      clear d16 d17 d18 d19 d20 d21 d22 d23 d24 d25 d26 d27 d28 d29
      go_cut [114] from 20 to 127 (fun s114 wx => s114 = .bool false ∧ CW m w R a b X Y Z V p q z str x1 x2 x3 x4 x5 x6 x7 x8 x9 x10 wx)
      case first =>
        simp only [List.append_eq, List.cons_append, List.nil_append]
        have hCd := hC.step (Below.refl _ _).drew
        clear hC
        go_region_held3 (fun W => (W.cell? ⟨R, 0, none⟩ = some (.int .i64 a) ∧ W.cell? ⟨R, 1, none⟩ = some (.int .i64 b)) ∧ (W.cell? ⟨X, 0, none⟩ = some (.int .i64 p) ∧ W.cell? ⟨X, 1, none⟩ = some (.int .i64 q)) ∧ (W.cell? ⟨Y, 0, none⟩ = some (.int .i64 p) ∧ W.cell? ⟨Y, 1, none⟩ = some (.int .i64 q)) ∧ (W.cell? ⟨Z, 0, none⟩ = some (.int .i64 z) ∧ W.cell? ⟨Z, 1, none⟩ = some (.string str) ∧ W.cell? ⟨Z, 2, none⟩ = some (.int .i64 x1) ∧ W.cell? ⟨Z, 3, none⟩ = some (.int .i64 x2) ∧ W.cell? ⟨Z, 4, none⟩ = some (.int .i64 x3) ∧ W.cell? ⟨Z, 5, none⟩ = some (.int .i64 x4) ∧ W.cell? ⟨Z, 6, none⟩ = some (.int .i64 x5) ∧ W.cell? ⟨Z, 7, none⟩ = some (.int .i64 x6) ∧ W.cell? ⟨Z, 8, none⟩ = some (.int .i64 x7) ∧ W.cell? ⟨Z, 9, none⟩ = some (.int .i64 x8) ∧ W.cell? ⟨Z, 10, none⟩ = some (.int .i64 x9) ∧ W.cell? ⟨Z, 11, none⟩ = some (.int .i64 x10)) ∧ (W.cell? ⟨V, 0, none⟩ = some (.int .i64 z) ∧ W.cell? ⟨V, 1, none⟩ = some (.string str) ∧ W.cell? ⟨V, 2, none⟩ = some (.int .i64 x1) ∧ W.cell? ⟨V, 3, none⟩ = some (.int .i64 x2) ∧ W.cell? ⟨V, 4, none⟩ = some (.int .i64 x3) ∧ W.cell? ⟨V, 5, none⟩ = some (.int .i64 x4) ∧ W.cell? ⟨V, 6, none⟩ = some (.int .i64 x5) ∧ W.cell? ⟨V, 7, none⟩ = some (.int .i64 x6) ∧ W.cell? ⟨V, 8, none⟩ = some (.int .i64 x7) ∧ W.cell? ⟨V, 9, none⟩ = some (.int .i64 x8) ∧ W.cell? ⟨V, 10, none⟩ = some (.int .i64 x9) ∧ W.cell? ⟨V, 11, none⟩ = some (.int .i64 x10))) ((exact CW.all (by assumption)))
          ((first | (go_at_call 16; refine (D16.out _ (by assumption)).mono ?_; rintro e w' ⟨rfl, hC'⟩) | (go_at_call 17; refine (D17.out _ (by assumption)).mono ?_; rintro e w' ⟨rfl, hC'⟩) | (go_at_call 18; refine (D18.out _ (by assumption)).mono ?_; rintro e w' ⟨rfl, hC'⟩) | (go_at_call 19; refine (D19.out _ (by assumption)).mono ?_; rintro e w' ⟨rfl, hC'⟩) | (go_at_call 20; refine (D20.out _ (by assumption)).mono ?_; rintro e w' ⟨rfl, hC'⟩) | (go_at_call 21; refine (D21.out _ (by assumption)).mono ?_; rintro e w' ⟨rfl, hC'⟩) | (go_at_call 22; refine (D22.out _ (by assumption)).mono ?_; rintro e w' ⟨rfl, hC'⟩) | (go_at_call 23; refine (D23.out _ (by assumption)).mono ?_; rintro e w' ⟨rfl, hC'⟩) | (go_at_call 24; refine (D24.out _ (by assumption)).mono ?_; rintro e w' ⟨rfl, hC'⟩) | (go_at_call 25; refine (D25.out _ (by assumption)).mono ?_; rintro e w' ⟨rfl, hC'⟩) | (go_at_call 26; refine (D26.out _ (by assumption)).mono ?_; rintro e w' ⟨rfl, hC'⟩) | (go_at_call 27; refine (D27.out _ (by assumption)).mono ?_; rintro e w' ⟨rfl, hC'⟩) | (go_at_call 28; refine (D28.out _ (by assumption)).mono ?_; rintro e w' ⟨rfl, hC'⟩) | (go_at_call 29; refine (D29.out _ (by assumption)).mono ?_; rintro e w' ⟨rfl, hC'⟩)))
        go_wp2_with fail
        go_meet
        exact ⟨rfl, hC'⟩
      case rest =>
        obtain ⟨rfl, hC'⟩ := hcut
        have hL := hC'.lw
        clear hC' hC
        clear D16 D17 D18 D19 D20 D21 D22 D23 D24 D25 D26 D27 D28 D29
        have m1 := fun W => mod_any a 26 W ha.1 ha.2 (by omega) (by omega)
        have m2 := fun W => mod_any b 16387 W hb.1 hb.2 (by omega) (by omega)
        have m3 := fun W => mod_any c 20 W hc.1 hc.2 (by omega) (by omega)
        have u0 := Int.emod_nonneg a (show (26 : Int) ≠ 0 by omega)
        have u1 := Int.emod_lt_of_pos a (show (0 : Int) < 26 by omega)
        have v0 := Int.emod_nonneg b (show (16387 : Int) ≠ 0 by omega)
        have v1 := Int.emod_lt_of_pos b (show (0 : Int) < 16387 by omega)
        have t0 := Int.emod_nonneg c (show (20 : Int) ≠ 0 by omega)
        have t1 := Int.emod_lt_of_pos c (show (0 : Int) < 20 by omega)
        generalize a % 26 = u at *
        generalize b % 16387 = v at *
        generalize c % 20 = t at *
        clear ha hb hc
        have M1 := Lib.hid m1; have M2 := Lib.hid m2; have M3 := Lib.hid m3
        clear m1 m2 m3
        have e1 : IntKind.i64.wrap (u - 1) = u - 1 := IntWalk.i64_in _ (by omega)
        have e2 : IntKind.i64.wrap (v - 1) = v - 1 := IntWalk.i64_in _ (by omega)
        have e3 : IntKind.i64.wrap (t - 1) = t - 1 := IntWalk.i64_in _ (by omega)
        have hLd := hL.step (Below.refl _ _).drew
        have hS0 := (hL.set0 HT.out (u - 1)).step (Below.refl _ _).drew
        have hS1 := ((hL.set0 HT.out (u - 1)).set1 HT.out (v - 1)).step (Below.refl _ _).drew
        have HL := Lib.hid hL; have HS1 := Lib.hid hS1
        obtain ⟨c0, c1, f0, f1⟩ := hLd.cells
        obtain ⟨g0, g1, k0, k1⟩ := hS0.cells
        clear hL hLd hS0 hS1
        go_wp2_with fail
        go_region_with ((first | (go_at_call 30; with_reducible refine (M1.out _).mono ?_; rintro e w' ⟨rfl, rfl⟩) | (go_at_call 30; with_reducible refine (M2.out _).mono ?_; rintro e w' ⟨rfl, rfl⟩) | (go_at_call 30; with_reducible refine (M3.out _).mono ?_; rintro e w' ⟨rfl, rfl⟩)))
        all_goals
          go_wp2_with fail
          go_roundw
          case rel => exact ⟨k + 1, u - 1, v - 1, t - 1, by omega, by go_num, rfl, ⟨by omega, by omega⟩, ⟨by omega, by omega⟩, ⟨by omega, by omega⟩, HS1.out⟩
          case measure => simp [intOf]; omega
    · have hk2 : k = 2 := by omega
      subst hk2
      go_wp2_with fail
      refine (awake_any _ hW.tabs).mono ?_
      rintro e W3 ⟨rfl, hb3⟩
      have hW3 := hW.step hb3
      clear hb3
      go_wp2_with fail
      go_ret
      exact ⟨rfl, hW3.below⟩
end Go.Proofs.YtdhochjcigingaaDoor
