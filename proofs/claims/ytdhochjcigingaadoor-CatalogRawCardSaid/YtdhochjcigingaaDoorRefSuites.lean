/- The document's Suites. -/
import Derived.Test.YtdhochjcigingaaDoorRefSuite
import Derived.Deep.RegionHeld3
import Derived.Great.BuildSlice
namespace Go.Proofs.YtdhochjcigingaaDoor
open Go.RowKit
set_option linter.all false

/-- Boxes of two numbers. -/
def Bx (W : World) (l : List (Nat × Int × Int)) : Prop := ∀ x ∈ l, W.cell? ⟨x.1, 0, none⟩ = some (.int .i64 x.2.1) ∧ W.cell? ⟨x.1, 1, none⟩ = some (.int .i64 x.2.2)
theorem Bx.get {W : World} {l : List (Nat × Int × Int)} (h : Bx W l) {b : Nat} {x y : Int} (hm : (b, x, y) ∈ l) : W.cell? ⟨b, 0, none⟩ = some (.int .i64 x) ∧ W.cell? ⟨b, 1, none⟩ = some (.int .i64 y) := h _ hm
theorem Bx.step {W W' : World} {l : List (Nat × Int × Int)} (h : Bx W l) (hb : Below W.heap.size W W') : Bx W' l := fun x hx =>
  ⟨(hb.cell (p := ⟨x.1, 0, none⟩) (block_lt_of_cell (h x hx).1)).trans (h x hx).1, (hb.cell (p := ⟨x.1, 1, none⟩) (block_lt_of_cell (h x hx).2)).trans (h x hx).2⟩
theorem Bx.cons {W : World} {l : List (Nat × Int × Int)} (h : Bx W l) (b : Nat) (x y : Int) (hb : W.heap.size = b) : Bx (W.alloc (.cells #[.int .i64 x, .int .i64 y] 23)) ((b, x, y) :: l) := fun z hz => by
  rcases List.mem_cons.1 hz with rfl | hz
  · subst hb
    exact ⟨cell_of_row _ _ 0 _ _ _ (heap_alloc_new _ _), cell_of_row _ _ 1 _ _ _ (heap_alloc_new _ _)⟩
  · exact h.step ((Below.refl _ _).alloc (Nat.le_refl _) _) z hz

def RB (w : World) (l : List (Nat × Int × Int)) (W : World) : Prop := Bx W l ∧ Below w.heap.size w W
theorem RB.step {w W W' : World} {l : List (Nat × Int × Int)} (h : RB w l W) (hb : Below W.heap.size W W') : RB w l W' := ⟨h.1.step hb, h.2.trans (hb.mono h.2.size)⟩
def RUse (w : World) (l : List (Nat × Int × Int)) (a b : Int) (e : Ending) (w' : World) : Prop := e = .returned (.agg #[.int .i64 a, .int .i64 b]) ∧ RB w l w'
theorem use69_rb {w W : World} {l : List (Nat × Int × Int)} {a b : Int} (h : RB w l W) : Calls Tryd.prog 69 #[.int .i64 a, .int .i64 b] W (RUse w l a b) :=
  (use69_any a b W).mono fun _ _ ⟨he, hb⟩ => ⟨he, h.step hb⟩
def RSu (w : World) (l : List (Nat × Int × Int)) (v : Value) (e : Ending) (w' : World) : Prop := e = .returned v ∧ RB w l w'
theorem s70r_1 {w W : World} {l : List (Nat × Int × Int)} (h : RB w l W) : Calls Tryd.prog 70 #[.int .i64 1, .string ⟨#[114, 115, 97, 45, 114, 99, 52, 45, 109, 100, 53]⟩, .agg #[.int .i64 10, .int .i64 0], .agg #[.int .i64 5, .int .i64 0], .agg #[.int .i64 14, .int .i64 128], .agg #[.int .i64 19, .int .i64 0], .int .i64 1, .int .i64 2] W (RSu w l (suV 1)) := (s70_1 W).mono fun _ _ ⟨he, hb⟩ => ⟨he, h.step hb⟩
theorem s70r_2 {w W : World} {l : List (Nat × Int × Int)} (h : RB w l W) : Calls Tryd.prog 70 #[.int .i64 2, .string ⟨#[114, 115, 97, 45, 114, 99, 52, 45, 115, 104, 97]⟩, .agg #[.int .i64 10, .int .i64 0], .agg #[.int .i64 5, .int .i64 0], .agg #[.int .i64 14, .int .i64 128], .agg #[.int .i64 20, .int .i64 0], .int .i64 1, .int .i64 3] W (RSu w l (suV 2)) := (s70_2 W).mono fun _ _ ⟨he, hb⟩ => ⟨he, h.step hb⟩
theorem s70r_3 {w W : World} {l : List (Nat × Int × Int)} (h : RB w l W) : Calls Tryd.prog 70 #[.int .i64 3, .string ⟨#[114, 115, 97, 45, 100, 101, 115, 51, 45, 115, 104, 97]⟩, .agg #[.int .i64 10, .int .i64 0], .agg #[.int .i64 5, .int .i64 0], .agg #[.int .i64 15, .int .i64 168], .agg #[.int .i64 20, .int .i64 0], .int .i64 1, .int .i64 3] W (RSu w l (suV 3)) := (s70_3 W).mono fun _ _ ⟨he, hb⟩ => ⟨he, h.step hb⟩
theorem s70r_4 {w W : World} {l : List (Nat × Int × Int)} (h : RB w l W) : Calls Tryd.prog 70 #[.int .i64 4, .string ⟨#[100, 104, 101, 45, 100, 115, 97, 45, 100, 101, 115, 51, 45, 115, 104, 97]⟩, .agg #[.int .i64 11, .int .i64 1024], .agg #[.int .i64 6, .int .i64 0], .agg #[.int .i64 15, .int .i64 168], .agg #[.int .i64 20, .int .i64 0], .int .i64 1, .int .i64 3] W (RSu w l (suV 4)) := (s70_4 W).mono fun _ _ ⟨he, hb⟩ => ⟨he, h.step hb⟩
theorem s70r_5 {w W : World} {l : List (Nat × Int × Int)} (h : RB w l W) : Calls Tryd.prog 70 #[.int .i64 5, .string ⟨#[100, 104, 101, 45, 114, 115, 97, 45, 100, 101, 115, 51, 45, 115, 104, 97]⟩, .agg #[.int .i64 11, .int .i64 1024], .agg #[.int .i64 5, .int .i64 0], .agg #[.int .i64 15, .int .i64 168], .agg #[.int .i64 20, .int .i64 0], .int .i64 1, .int .i64 3] W (RSu w l (suV 5)) := (s70_5 W).mono fun _ _ ⟨he, hb⟩ => ⟨he, h.step hb⟩
theorem s70r_6 {w W : World} {l : List (Nat × Int × Int)} (h : RB w l W) : Calls Tryd.prog 70 #[.int .i64 6, .string ⟨#[114, 115, 97, 45, 97, 101, 115, 49, 50, 56, 45, 115, 104, 97]⟩, .agg #[.int .i64 10, .int .i64 0], .agg #[.int .i64 5, .int .i64 0], .agg #[.int .i64 16, .int .i64 128], .agg #[.int .i64 20, .int .i64 0], .int .i64 1, .int .i64 3] W (RSu w l (suV 6)) := (s70_6 W).mono fun _ _ ⟨he, hb⟩ => ⟨he, h.step hb⟩
theorem s70r_7 {w W : World} {l : List (Nat × Int × Int)} (h : RB w l W) : Calls Tryd.prog 70 #[.int .i64 7, .string ⟨#[100, 104, 101, 45, 114, 115, 97, 45, 97, 101, 115, 49, 50, 56, 45, 115, 104, 97]⟩, .agg #[.int .i64 11, .int .i64 2048], .agg #[.int .i64 5, .int .i64 0], .agg #[.int .i64 16, .int .i64 128], .agg #[.int .i64 20, .int .i64 0], .int .i64 1, .int .i64 3] W (RSu w l (suV 7)) := (s70_7 W).mono fun _ _ ⟨he, hb⟩ => ⟨he, h.step hb⟩
theorem s70r_8 {w W : World} {l : List (Nat × Int × Int)} (h : RB w l W) : Calls Tryd.prog 70 #[.int .i64 8, .string ⟨#[101, 99, 100, 104, 101, 45, 114, 115, 97, 45, 97, 101, 115, 49, 50, 56, 45, 115, 104, 97]⟩, .agg #[.int .i64 12, .int .i64 256], .agg #[.int .i64 5, .int .i64 0], .agg #[.int .i64 16, .int .i64 128], .agg #[.int .i64 20, .int .i64 0], .int .i64 1, .int .i64 3] W (RSu w l (suV 8)) := (s70_8 W).mono fun _ _ ⟨he, hb⟩ => ⟨he, h.step hb⟩
theorem s70r_9 {w W : World} {l : List (Nat × Int × Int)} (h : RB w l W) : Calls Tryd.prog 70 #[.int .i64 9, .string ⟨#[101, 99, 100, 104, 101, 45, 101, 99, 100, 115, 97, 45, 97, 101, 115, 50, 53, 54, 45, 115, 104, 97, 50, 53, 54]⟩, .agg #[.int .i64 12, .int .i64 256], .agg #[.int .i64 7, .int .i64 0], .agg #[.int .i64 16, .int .i64 256], .agg #[.int .i64 21, .int .i64 0], .int .i64 3, .int .i64 3] W (RSu w l (suV 9)) := (s70_9 W).mono fun _ _ ⟨he, hb⟩ => ⟨he, h.step hb⟩
theorem s70r_10 {w W : World} {l : List (Nat × Int × Int)} (h : RB w l W) : Calls Tryd.prog 70 #[.int .i64 10, .string ⟨#[101, 99, 100, 104, 101, 45, 114, 115, 97, 45, 97, 101, 115, 49, 50, 56, 45, 103, 99, 109]⟩, .agg #[.int .i64 12, .int .i64 256], .agg #[.int .i64 5, .int .i64 0], .agg #[.int .i64 17, .int .i64 128], .agg #[.int .i64 22, .int .i64 0], .int .i64 3, .int .i64 3] W (RSu w l (suV 10)) := (s70_10 W).mono fun _ _ ⟨he, hb⟩ => ⟨he, h.step hb⟩
theorem s70r_11 {w W : World} {l : List (Nat × Int × Int)} (h : RB w l W) : Calls Tryd.prog 70 #[.int .i64 11, .string ⟨#[101, 99, 100, 104, 101, 45, 101, 99, 100, 115, 97, 45, 97, 101, 115, 50, 53, 54, 45, 103, 99, 109]⟩, .agg #[.int .i64 12, .int .i64 384], .agg #[.int .i64 7, .int .i64 0], .agg #[.int .i64 17, .int .i64 256], .agg #[.int .i64 22, .int .i64 0], .int .i64 3, .int .i64 3] W (RSu w l (suV 11)) := (s70_11 W).mono fun _ _ ⟨he, hb⟩ => ⟨he, h.step hb⟩
theorem s70r_12 {w W : World} {l : List (Nat × Int × Int)} (h : RB w l W) : Calls Tryd.prog 70 #[.int .i64 12, .string ⟨#[101, 99, 100, 104, 101, 45, 114, 115, 97, 45, 99, 104, 97, 99, 104, 97]⟩, .agg #[.int .i64 12, .int .i64 256], .agg #[.int .i64 5, .int .i64 0], .agg #[.int .i64 18, .int .i64 0], .agg #[.int .i64 22, .int .i64 0], .int .i64 3, .int .i64 3] W (RSu w l (suV 12)) := (s70_12 W).mono fun _ _ ⟨he, hb⟩ => ⟨he, h.step hb⟩
theorem s70r_13 {w W : World} {l : List (Nat × Int × Int)} (h : RB w l W) : Calls Tryd.prog 70 #[.int .i64 13, .string ⟨#[114, 115, 97, 45, 97, 101, 115, 50, 53, 54, 45, 103, 99, 109]⟩, .agg #[.int .i64 10, .int .i64 0], .agg #[.int .i64 5, .int .i64 0], .agg #[.int .i64 17, .int .i64 256], .agg #[.int .i64 22, .int .i64 0], .int .i64 3, .int .i64 3] W (RSu w l (suV 13)) := (s70_13 W).mono fun _ _ ⟨he, hb⟩ => ⟨he, h.step hb⟩
theorem s70r_14 {w W : World} {l : List (Nat × Int × Int)} (h : RB w l W) : Calls Tryd.prog 70 #[.int .i64 14, .string ⟨#[97, 101, 115, 49, 50, 56, 45, 103, 99, 109]⟩, .agg #[.int .i64 12, .int .i64 256], .agg #[.int .i64 0, .int .i64 0], .agg #[.int .i64 17, .int .i64 128], .agg #[.int .i64 22, .int .i64 0], .int .i64 4, .int .i64 4] W (RSu w l (suV 14)) := (s70_14 W).mono fun _ _ ⟨he, hb⟩ => ⟨he, h.step hb⟩
theorem s70r_15 {w W : World} {l : List (Nat × Int × Int)} (h : RB w l W) : Calls Tryd.prog 70 #[.int .i64 15, .string ⟨#[99, 104, 97, 99, 104, 97]⟩, .agg #[.int .i64 12, .int .i64 256], .agg #[.int .i64 0, .int .i64 0], .agg #[.int .i64 18, .int .i64 0], .agg #[.int .i64 22, .int .i64 0], .int .i64 4, .int .i64 4] W (RSu w l (suV 15)) := (s70_15 W).mono fun _ _ ⟨he, hb⟩ => ⟨he, h.step hb⟩
theorem s70r_16 {w W : World} {l : List (Nat × Int × Int)} (h : RB w l W) : Calls Tryd.prog 70 #[.int .i64 16, .string ⟨#[109, 108, 107, 101, 109, 45, 97, 101, 115, 50, 53, 54, 45, 103, 99, 109]⟩, .agg #[.int .i64 13, .int .i64 768], .agg #[.int .i64 0, .int .i64 0], .agg #[.int .i64 17, .int .i64 256], .agg #[.int .i64 22, .int .i64 0], .int .i64 4, .int .i64 4] W (RSu w l (suV 16)) := (s70_16 W).mono fun _ _ ⟨he, hb⟩ => ⟨he, h.step hb⟩

def RSuites (w : World) (e : Ending) (w' : World) : Prop := ∃ R, e = .returned (.slice (some ⟨R, 0, none⟩) 16 16) ∧ w'.heap[R]? = some (.cells (suitesC 16).toArray 29 (0, 0)) ∧ w.heap.size ≤ R ∧ Below w.heap.size w w'

set_option maxRecDepth 100000 in
set_option maxHeartbeats 40000000 in
theorem refsuites_any (w : World) : Calls Tryd.prog 35 #[] w (RSuites w) := by
  obtain ⟨i0, hi, hz0, hz1, _⟩ := info_parts info29
  have HI := Lib.hid hi; have HZ0 := Lib.hid hz0; have HZ1 := Lib.hid hz1
  clear hi hz0 hz1
  have hB : Bx w [] := fun x hx => by cases hx
  have hW := Below.refl w.heap.size w
  go_enter Tryd.func35, Tryd.ntmps35
  go_wp2_with fail
  refine (use69_any 10 0 _).mono ?_; rintro e V1 ⟨rfl, hb⟩
  replace hB := hB.step hb; replace hW := hW.trans (hb.mono hW.size); clear hb
  go_wp2_with fail
  refine (use69_any 5 0 _).mono ?_; rintro e V1 ⟨rfl, hb⟩
  replace hB := hB.step hb; replace hW := hW.trans (hb.mono hW.size); clear hb
  replace hB := hB.cons (V1.heap.size) 10 0 (by simp)
  replace hW := hW.alloc hW.size (.cells #[.int .i64 10, .int .i64 0] 23)
  replace hB := hB.cons (V1.heap.size + 1) 5 0 (by simp)
  replace hW := hW.alloc hW.size (.cells #[.int .i64 5, .int .i64 0] 23)
  replace hB := hB.cons (V1.heap.size + 1 + 1) 0 0 (by simp)
  replace hW := hW.alloc hW.size (.cells #[.int .i64 0, .int .i64 0] 23)
  go_upto_region 2 with (fail)
  generalize (((V1.alloc (.cells #[.int .i64 10, .int .i64 0] 23)).alloc (.cells #[.int .i64 5, .int .i64 0] 23)).alloc (.cells #[.int .i64 0, .int .i64 0] 23)) = U1 at *
  generalize V1.heap.size = C1 at *
  go_wp2_with fail
  refine (use69_any 14 128 _).mono ?_; rintro e V2 ⟨rfl, hb⟩
  replace hB := hB.step hb; replace hW := hW.trans (hb.mono hW.size); clear hb
  go_wp2_with fail
  refine (use69_any 15 168 _).mono ?_; rintro e V2 ⟨rfl, hb⟩
  replace hB := hB.step hb; replace hW := hW.trans (hb.mono hW.size); clear hb
  replace hB := hB.cons (V2.heap.size) 14 128 (by simp)
  replace hW := hW.alloc hW.size (.cells #[.int .i64 14, .int .i64 128] 23)
  replace hB := hB.cons (V2.heap.size + 1) 15 168 (by simp)
  replace hW := hW.alloc hW.size (.cells #[.int .i64 15, .int .i64 168] 23)
  go_upto_region 3 with (fail)
  generalize ((V2.alloc (.cells #[.int .i64 14, .int .i64 128] 23)).alloc (.cells #[.int .i64 15, .int .i64 168] 23)) = U2 at *
  generalize V2.heap.size = C2 at *
  go_wp2_with fail
  refine (use69_any 16 128 _).mono ?_; rintro e V3 ⟨rfl, hb⟩
  replace hB := hB.step hb; replace hW := hW.trans (hb.mono hW.size); clear hb
  go_wp2_with fail
  refine (use69_any 17 128 _).mono ?_; rintro e V3 ⟨rfl, hb⟩
  replace hB := hB.step hb; replace hW := hW.trans (hb.mono hW.size); clear hb
  go_wp2_with fail
  refine (use69_any 17 256 _).mono ?_; rintro e V3 ⟨rfl, hb⟩
  replace hB := hB.step hb; replace hW := hW.trans (hb.mono hW.size); clear hb
  replace hB := hB.cons (V3.heap.size) 16 128 (by simp)
  replace hW := hW.alloc hW.size (.cells #[.int .i64 16, .int .i64 128] 23)
  replace hB := hB.cons (V3.heap.size + 1) 17 128 (by simp)
  replace hW := hW.alloc hW.size (.cells #[.int .i64 17, .int .i64 128] 23)
  replace hB := hB.cons (V3.heap.size + 1 + 1) 17 256 (by simp)
  replace hW := hW.alloc hW.size (.cells #[.int .i64 17, .int .i64 256] 23)
  go_upto_region 4 with (fail)
  generalize (((V3.alloc (.cells #[.int .i64 16, .int .i64 128] 23)).alloc (.cells #[.int .i64 17, .int .i64 128] 23)).alloc (.cells #[.int .i64 17, .int .i64 256] 23)) = U3 at *
  generalize V3.heap.size = C3 at *
  go_wp2_with fail
  refine (use69_any 19 0 _).mono ?_; rintro e V4 ⟨rfl, hb⟩
  replace hB := hB.step hb; replace hW := hW.trans (hb.mono hW.size); clear hb
  go_wp2_with fail
  refine (use69_any 20 0 _).mono ?_; rintro e V4 ⟨rfl, hb⟩
  replace hB := hB.step hb; replace hW := hW.trans (hb.mono hW.size); clear hb
  go_wp2_with fail
  refine (use69_any 21 0 _).mono ?_; rintro e V4 ⟨rfl, hb⟩
  replace hB := hB.step hb; replace hW := hW.trans (hb.mono hW.size); clear hb
  go_wp2_with fail
  refine (use69_any 22 0 _).mono ?_; rintro e V4 ⟨rfl, hb⟩
  replace hB := hB.step hb; replace hW := hW.trans (hb.mono hW.size); clear hb
  replace hB := hB.cons (V4.heap.size) 19 0 (by simp)
  replace hW := hW.alloc hW.size (.cells #[.int .i64 19, .int .i64 0] 23)
  replace hB := hB.cons (V4.heap.size + 1) 20 0 (by simp)
  replace hW := hW.alloc hW.size (.cells #[.int .i64 20, .int .i64 0] 23)
  replace hB := hB.cons (V4.heap.size + 1 + 1) 21 0 (by simp)
  replace hW := hW.alloc hW.size (.cells #[.int .i64 21, .int .i64 0] 23)
  replace hB := hB.cons (V4.heap.size + 1 + 1 + 1) 22 0 (by simp)
  replace hW := hW.alloc hW.size (.cells #[.int .i64 22, .int .i64 0] 23)
  go_upto_region 5 with (fail)
  generalize ((((V4.alloc (.cells #[.int .i64 19, .int .i64 0] 23)).alloc (.cells #[.int .i64 20, .int .i64 0] 23)).alloc (.cells #[.int .i64 21, .int .i64 0] 23)).alloc (.cells #[.int .i64 22, .int .i64 0] 23)) = U4 at *
  generalize V4.heap.size = C4 at *
  go_wp2_with fail
  refine (use69_any 12 256 _).mono ?_; rintro e V5 ⟨rfl, hb⟩
  replace hB := hB.step hb; replace hW := hW.trans (hb.mono hW.size); clear hb
  go_wp2_with fail
  refine (use69_any 18 0 _).mono ?_; rintro e V5 ⟨rfl, hb⟩
  replace hB := hB.step hb; replace hW := hW.trans (hb.mono hW.size); clear hb
  replace hB := hB.cons (V5.heap.size) 12 256 (by simp)
  replace hW := hW.alloc hW.size (.cells #[.int .i64 12, .int .i64 256] 23)
  replace hB := hB.cons (V5.heap.size + 1) 18 0 (by simp)
  replace hW := hW.alloc hW.size (.cells #[.int .i64 18, .int .i64 0] 23)
  go_wp2_with fail
  generalize ((V5.alloc (.cells #[.int .i64 12, .int .i64 256] 23)).alloc (.cells #[.int .i64 18, .int .i64 0] 23)) = U5 at *
  generalize V5.heap.size = C5 at *
  have hRB : RB w [(C5 + 1, 18, 0), (C5, 12, 256), (C4 + 1 + 1 + 1, 22, 0), (C4 + 1 + 1, 21, 0), (C4 + 1, 20, 0), (C4, 19, 0), (C3 + 1 + 1, 17, 256), (C3 + 1, 17, 128), (C3, 16, 128), (C2 + 1, 15, 168), (C2, 14, 128), (C1 + 1 + 1, 0, 0), (C1 + 1, 5, 0), (C1, 10, 0)] U5 := ⟨hB, hW⟩
  clear hB hW
  obtain ⟨L, hL⟩ : ∃ L : List (Nat × Int × Int), L = [(C5 + 1, 18, 0), (C5, 12, 256), (C4 + 1 + 1 + 1, 22, 0), (C4 + 1 + 1, 21, 0), (C4 + 1, 20, 0), (C4, 19, 0), (C3 + 1 + 1, 17, 256), (C3 + 1, 17, 128), (C3, 16, 128), (C2 + 1, 15, 168), (C2, 14, 128), (C1 + 1 + 1, 0, 0), (C1 + 1, 5, 0), (C1, 10, 0)] := ⟨_, rfl⟩
  rw [← hL] at hRB
  have x14a : ∀ W, RB w L W → W.cell? ⟨C5 + 1, 0, none⟩ = some (.int .i64 18) := fun W h => (Bx.get (hL ▸ h.1) (.head _)).1
  have x14b : ∀ W, RB w L W → W.cell? ⟨C5 + 1, 1, none⟩ = some (.int .i64 0) := fun W h => (Bx.get (hL ▸ h.1) (.head _)).2
  have x13a : ∀ W, RB w L W → W.cell? ⟨C5, 0, none⟩ = some (.int .i64 12) := fun W h => (Bx.get (hL ▸ h.1) (.tail _ (.head _))).1
  have x13b : ∀ W, RB w L W → W.cell? ⟨C5, 1, none⟩ = some (.int .i64 256) := fun W h => (Bx.get (hL ▸ h.1) (.tail _ (.head _))).2
  have x12a : ∀ W, RB w L W → W.cell? ⟨C4 + 1 + 1 + 1, 0, none⟩ = some (.int .i64 22) := fun W h => (Bx.get (hL ▸ h.1) (.tail _ (.tail _ (.head _)))).1
  have x12b : ∀ W, RB w L W → W.cell? ⟨C4 + 1 + 1 + 1, 1, none⟩ = some (.int .i64 0) := fun W h => (Bx.get (hL ▸ h.1) (.tail _ (.tail _ (.head _)))).2
  have x11a : ∀ W, RB w L W → W.cell? ⟨C4 + 1 + 1, 0, none⟩ = some (.int .i64 21) := fun W h => (Bx.get (hL ▸ h.1) (.tail _ (.tail _ (.tail _ (.head _))))).1
  have x11b : ∀ W, RB w L W → W.cell? ⟨C4 + 1 + 1, 1, none⟩ = some (.int .i64 0) := fun W h => (Bx.get (hL ▸ h.1) (.tail _ (.tail _ (.tail _ (.head _))))).2
  have x10a : ∀ W, RB w L W → W.cell? ⟨C4 + 1, 0, none⟩ = some (.int .i64 20) := fun W h => (Bx.get (hL ▸ h.1) (.tail _ (.tail _ (.tail _ (.tail _ (.head _)))))).1
  have x10b : ∀ W, RB w L W → W.cell? ⟨C4 + 1, 1, none⟩ = some (.int .i64 0) := fun W h => (Bx.get (hL ▸ h.1) (.tail _ (.tail _ (.tail _ (.tail _ (.head _)))))).2
  have x9a : ∀ W, RB w L W → W.cell? ⟨C4, 0, none⟩ = some (.int .i64 19) := fun W h => (Bx.get (hL ▸ h.1) (.tail _ (.tail _ (.tail _ (.tail _ (.tail _ (.head _))))))).1
  have x9b : ∀ W, RB w L W → W.cell? ⟨C4, 1, none⟩ = some (.int .i64 0) := fun W h => (Bx.get (hL ▸ h.1) (.tail _ (.tail _ (.tail _ (.tail _ (.tail _ (.head _))))))).2
  have x8a : ∀ W, RB w L W → W.cell? ⟨C3 + 1 + 1, 0, none⟩ = some (.int .i64 17) := fun W h => (Bx.get (hL ▸ h.1) (.tail _ (.tail _ (.tail _ (.tail _ (.tail _ (.tail _ (.head _)))))))).1
  have x8b : ∀ W, RB w L W → W.cell? ⟨C3 + 1 + 1, 1, none⟩ = some (.int .i64 256) := fun W h => (Bx.get (hL ▸ h.1) (.tail _ (.tail _ (.tail _ (.tail _ (.tail _ (.tail _ (.head _)))))))).2
  have x7a : ∀ W, RB w L W → W.cell? ⟨C3 + 1, 0, none⟩ = some (.int .i64 17) := fun W h => (Bx.get (hL ▸ h.1) (.tail _ (.tail _ (.tail _ (.tail _ (.tail _ (.tail _ (.tail _ (.head _))))))))).1
  have x7b : ∀ W, RB w L W → W.cell? ⟨C3 + 1, 1, none⟩ = some (.int .i64 128) := fun W h => (Bx.get (hL ▸ h.1) (.tail _ (.tail _ (.tail _ (.tail _ (.tail _ (.tail _ (.tail _ (.head _))))))))).2
  have x6a : ∀ W, RB w L W → W.cell? ⟨C3, 0, none⟩ = some (.int .i64 16) := fun W h => (Bx.get (hL ▸ h.1) (.tail _ (.tail _ (.tail _ (.tail _ (.tail _ (.tail _ (.tail _ (.tail _ (.head _)))))))))).1
  have x6b : ∀ W, RB w L W → W.cell? ⟨C3, 1, none⟩ = some (.int .i64 128) := fun W h => (Bx.get (hL ▸ h.1) (.tail _ (.tail _ (.tail _ (.tail _ (.tail _ (.tail _ (.tail _ (.tail _ (.head _)))))))))).2
  have x5a : ∀ W, RB w L W → W.cell? ⟨C2 + 1, 0, none⟩ = some (.int .i64 15) := fun W h => (Bx.get (hL ▸ h.1) (.tail _ (.tail _ (.tail _ (.tail _ (.tail _ (.tail _ (.tail _ (.tail _ (.tail _ (.head _))))))))))).1
  have x5b : ∀ W, RB w L W → W.cell? ⟨C2 + 1, 1, none⟩ = some (.int .i64 168) := fun W h => (Bx.get (hL ▸ h.1) (.tail _ (.tail _ (.tail _ (.tail _ (.tail _ (.tail _ (.tail _ (.tail _ (.tail _ (.head _))))))))))).2
  have x4a : ∀ W, RB w L W → W.cell? ⟨C2, 0, none⟩ = some (.int .i64 14) := fun W h => (Bx.get (hL ▸ h.1) (.tail _ (.tail _ (.tail _ (.tail _ (.tail _ (.tail _ (.tail _ (.tail _ (.tail _ (.tail _ (.head _)))))))))))).1
  have x4b : ∀ W, RB w L W → W.cell? ⟨C2, 1, none⟩ = some (.int .i64 128) := fun W h => (Bx.get (hL ▸ h.1) (.tail _ (.tail _ (.tail _ (.tail _ (.tail _ (.tail _ (.tail _ (.tail _ (.tail _ (.tail _ (.head _)))))))))))).2
  have x3a : ∀ W, RB w L W → W.cell? ⟨C1 + 1 + 1, 0, none⟩ = some (.int .i64 0) := fun W h => (Bx.get (hL ▸ h.1) (.tail _ (.tail _ (.tail _ (.tail _ (.tail _ (.tail _ (.tail _ (.tail _ (.tail _ (.tail _ (.tail _ (.head _))))))))))))).1
  have x3b : ∀ W, RB w L W → W.cell? ⟨C1 + 1 + 1, 1, none⟩ = some (.int .i64 0) := fun W h => (Bx.get (hL ▸ h.1) (.tail _ (.tail _ (.tail _ (.tail _ (.tail _ (.tail _ (.tail _ (.tail _ (.tail _ (.tail _ (.tail _ (.head _))))))))))))).2
  have x2a : ∀ W, RB w L W → W.cell? ⟨C1 + 1, 0, none⟩ = some (.int .i64 5) := fun W h => (Bx.get (hL ▸ h.1) (.tail _ (.tail _ (.tail _ (.tail _ (.tail _ (.tail _ (.tail _ (.tail _ (.tail _ (.tail _ (.tail _ (.tail _ (.head _)))))))))))))).1
  have x2b : ∀ W, RB w L W → W.cell? ⟨C1 + 1, 1, none⟩ = some (.int .i64 0) := fun W h => (Bx.get (hL ▸ h.1) (.tail _ (.tail _ (.tail _ (.tail _ (.tail _ (.tail _ (.tail _ (.tail _ (.tail _ (.tail _ (.tail _ (.tail _ (.head _)))))))))))))).2
  have x1a : ∀ W, RB w L W → W.cell? ⟨C1, 0, none⟩ = some (.int .i64 10) := fun W h => (Bx.get (hL ▸ h.1) (.tail _ (.tail _ (.tail _ (.tail _ (.tail _ (.tail _ (.tail _ (.tail _ (.tail _ (.tail _ (.tail _ (.tail _ (.tail _ (.head _))))))))))))))).1
  have x1b : ∀ W, RB w L W → W.cell? ⟨C1, 1, none⟩ = some (.int .i64 0) := fun W h => (Bx.get (hL ▸ h.1) (.tail _ (.tail _ (.tail _ (.tail _ (.tail _ (.tail _ (.tail _ (.tail _ (.tail _ (.tail _ (.tail _ (.tail _ (.tail _ (.head _))))))))))))))).2
  clear hL
  have hRB' := hRB.step (Below.refl _ _).drew
  clear hRB
  have hRB := hRB'
  clear hRB'
  simp only [List.append_eq, List.cons_append, List.nil_append]
  refine wp_region_held_drew (S := fun W => RB w L W) (by kernel_rfl) hRB (fun hHeld => ?_)
  refine wpAnyH_take (i := 0) (oi := ?oi0) (v := .agg #[.int .i64 10, .int .i64 0]) ?h0 (by kernel_rfl) (by kernel_rfl) (by kernel_rfl) ?hq0 (Or.inl ⟨?hw0, ?hy0⟩) hHeld ?rest0
  case h0 => simp only [List.getElem?_toArray, List.getElem?_cons_succ, List.getElem?_cons_zero]; rfl
  case hw0 => rfl
  case hy0 => intro w1 hSw; (try dsimp only at hSw); have q0 := x1a _ hSw; have q1 := x1b _ hSw; clear x14a x14b x13a x13b x12a x12b x11a x11b x10a x10b x9a x9b x8a x8b x7a x7b x6a x6b x5a x5b x4a x4b x3a x3b x2a x2b x1a x1b; first | (go_simp; done) | (go_simp; with_reducible rfl)
  case hq0 => intro _ _ _ h; exact h
  try simp only [Act.put, List.setIfInBounds_toArray, List.set_cons_zero, List.set_cons_succ]
  refine wpAnyH_take (i := 1) (oi := ?oi1) (v := .agg #[.int .i64 5, .int .i64 0]) ?h1 (by kernel_rfl) (by kernel_rfl) (by kernel_rfl) ?hq1 (Or.inl ⟨?hw1, ?hy1⟩) hHeld ?rest1
  case h1 => simp only [List.getElem?_toArray, List.getElem?_cons_succ, List.getElem?_cons_zero]; rfl
  case hw1 => rfl
  case hy1 => intro w1 hSw; (try dsimp only at hSw); have q0 := x2a _ hSw; have q1 := x2b _ hSw; clear x14a x14b x13a x13b x12a x12b x11a x11b x10a x10b x9a x9b x8a x8b x7a x7b x6a x6b x5a x5b x4a x4b x3a x3b x2a x2b x1a x1b; first | (go_simp; done) | (go_simp; with_reducible rfl)
  case hq1 => intro _ _ _ h; exact h
  try simp only [Act.put, List.setIfInBounds_toArray, List.set_cons_zero, List.set_cons_succ]
  refine wpAnyH_take (i := 2) (oi := ?oi2) (v := .agg #[.int .i64 14, .int .i64 128]) ?h2 (by kernel_rfl) (by kernel_rfl) (by kernel_rfl) ?hq2 (Or.inl ⟨?hw2, ?hy2⟩) hHeld ?rest2
  case h2 => simp only [List.getElem?_toArray, List.getElem?_cons_succ, List.getElem?_cons_zero]; rfl
  case hw2 => rfl
  case hy2 => intro w1 hSw; (try dsimp only at hSw); have q0 := x4a _ hSw; have q1 := x4b _ hSw; clear x14a x14b x13a x13b x12a x12b x11a x11b x10a x10b x9a x9b x8a x8b x7a x7b x6a x6b x5a x5b x4a x4b x3a x3b x2a x2b x1a x1b; first | (go_simp; done) | (go_simp; with_reducible rfl)
  case hq2 => intro _ _ _ h; exact h
  try simp only [Act.put, List.setIfInBounds_toArray, List.set_cons_zero, List.set_cons_succ]
  refine wpAnyH_take (i := 3) (oi := ?oi3) (v := .agg #[.int .i64 19, .int .i64 0]) ?h3 (by kernel_rfl) (by kernel_rfl) (by kernel_rfl) ?hq3 (Or.inl ⟨?hw3, ?hy3⟩) hHeld ?rest3
  case h3 => simp only [List.getElem?_toArray, List.getElem?_cons_succ, List.getElem?_cons_zero]; rfl
  case hw3 => rfl
  case hy3 => intro w1 hSw; (try dsimp only at hSw); have q0 := x9a _ hSw; have q1 := x9b _ hSw; clear x14a x14b x13a x13b x12a x12b x11a x11b x10a x10b x9a x9b x8a x8b x7a x7b x6a x6b x5a x5b x4a x4b x3a x3b x2a x2b x1a x1b; first | (go_simp; done) | (go_simp; with_reducible rfl)
  case hq3 => intro _ _ _ h; exact h
  try simp only [Act.put, List.setIfInBounds_toArray, List.set_cons_zero, List.set_cons_succ]
  refine wpAnyH_take (i := 5) (oi := ?oi5) (v := .agg #[.int .i64 10, .int .i64 0]) ?h5 (by kernel_rfl) (by kernel_rfl) (by kernel_rfl) ?hq5 (Or.inl ⟨?hw5, ?hy5⟩) hHeld ?rest5
  case h5 => simp only [List.getElem?_toArray, List.getElem?_cons_succ, List.getElem?_cons_zero]; rfl
  case hw5 => rfl
  case hy5 => intro w1 hSw; (try dsimp only at hSw); have q0 := x1a _ hSw; have q1 := x1b _ hSw; clear x14a x14b x13a x13b x12a x12b x11a x11b x10a x10b x9a x9b x8a x8b x7a x7b x6a x6b x5a x5b x4a x4b x3a x3b x2a x2b x1a x1b; first | (go_simp; done) | (go_simp; with_reducible rfl)
  case hq5 => intro _ _ _ h; exact h
  try simp only [Act.put, List.setIfInBounds_toArray, List.set_cons_zero, List.set_cons_succ]
  refine wpAnyH_take (i := 6) (oi := ?oi6) (v := .agg #[.int .i64 5, .int .i64 0]) ?h6 (by kernel_rfl) (by kernel_rfl) (by kernel_rfl) ?hq6 (Or.inl ⟨?hw6, ?hy6⟩) hHeld ?rest6
  case h6 => simp only [List.getElem?_toArray, List.getElem?_cons_succ, List.getElem?_cons_zero]; rfl
  case hw6 => rfl
  case hy6 => intro w1 hSw; (try dsimp only at hSw); have q0 := x2a _ hSw; have q1 := x2b _ hSw; clear x14a x14b x13a x13b x12a x12b x11a x11b x10a x10b x9a x9b x8a x8b x7a x7b x6a x6b x5a x5b x4a x4b x3a x3b x2a x2b x1a x1b; first | (go_simp; done) | (go_simp; with_reducible rfl)
  case hq6 => intro _ _ _ h; exact h
  try simp only [Act.put, List.setIfInBounds_toArray, List.set_cons_zero, List.set_cons_succ]
  refine wpAnyH_take (i := 7) (oi := ?oi7) (v := .agg #[.int .i64 14, .int .i64 128]) ?h7 (by kernel_rfl) (by kernel_rfl) (by kernel_rfl) ?hq7 (Or.inl ⟨?hw7, ?hy7⟩) hHeld ?rest7
  case h7 => simp only [List.getElem?_toArray, List.getElem?_cons_succ, List.getElem?_cons_zero]; rfl
  case hw7 => rfl
  case hy7 => intro w1 hSw; (try dsimp only at hSw); have q0 := x4a _ hSw; have q1 := x4b _ hSw; clear x14a x14b x13a x13b x12a x12b x11a x11b x10a x10b x9a x9b x8a x8b x7a x7b x6a x6b x5a x5b x4a x4b x3a x3b x2a x2b x1a x1b; first | (go_simp; done) | (go_simp; with_reducible rfl)
  case hq7 => intro _ _ _ h; exact h
  try simp only [Act.put, List.setIfInBounds_toArray, List.set_cons_zero, List.set_cons_succ]
  refine wpAnyH_take (i := 8) (oi := ?oi8) (v := .agg #[.int .i64 20, .int .i64 0]) ?h8 (by kernel_rfl) (by kernel_rfl) (by kernel_rfl) ?hq8 (Or.inl ⟨?hw8, ?hy8⟩) hHeld ?rest8
  case h8 => simp only [List.getElem?_toArray, List.getElem?_cons_succ, List.getElem?_cons_zero]; rfl
  case hw8 => rfl
  case hy8 => intro w1 hSw; (try dsimp only at hSw); have q0 := x10a _ hSw; have q1 := x10b _ hSw; clear x14a x14b x13a x13b x12a x12b x11a x11b x10a x10b x9a x9b x8a x8b x7a x7b x6a x6b x5a x5b x4a x4b x3a x3b x2a x2b x1a x1b; first | (go_simp; done) | (go_simp; with_reducible rfl)
  case hq8 => intro _ _ _ h; exact h
  try simp only [Act.put, List.setIfInBounds_toArray, List.set_cons_zero, List.set_cons_succ]
  refine wpAnyH_take (i := 10) (oi := ?oi10) (v := .agg #[.int .i64 10, .int .i64 0]) ?h10 (by kernel_rfl) (by kernel_rfl) (by kernel_rfl) ?hq10 (Or.inl ⟨?hw10, ?hy10⟩) hHeld ?rest10
  case h10 => simp only [List.getElem?_toArray, List.getElem?_cons_succ, List.getElem?_cons_zero]; rfl
  case hw10 => rfl
  case hy10 => intro w1 hSw; (try dsimp only at hSw); have q0 := x1a _ hSw; have q1 := x1b _ hSw; clear x14a x14b x13a x13b x12a x12b x11a x11b x10a x10b x9a x9b x8a x8b x7a x7b x6a x6b x5a x5b x4a x4b x3a x3b x2a x2b x1a x1b; first | (go_simp; done) | (go_simp; with_reducible rfl)
  case hq10 => intro _ _ _ h; exact h
  try simp only [Act.put, List.setIfInBounds_toArray, List.set_cons_zero, List.set_cons_succ]
  refine wpAnyH_take (i := 11) (oi := ?oi11) (v := .agg #[.int .i64 5, .int .i64 0]) ?h11 (by kernel_rfl) (by kernel_rfl) (by kernel_rfl) ?hq11 (Or.inl ⟨?hw11, ?hy11⟩) hHeld ?rest11
  case h11 => simp only [List.getElem?_toArray, List.getElem?_cons_succ, List.getElem?_cons_zero]; rfl
  case hw11 => rfl
  case hy11 => intro w1 hSw; (try dsimp only at hSw); have q0 := x2a _ hSw; have q1 := x2b _ hSw; clear x14a x14b x13a x13b x12a x12b x11a x11b x10a x10b x9a x9b x8a x8b x7a x7b x6a x6b x5a x5b x4a x4b x3a x3b x2a x2b x1a x1b; first | (go_simp; done) | (go_simp; with_reducible rfl)
  case hq11 => intro _ _ _ h; exact h
  try simp only [Act.put, List.setIfInBounds_toArray, List.set_cons_zero, List.set_cons_succ]
  refine wpAnyH_take (i := 12) (oi := ?oi12) (v := .agg #[.int .i64 15, .int .i64 168]) ?h12 (by kernel_rfl) (by kernel_rfl) (by kernel_rfl) ?hq12 (Or.inl ⟨?hw12, ?hy12⟩) hHeld ?rest12
  case h12 => simp only [List.getElem?_toArray, List.getElem?_cons_succ, List.getElem?_cons_zero]; rfl
  case hw12 => rfl
  case hy12 => intro w1 hSw; (try dsimp only at hSw); have q0 := x5a _ hSw; have q1 := x5b _ hSw; clear x14a x14b x13a x13b x12a x12b x11a x11b x10a x10b x9a x9b x8a x8b x7a x7b x6a x6b x5a x5b x4a x4b x3a x3b x2a x2b x1a x1b; first | (go_simp; done) | (go_simp; with_reducible rfl)
  case hq12 => intro _ _ _ h; exact h
  try simp only [Act.put, List.setIfInBounds_toArray, List.set_cons_zero, List.set_cons_succ]
  refine wpAnyH_take (i := 13) (oi := ?oi13) (v := .agg #[.int .i64 20, .int .i64 0]) ?h13 (by kernel_rfl) (by kernel_rfl) (by kernel_rfl) ?hq13 (Or.inl ⟨?hw13, ?hy13⟩) hHeld ?rest13
  case h13 => simp only [List.getElem?_toArray, List.getElem?_cons_succ, List.getElem?_cons_zero]; rfl
  case hw13 => rfl
  case hy13 => intro w1 hSw; (try dsimp only at hSw); have q0 := x10a _ hSw; have q1 := x10b _ hSw; clear x14a x14b x13a x13b x12a x12b x11a x11b x10a x10b x9a x9b x8a x8b x7a x7b x6a x6b x5a x5b x4a x4b x3a x3b x2a x2b x1a x1b; first | (go_simp; done) | (go_simp; with_reducible rfl)
  case hq13 => intro _ _ _ h; exact h
  try simp only [Act.put, List.setIfInBounds_toArray, List.set_cons_zero, List.set_cons_succ]
  refine wpAnyH_take (i := 17) (oi := ?oi17) (v := .agg #[.int .i64 15, .int .i64 168]) ?h17 (by kernel_rfl) (by kernel_rfl) (by kernel_rfl) ?hq17 (Or.inl ⟨?hw17, ?hy17⟩) hHeld ?rest17
  case h17 => simp only [List.getElem?_toArray, List.getElem?_cons_succ, List.getElem?_cons_zero]; rfl
  case hw17 => rfl
  case hy17 => intro w1 hSw; (try dsimp only at hSw); have q0 := x5a _ hSw; have q1 := x5b _ hSw; clear x14a x14b x13a x13b x12a x12b x11a x11b x10a x10b x9a x9b x8a x8b x7a x7b x6a x6b x5a x5b x4a x4b x3a x3b x2a x2b x1a x1b; first | (go_simp; done) | (go_simp; with_reducible rfl)
  case hq17 => intro _ _ _ h; exact h
  try simp only [Act.put, List.setIfInBounds_toArray, List.set_cons_zero, List.set_cons_succ]
  refine wpAnyH_take (i := 18) (oi := ?oi18) (v := .agg #[.int .i64 20, .int .i64 0]) ?h18 (by kernel_rfl) (by kernel_rfl) (by kernel_rfl) ?hq18 (Or.inl ⟨?hw18, ?hy18⟩) hHeld ?rest18
  case h18 => simp only [List.getElem?_toArray, List.getElem?_cons_succ, List.getElem?_cons_zero]; rfl
  case hw18 => rfl
  case hy18 => intro w1 hSw; (try dsimp only at hSw); have q0 := x10a _ hSw; have q1 := x10b _ hSw; clear x14a x14b x13a x13b x12a x12b x11a x11b x10a x10b x9a x9b x8a x8b x7a x7b x6a x6b x5a x5b x4a x4b x3a x3b x2a x2b x1a x1b; first | (go_simp; done) | (go_simp; with_reducible rfl)
  case hq18 => intro _ _ _ h; exact h
  try simp only [Act.put, List.setIfInBounds_toArray, List.set_cons_zero, List.set_cons_succ]
  refine wpAnyH_take (i := 21) (oi := ?oi21) (v := .agg #[.int .i64 5, .int .i64 0]) ?h21 (by kernel_rfl) (by kernel_rfl) (by kernel_rfl) ?hq21 (Or.inl ⟨?hw21, ?hy21⟩) hHeld ?rest21
  case h21 => simp only [List.getElem?_toArray, List.getElem?_cons_succ, List.getElem?_cons_zero]; rfl
  case hw21 => rfl
  case hy21 => intro w1 hSw; (try dsimp only at hSw); have q0 := x2a _ hSw; have q1 := x2b _ hSw; clear x14a x14b x13a x13b x12a x12b x11a x11b x10a x10b x9a x9b x8a x8b x7a x7b x6a x6b x5a x5b x4a x4b x3a x3b x2a x2b x1a x1b; first | (go_simp; done) | (go_simp; with_reducible rfl)
  case hq21 => intro _ _ _ h; exact h
  try simp only [Act.put, List.setIfInBounds_toArray, List.set_cons_zero, List.set_cons_succ]
  refine wpAnyH_take (i := 22) (oi := ?oi22) (v := .agg #[.int .i64 15, .int .i64 168]) ?h22 (by kernel_rfl) (by kernel_rfl) (by kernel_rfl) ?hq22 (Or.inl ⟨?hw22, ?hy22⟩) hHeld ?rest22
  case h22 => simp only [List.getElem?_toArray, List.getElem?_cons_succ, List.getElem?_cons_zero]; rfl
  case hw22 => rfl
  case hy22 => intro w1 hSw; (try dsimp only at hSw); have q0 := x5a _ hSw; have q1 := x5b _ hSw; clear x14a x14b x13a x13b x12a x12b x11a x11b x10a x10b x9a x9b x8a x8b x7a x7b x6a x6b x5a x5b x4a x4b x3a x3b x2a x2b x1a x1b; first | (go_simp; done) | (go_simp; with_reducible rfl)
  case hq22 => intro _ _ _ h; exact h
  try simp only [Act.put, List.setIfInBounds_toArray, List.set_cons_zero, List.set_cons_succ]
  refine wpAnyH_take (i := 23) (oi := ?oi23) (v := .agg #[.int .i64 20, .int .i64 0]) ?h23 (by kernel_rfl) (by kernel_rfl) (by kernel_rfl) ?hq23 (Or.inl ⟨?hw23, ?hy23⟩) hHeld ?rest23
  case h23 => simp only [List.getElem?_toArray, List.getElem?_cons_succ, List.getElem?_cons_zero]; rfl
  case hw23 => rfl
  case hy23 => intro w1 hSw; (try dsimp only at hSw); have q0 := x10a _ hSw; have q1 := x10b _ hSw; clear x14a x14b x13a x13b x12a x12b x11a x11b x10a x10b x9a x9b x8a x8b x7a x7b x6a x6b x5a x5b x4a x4b x3a x3b x2a x2b x1a x1b; first | (go_simp; done) | (go_simp; with_reducible rfl)
  case hq23 => intro _ _ _ h; exact h
  try simp only [Act.put, List.setIfInBounds_toArray, List.set_cons_zero, List.set_cons_succ]
  refine wpAnyH_take (i := 25) (oi := ?oi25) (v := .agg #[.int .i64 10, .int .i64 0]) ?h25 (by kernel_rfl) (by kernel_rfl) (by kernel_rfl) ?hq25 (Or.inl ⟨?hw25, ?hy25⟩) hHeld ?rest25
  case h25 => simp only [List.getElem?_toArray, List.getElem?_cons_succ, List.getElem?_cons_zero]; rfl
  case hw25 => rfl
  case hy25 => intro w1 hSw; (try dsimp only at hSw); have q0 := x1a _ hSw; have q1 := x1b _ hSw; clear x14a x14b x13a x13b x12a x12b x11a x11b x10a x10b x9a x9b x8a x8b x7a x7b x6a x6b x5a x5b x4a x4b x3a x3b x2a x2b x1a x1b; first | (go_simp; done) | (go_simp; with_reducible rfl)
  case hq25 => intro _ _ _ h; exact h
  try simp only [Act.put, List.setIfInBounds_toArray, List.set_cons_zero, List.set_cons_succ]
  refine wpAnyH_take (i := 26) (oi := ?oi26) (v := .agg #[.int .i64 5, .int .i64 0]) ?h26 (by kernel_rfl) (by kernel_rfl) (by kernel_rfl) ?hq26 (Or.inl ⟨?hw26, ?hy26⟩) hHeld ?rest26
  case h26 => simp only [List.getElem?_toArray, List.getElem?_cons_succ, List.getElem?_cons_zero]; rfl
  case hw26 => rfl
  case hy26 => intro w1 hSw; (try dsimp only at hSw); have q0 := x2a _ hSw; have q1 := x2b _ hSw; clear x14a x14b x13a x13b x12a x12b x11a x11b x10a x10b x9a x9b x8a x8b x7a x7b x6a x6b x5a x5b x4a x4b x3a x3b x2a x2b x1a x1b; first | (go_simp; done) | (go_simp; with_reducible rfl)
  case hq26 => intro _ _ _ h; exact h
  try simp only [Act.put, List.setIfInBounds_toArray, List.set_cons_zero, List.set_cons_succ]
  refine wpAnyH_take (i := 27) (oi := ?oi27) (v := .agg #[.int .i64 16, .int .i64 128]) ?h27 (by kernel_rfl) (by kernel_rfl) (by kernel_rfl) ?hq27 (Or.inl ⟨?hw27, ?hy27⟩) hHeld ?rest27
  case h27 => simp only [List.getElem?_toArray, List.getElem?_cons_succ, List.getElem?_cons_zero]; rfl
  case hw27 => rfl
  case hy27 => intro w1 hSw; (try dsimp only at hSw); have q0 := x6a _ hSw; have q1 := x6b _ hSw; clear x14a x14b x13a x13b x12a x12b x11a x11b x10a x10b x9a x9b x8a x8b x7a x7b x6a x6b x5a x5b x4a x4b x3a x3b x2a x2b x1a x1b; first | (go_simp; done) | (go_simp; with_reducible rfl)
  case hq27 => intro _ _ _ h; exact h
  try simp only [Act.put, List.setIfInBounds_toArray, List.set_cons_zero, List.set_cons_succ]
  refine wpAnyH_take (i := 28) (oi := ?oi28) (v := .agg #[.int .i64 20, .int .i64 0]) ?h28 (by kernel_rfl) (by kernel_rfl) (by kernel_rfl) ?hq28 (Or.inl ⟨?hw28, ?hy28⟩) hHeld ?rest28
  case h28 => simp only [List.getElem?_toArray, List.getElem?_cons_succ, List.getElem?_cons_zero]; rfl
  case hw28 => rfl
  case hy28 => intro w1 hSw; (try dsimp only at hSw); have q0 := x10a _ hSw; have q1 := x10b _ hSw; clear x14a x14b x13a x13b x12a x12b x11a x11b x10a x10b x9a x9b x8a x8b x7a x7b x6a x6b x5a x5b x4a x4b x3a x3b x2a x2b x1a x1b; first | (go_simp; done) | (go_simp; with_reducible rfl)
  case hq28 => intro _ _ _ h; exact h
  try simp only [Act.put, List.setIfInBounds_toArray, List.set_cons_zero, List.set_cons_succ]
  refine wpAnyH_take (i := 31) (oi := ?oi31) (v := .agg #[.int .i64 5, .int .i64 0]) ?h31 (by kernel_rfl) (by kernel_rfl) (by kernel_rfl) ?hq31 (Or.inl ⟨?hw31, ?hy31⟩) hHeld ?rest31
  case h31 => simp only [List.getElem?_toArray, List.getElem?_cons_succ, List.getElem?_cons_zero]; rfl
  case hw31 => rfl
  case hy31 => intro w1 hSw; (try dsimp only at hSw); have q0 := x2a _ hSw; have q1 := x2b _ hSw; clear x14a x14b x13a x13b x12a x12b x11a x11b x10a x10b x9a x9b x8a x8b x7a x7b x6a x6b x5a x5b x4a x4b x3a x3b x2a x2b x1a x1b; first | (go_simp; done) | (go_simp; with_reducible rfl)
  case hq31 => intro _ _ _ h; exact h
  try simp only [Act.put, List.setIfInBounds_toArray, List.set_cons_zero, List.set_cons_succ]
  refine wpAnyH_take (i := 32) (oi := ?oi32) (v := .agg #[.int .i64 16, .int .i64 128]) ?h32 (by kernel_rfl) (by kernel_rfl) (by kernel_rfl) ?hq32 (Or.inl ⟨?hw32, ?hy32⟩) hHeld ?rest32
  case h32 => simp only [List.getElem?_toArray, List.getElem?_cons_succ, List.getElem?_cons_zero]; rfl
  case hw32 => rfl
  case hy32 => intro w1 hSw; (try dsimp only at hSw); have q0 := x6a _ hSw; have q1 := x6b _ hSw; clear x14a x14b x13a x13b x12a x12b x11a x11b x10a x10b x9a x9b x8a x8b x7a x7b x6a x6b x5a x5b x4a x4b x3a x3b x2a x2b x1a x1b; first | (go_simp; done) | (go_simp; with_reducible rfl)
  case hq32 => intro _ _ _ h; exact h
  try simp only [Act.put, List.setIfInBounds_toArray, List.set_cons_zero, List.set_cons_succ]
  refine wpAnyH_take (i := 33) (oi := ?oi33) (v := .agg #[.int .i64 20, .int .i64 0]) ?h33 (by kernel_rfl) (by kernel_rfl) (by kernel_rfl) ?hq33 (Or.inl ⟨?hw33, ?hy33⟩) hHeld ?rest33
  case h33 => simp only [List.getElem?_toArray, List.getElem?_cons_succ, List.getElem?_cons_zero]; rfl
  case hw33 => rfl
  case hy33 => intro w1 hSw; (try dsimp only at hSw); have q0 := x10a _ hSw; have q1 := x10b _ hSw; clear x14a x14b x13a x13b x12a x12b x11a x11b x10a x10b x9a x9b x8a x8b x7a x7b x6a x6b x5a x5b x4a x4b x3a x3b x2a x2b x1a x1b; first | (go_simp; done) | (go_simp; with_reducible rfl)
  case hq33 => intro _ _ _ h; exact h
  try simp only [Act.put, List.setIfInBounds_toArray, List.set_cons_zero, List.set_cons_succ]
  refine wpAnyH_take (i := 35) (oi := ?oi35) (v := .agg #[.int .i64 12, .int .i64 256]) ?h35 (by kernel_rfl) (by kernel_rfl) (by kernel_rfl) ?hq35 (Or.inl ⟨?hw35, ?hy35⟩) hHeld ?rest35
  case h35 => simp only [List.getElem?_toArray, List.getElem?_cons_succ, List.getElem?_cons_zero]; rfl
  case hw35 => rfl
  case hy35 => intro w1 hSw; (try dsimp only at hSw); have q0 := x13a _ hSw; have q1 := x13b _ hSw; clear x14a x14b x13a x13b x12a x12b x11a x11b x10a x10b x9a x9b x8a x8b x7a x7b x6a x6b x5a x5b x4a x4b x3a x3b x2a x2b x1a x1b; first | (go_simp; done) | (go_simp; with_reducible rfl)
  case hq35 => intro _ _ _ h; exact h
  try simp only [Act.put, List.setIfInBounds_toArray, List.set_cons_zero, List.set_cons_succ]
  refine wpAnyH_take (i := 36) (oi := ?oi36) (v := .agg #[.int .i64 5, .int .i64 0]) ?h36 (by kernel_rfl) (by kernel_rfl) (by kernel_rfl) ?hq36 (Or.inl ⟨?hw36, ?hy36⟩) hHeld ?rest36
  case h36 => simp only [List.getElem?_toArray, List.getElem?_cons_succ, List.getElem?_cons_zero]; rfl
  case hw36 => rfl
  case hy36 => intro w1 hSw; (try dsimp only at hSw); have q0 := x2a _ hSw; have q1 := x2b _ hSw; clear x14a x14b x13a x13b x12a x12b x11a x11b x10a x10b x9a x9b x8a x8b x7a x7b x6a x6b x5a x5b x4a x4b x3a x3b x2a x2b x1a x1b; first | (go_simp; done) | (go_simp; with_reducible rfl)
  case hq36 => intro _ _ _ h; exact h
  try simp only [Act.put, List.setIfInBounds_toArray, List.set_cons_zero, List.set_cons_succ]
  refine wpAnyH_take (i := 37) (oi := ?oi37) (v := .agg #[.int .i64 16, .int .i64 128]) ?h37 (by kernel_rfl) (by kernel_rfl) (by kernel_rfl) ?hq37 (Or.inl ⟨?hw37, ?hy37⟩) hHeld ?rest37
  case h37 => simp only [List.getElem?_toArray, List.getElem?_cons_succ, List.getElem?_cons_zero]; rfl
  case hw37 => rfl
  case hy37 => intro w1 hSw; (try dsimp only at hSw); have q0 := x6a _ hSw; have q1 := x6b _ hSw; clear x14a x14b x13a x13b x12a x12b x11a x11b x10a x10b x9a x9b x8a x8b x7a x7b x6a x6b x5a x5b x4a x4b x3a x3b x2a x2b x1a x1b; first | (go_simp; done) | (go_simp; with_reducible rfl)
  case hq37 => intro _ _ _ h; exact h
  try simp only [Act.put, List.setIfInBounds_toArray, List.set_cons_zero, List.set_cons_succ]
  refine wpAnyH_take (i := 38) (oi := ?oi38) (v := .agg #[.int .i64 20, .int .i64 0]) ?h38 (by kernel_rfl) (by kernel_rfl) (by kernel_rfl) ?hq38 (Or.inl ⟨?hw38, ?hy38⟩) hHeld ?rest38
  case h38 => simp only [List.getElem?_toArray, List.getElem?_cons_succ, List.getElem?_cons_zero]; rfl
  case hw38 => rfl
  case hy38 => intro w1 hSw; (try dsimp only at hSw); have q0 := x10a _ hSw; have q1 := x10b _ hSw; clear x14a x14b x13a x13b x12a x12b x11a x11b x10a x10b x9a x9b x8a x8b x7a x7b x6a x6b x5a x5b x4a x4b x3a x3b x2a x2b x1a x1b; first | (go_simp; done) | (go_simp; with_reducible rfl)
  case hq38 => intro _ _ _ h; exact h
  try simp only [Act.put, List.setIfInBounds_toArray, List.set_cons_zero, List.set_cons_succ]
  refine wpAnyH_take (i := 40) (oi := ?oi40) (v := .agg #[.int .i64 12, .int .i64 256]) ?h40 (by kernel_rfl) (by kernel_rfl) (by kernel_rfl) ?hq40 (Or.inl ⟨?hw40, ?hy40⟩) hHeld ?rest40
  case h40 => simp only [List.getElem?_toArray, List.getElem?_cons_succ, List.getElem?_cons_zero]; rfl
  case hw40 => rfl
  case hy40 => intro w1 hSw; (try dsimp only at hSw); have q0 := x13a _ hSw; have q1 := x13b _ hSw; clear x14a x14b x13a x13b x12a x12b x11a x11b x10a x10b x9a x9b x8a x8b x7a x7b x6a x6b x5a x5b x4a x4b x3a x3b x2a x2b x1a x1b; first | (go_simp; done) | (go_simp; with_reducible rfl)
  case hq40 => intro _ _ _ h; exact h
  try simp only [Act.put, List.setIfInBounds_toArray, List.set_cons_zero, List.set_cons_succ]
  refine wpAnyH_take (i := 43) (oi := ?oi43) (v := .agg #[.int .i64 21, .int .i64 0]) ?h43 (by kernel_rfl) (by kernel_rfl) (by kernel_rfl) ?hq43 (Or.inl ⟨?hw43, ?hy43⟩) hHeld ?rest43
  case h43 => simp only [List.getElem?_toArray, List.getElem?_cons_succ, List.getElem?_cons_zero]; rfl
  case hw43 => rfl
  case hy43 => intro w1 hSw; (try dsimp only at hSw); have q0 := x11a _ hSw; have q1 := x11b _ hSw; clear x14a x14b x13a x13b x12a x12b x11a x11b x10a x10b x9a x9b x8a x8b x7a x7b x6a x6b x5a x5b x4a x4b x3a x3b x2a x2b x1a x1b; first | (go_simp; done) | (go_simp; with_reducible rfl)
  case hq43 => intro _ _ _ h; exact h
  try simp only [Act.put, List.setIfInBounds_toArray, List.set_cons_zero, List.set_cons_succ]
  refine wpAnyH_take (i := 45) (oi := ?oi45) (v := .agg #[.int .i64 12, .int .i64 256]) ?h45 (by kernel_rfl) (by kernel_rfl) (by kernel_rfl) ?hq45 (Or.inl ⟨?hw45, ?hy45⟩) hHeld ?rest45
  case h45 => simp only [List.getElem?_toArray, List.getElem?_cons_succ, List.getElem?_cons_zero]; rfl
  case hw45 => rfl
  case hy45 => intro w1 hSw; (try dsimp only at hSw); have q0 := x13a _ hSw; have q1 := x13b _ hSw; clear x14a x14b x13a x13b x12a x12b x11a x11b x10a x10b x9a x9b x8a x8b x7a x7b x6a x6b x5a x5b x4a x4b x3a x3b x2a x2b x1a x1b; first | (go_simp; done) | (go_simp; with_reducible rfl)
  case hq45 => intro _ _ _ h; exact h
  try simp only [Act.put, List.setIfInBounds_toArray, List.set_cons_zero, List.set_cons_succ]
  refine wpAnyH_take (i := 46) (oi := ?oi46) (v := .agg #[.int .i64 5, .int .i64 0]) ?h46 (by kernel_rfl) (by kernel_rfl) (by kernel_rfl) ?hq46 (Or.inl ⟨?hw46, ?hy46⟩) hHeld ?rest46
  case h46 => simp only [List.getElem?_toArray, List.getElem?_cons_succ, List.getElem?_cons_zero]; rfl
  case hw46 => rfl
  case hy46 => intro w1 hSw; (try dsimp only at hSw); have q0 := x2a _ hSw; have q1 := x2b _ hSw; clear x14a x14b x13a x13b x12a x12b x11a x11b x10a x10b x9a x9b x8a x8b x7a x7b x6a x6b x5a x5b x4a x4b x3a x3b x2a x2b x1a x1b; first | (go_simp; done) | (go_simp; with_reducible rfl)
  case hq46 => intro _ _ _ h; exact h
  try simp only [Act.put, List.setIfInBounds_toArray, List.set_cons_zero, List.set_cons_succ]
  refine wpAnyH_take (i := 47) (oi := ?oi47) (v := .agg #[.int .i64 17, .int .i64 128]) ?h47 (by kernel_rfl) (by kernel_rfl) (by kernel_rfl) ?hq47 (Or.inl ⟨?hw47, ?hy47⟩) hHeld ?rest47
  case h47 => simp only [List.getElem?_toArray, List.getElem?_cons_succ, List.getElem?_cons_zero]; rfl
  case hw47 => rfl
  case hy47 => intro w1 hSw; (try dsimp only at hSw); have q0 := x7a _ hSw; have q1 := x7b _ hSw; clear x14a x14b x13a x13b x12a x12b x11a x11b x10a x10b x9a x9b x8a x8b x7a x7b x6a x6b x5a x5b x4a x4b x3a x3b x2a x2b x1a x1b; first | (go_simp; done) | (go_simp; with_reducible rfl)
  case hq47 => intro _ _ _ h; exact h
  try simp only [Act.put, List.setIfInBounds_toArray, List.set_cons_zero, List.set_cons_succ]
  refine wpAnyH_take (i := 48) (oi := ?oi48) (v := .agg #[.int .i64 22, .int .i64 0]) ?h48 (by kernel_rfl) (by kernel_rfl) (by kernel_rfl) ?hq48 (Or.inl ⟨?hw48, ?hy48⟩) hHeld ?rest48
  case h48 => simp only [List.getElem?_toArray, List.getElem?_cons_succ, List.getElem?_cons_zero]; rfl
  case hw48 => rfl
  case hy48 => intro w1 hSw; (try dsimp only at hSw); have q0 := x12a _ hSw; have q1 := x12b _ hSw; clear x14a x14b x13a x13b x12a x12b x11a x11b x10a x10b x9a x9b x8a x8b x7a x7b x6a x6b x5a x5b x4a x4b x3a x3b x2a x2b x1a x1b; first | (go_simp; done) | (go_simp; with_reducible rfl)
  case hq48 => intro _ _ _ h; exact h
  try simp only [Act.put, List.setIfInBounds_toArray, List.set_cons_zero, List.set_cons_succ]
  refine wpAnyH_take (i := 52) (oi := ?oi52) (v := .agg #[.int .i64 17, .int .i64 256]) ?h52 (by kernel_rfl) (by kernel_rfl) (by kernel_rfl) ?hq52 (Or.inl ⟨?hw52, ?hy52⟩) hHeld ?rest52
  case h52 => simp only [List.getElem?_toArray, List.getElem?_cons_succ, List.getElem?_cons_zero]; rfl
  case hw52 => rfl
  case hy52 => intro w1 hSw; (try dsimp only at hSw); have q0 := x8a _ hSw; have q1 := x8b _ hSw; clear x14a x14b x13a x13b x12a x12b x11a x11b x10a x10b x9a x9b x8a x8b x7a x7b x6a x6b x5a x5b x4a x4b x3a x3b x2a x2b x1a x1b; first | (go_simp; done) | (go_simp; with_reducible rfl)
  case hq52 => intro _ _ _ h; exact h
  try simp only [Act.put, List.setIfInBounds_toArray, List.set_cons_zero, List.set_cons_succ]
  refine wpAnyH_take (i := 53) (oi := ?oi53) (v := .agg #[.int .i64 22, .int .i64 0]) ?h53 (by kernel_rfl) (by kernel_rfl) (by kernel_rfl) ?hq53 (Or.inl ⟨?hw53, ?hy53⟩) hHeld ?rest53
  case h53 => simp only [List.getElem?_toArray, List.getElem?_cons_succ, List.getElem?_cons_zero]; rfl
  case hw53 => rfl
  case hy53 => intro w1 hSw; (try dsimp only at hSw); have q0 := x12a _ hSw; have q1 := x12b _ hSw; clear x14a x14b x13a x13b x12a x12b x11a x11b x10a x10b x9a x9b x8a x8b x7a x7b x6a x6b x5a x5b x4a x4b x3a x3b x2a x2b x1a x1b; first | (go_simp; done) | (go_simp; with_reducible rfl)
  case hq53 => intro _ _ _ h; exact h
  try simp only [Act.put, List.setIfInBounds_toArray, List.set_cons_zero, List.set_cons_succ]
  refine wpAnyH_take (i := 55) (oi := ?oi55) (v := .agg #[.int .i64 12, .int .i64 256]) ?h55 (by kernel_rfl) (by kernel_rfl) (by kernel_rfl) ?hq55 (Or.inl ⟨?hw55, ?hy55⟩) hHeld ?rest55
  case h55 => simp only [List.getElem?_toArray, List.getElem?_cons_succ, List.getElem?_cons_zero]; rfl
  case hw55 => rfl
  case hy55 => intro w1 hSw; (try dsimp only at hSw); have q0 := x13a _ hSw; have q1 := x13b _ hSw; clear x14a x14b x13a x13b x12a x12b x11a x11b x10a x10b x9a x9b x8a x8b x7a x7b x6a x6b x5a x5b x4a x4b x3a x3b x2a x2b x1a x1b; first | (go_simp; done) | (go_simp; with_reducible rfl)
  case hq55 => intro _ _ _ h; exact h
  try simp only [Act.put, List.setIfInBounds_toArray, List.set_cons_zero, List.set_cons_succ]
  refine wpAnyH_take (i := 56) (oi := ?oi56) (v := .agg #[.int .i64 5, .int .i64 0]) ?h56 (by kernel_rfl) (by kernel_rfl) (by kernel_rfl) ?hq56 (Or.inl ⟨?hw56, ?hy56⟩) hHeld ?rest56
  case h56 => simp only [List.getElem?_toArray, List.getElem?_cons_succ, List.getElem?_cons_zero]; rfl
  case hw56 => rfl
  case hy56 => intro w1 hSw; (try dsimp only at hSw); have q0 := x2a _ hSw; have q1 := x2b _ hSw; clear x14a x14b x13a x13b x12a x12b x11a x11b x10a x10b x9a x9b x8a x8b x7a x7b x6a x6b x5a x5b x4a x4b x3a x3b x2a x2b x1a x1b; first | (go_simp; done) | (go_simp; with_reducible rfl)
  case hq56 => intro _ _ _ h; exact h
  try simp only [Act.put, List.setIfInBounds_toArray, List.set_cons_zero, List.set_cons_succ]
  refine wpAnyH_take (i := 57) (oi := ?oi57) (v := .agg #[.int .i64 18, .int .i64 0]) ?h57 (by kernel_rfl) (by kernel_rfl) (by kernel_rfl) ?hq57 (Or.inl ⟨?hw57, ?hy57⟩) hHeld ?rest57
  case h57 => simp only [List.getElem?_toArray, List.getElem?_cons_succ, List.getElem?_cons_zero]; rfl
  case hw57 => rfl
  case hy57 => intro w1 hSw; (try dsimp only at hSw); have q0 := x14a _ hSw; have q1 := x14b _ hSw; clear x14a x14b x13a x13b x12a x12b x11a x11b x10a x10b x9a x9b x8a x8b x7a x7b x6a x6b x5a x5b x4a x4b x3a x3b x2a x2b x1a x1b; first | (go_simp; done) | (go_simp; with_reducible rfl)
  case hq57 => intro _ _ _ h; exact h
  try simp only [Act.put, List.setIfInBounds_toArray, List.set_cons_zero, List.set_cons_succ]
  refine wpAnyH_take (i := 58) (oi := ?oi58) (v := .agg #[.int .i64 22, .int .i64 0]) ?h58 (by kernel_rfl) (by kernel_rfl) (by kernel_rfl) ?hq58 (Or.inl ⟨?hw58, ?hy58⟩) hHeld ?rest58
  case h58 => simp only [List.getElem?_toArray, List.getElem?_cons_succ, List.getElem?_cons_zero]; rfl
  case hw58 => rfl
  case hy58 => intro w1 hSw; (try dsimp only at hSw); have q0 := x12a _ hSw; have q1 := x12b _ hSw; clear x14a x14b x13a x13b x12a x12b x11a x11b x10a x10b x9a x9b x8a x8b x7a x7b x6a x6b x5a x5b x4a x4b x3a x3b x2a x2b x1a x1b; first | (go_simp; done) | (go_simp; with_reducible rfl)
  case hq58 => intro _ _ _ h; exact h
  try simp only [Act.put, List.setIfInBounds_toArray, List.set_cons_zero, List.set_cons_succ]
  refine wpAnyH_take (i := 60) (oi := ?oi60) (v := .agg #[.int .i64 10, .int .i64 0]) ?h60 (by kernel_rfl) (by kernel_rfl) (by kernel_rfl) ?hq60 (Or.inl ⟨?hw60, ?hy60⟩) hHeld ?rest60
  case h60 => simp only [List.getElem?_toArray, List.getElem?_cons_succ, List.getElem?_cons_zero]; rfl
  case hw60 => rfl
  case hy60 => intro w1 hSw; (try dsimp only at hSw); have q0 := x1a _ hSw; have q1 := x1b _ hSw; clear x14a x14b x13a x13b x12a x12b x11a x11b x10a x10b x9a x9b x8a x8b x7a x7b x6a x6b x5a x5b x4a x4b x3a x3b x2a x2b x1a x1b; first | (go_simp; done) | (go_simp; with_reducible rfl)
  case hq60 => intro _ _ _ h; exact h
  try simp only [Act.put, List.setIfInBounds_toArray, List.set_cons_zero, List.set_cons_succ]
  refine wpAnyH_take (i := 61) (oi := ?oi61) (v := .agg #[.int .i64 5, .int .i64 0]) ?h61 (by kernel_rfl) (by kernel_rfl) (by kernel_rfl) ?hq61 (Or.inl ⟨?hw61, ?hy61⟩) hHeld ?rest61
  case h61 => simp only [List.getElem?_toArray, List.getElem?_cons_succ, List.getElem?_cons_zero]; rfl
  case hw61 => rfl
  case hy61 => intro w1 hSw; (try dsimp only at hSw); have q0 := x2a _ hSw; have q1 := x2b _ hSw; clear x14a x14b x13a x13b x12a x12b x11a x11b x10a x10b x9a x9b x8a x8b x7a x7b x6a x6b x5a x5b x4a x4b x3a x3b x2a x2b x1a x1b; first | (go_simp; done) | (go_simp; with_reducible rfl)
  case hq61 => intro _ _ _ h; exact h
  try simp only [Act.put, List.setIfInBounds_toArray, List.set_cons_zero, List.set_cons_succ]
  refine wpAnyH_take (i := 62) (oi := ?oi62) (v := .agg #[.int .i64 17, .int .i64 256]) ?h62 (by kernel_rfl) (by kernel_rfl) (by kernel_rfl) ?hq62 (Or.inl ⟨?hw62, ?hy62⟩) hHeld ?rest62
  case h62 => simp only [List.getElem?_toArray, List.getElem?_cons_succ, List.getElem?_cons_zero]; rfl
  case hw62 => rfl
  case hy62 => intro w1 hSw; (try dsimp only at hSw); have q0 := x8a _ hSw; have q1 := x8b _ hSw; clear x14a x14b x13a x13b x12a x12b x11a x11b x10a x10b x9a x9b x8a x8b x7a x7b x6a x6b x5a x5b x4a x4b x3a x3b x2a x2b x1a x1b; first | (go_simp; done) | (go_simp; with_reducible rfl)
  case hq62 => intro _ _ _ h; exact h
  try simp only [Act.put, List.setIfInBounds_toArray, List.set_cons_zero, List.set_cons_succ]
  refine wpAnyH_take (i := 63) (oi := ?oi63) (v := .agg #[.int .i64 22, .int .i64 0]) ?h63 (by kernel_rfl) (by kernel_rfl) (by kernel_rfl) ?hq63 (Or.inl ⟨?hw63, ?hy63⟩) hHeld ?rest63
  case h63 => simp only [List.getElem?_toArray, List.getElem?_cons_succ, List.getElem?_cons_zero]; rfl
  case hw63 => rfl
  case hy63 => intro w1 hSw; (try dsimp only at hSw); have q0 := x12a _ hSw; have q1 := x12b _ hSw; clear x14a x14b x13a x13b x12a x12b x11a x11b x10a x10b x9a x9b x8a x8b x7a x7b x6a x6b x5a x5b x4a x4b x3a x3b x2a x2b x1a x1b; first | (go_simp; done) | (go_simp; with_reducible rfl)
  case hq63 => intro _ _ _ h; exact h
  try simp only [Act.put, List.setIfInBounds_toArray, List.set_cons_zero, List.set_cons_succ]
  refine wpAnyH_take (i := 65) (oi := ?oi65) (v := .agg #[.int .i64 12, .int .i64 256]) ?h65 (by kernel_rfl) (by kernel_rfl) (by kernel_rfl) ?hq65 (Or.inl ⟨?hw65, ?hy65⟩) hHeld ?rest65
  case h65 => simp only [List.getElem?_toArray, List.getElem?_cons_succ, List.getElem?_cons_zero]; rfl
  case hw65 => rfl
  case hy65 => intro w1 hSw; (try dsimp only at hSw); have q0 := x13a _ hSw; have q1 := x13b _ hSw; clear x14a x14b x13a x13b x12a x12b x11a x11b x10a x10b x9a x9b x8a x8b x7a x7b x6a x6b x5a x5b x4a x4b x3a x3b x2a x2b x1a x1b; first | (go_simp; done) | (go_simp; with_reducible rfl)
  case hq65 => intro _ _ _ h; exact h
  try simp only [Act.put, List.setIfInBounds_toArray, List.set_cons_zero, List.set_cons_succ]
  refine wpAnyH_take (i := 66) (oi := ?oi66) (v := .agg #[.int .i64 0, .int .i64 0]) ?h66 (by kernel_rfl) (by kernel_rfl) (by kernel_rfl) ?hq66 (Or.inl ⟨?hw66, ?hy66⟩) hHeld ?rest66
  case h66 => simp only [List.getElem?_toArray, List.getElem?_cons_succ, List.getElem?_cons_zero]; rfl
  case hw66 => rfl
  case hy66 => intro w1 hSw; (try dsimp only at hSw); have q0 := x3a _ hSw; have q1 := x3b _ hSw; clear x14a x14b x13a x13b x12a x12b x11a x11b x10a x10b x9a x9b x8a x8b x7a x7b x6a x6b x5a x5b x4a x4b x3a x3b x2a x2b x1a x1b; first | (go_simp; done) | (go_simp; with_reducible rfl)
  case hq66 => intro _ _ _ h; exact h
  try simp only [Act.put, List.setIfInBounds_toArray, List.set_cons_zero, List.set_cons_succ]
  refine wpAnyH_take (i := 67) (oi := ?oi67) (v := .agg #[.int .i64 17, .int .i64 128]) ?h67 (by kernel_rfl) (by kernel_rfl) (by kernel_rfl) ?hq67 (Or.inl ⟨?hw67, ?hy67⟩) hHeld ?rest67
  case h67 => simp only [List.getElem?_toArray, List.getElem?_cons_succ, List.getElem?_cons_zero]; rfl
  case hw67 => rfl
  case hy67 => intro w1 hSw; (try dsimp only at hSw); have q0 := x7a _ hSw; have q1 := x7b _ hSw; clear x14a x14b x13a x13b x12a x12b x11a x11b x10a x10b x9a x9b x8a x8b x7a x7b x6a x6b x5a x5b x4a x4b x3a x3b x2a x2b x1a x1b; first | (go_simp; done) | (go_simp; with_reducible rfl)
  case hq67 => intro _ _ _ h; exact h
  try simp only [Act.put, List.setIfInBounds_toArray, List.set_cons_zero, List.set_cons_succ]
  refine wpAnyH_take (i := 68) (oi := ?oi68) (v := .agg #[.int .i64 22, .int .i64 0]) ?h68 (by kernel_rfl) (by kernel_rfl) (by kernel_rfl) ?hq68 (Or.inl ⟨?hw68, ?hy68⟩) hHeld ?rest68
  case h68 => simp only [List.getElem?_toArray, List.getElem?_cons_succ, List.getElem?_cons_zero]; rfl
  case hw68 => rfl
  case hy68 => intro w1 hSw; (try dsimp only at hSw); have q0 := x12a _ hSw; have q1 := x12b _ hSw; clear x14a x14b x13a x13b x12a x12b x11a x11b x10a x10b x9a x9b x8a x8b x7a x7b x6a x6b x5a x5b x4a x4b x3a x3b x2a x2b x1a x1b; first | (go_simp; done) | (go_simp; with_reducible rfl)
  case hq68 => intro _ _ _ h; exact h
  try simp only [Act.put, List.setIfInBounds_toArray, List.set_cons_zero, List.set_cons_succ]
  refine wpAnyH_take (i := 70) (oi := ?oi70) (v := .agg #[.int .i64 12, .int .i64 256]) ?h70 (by kernel_rfl) (by kernel_rfl) (by kernel_rfl) ?hq70 (Or.inl ⟨?hw70, ?hy70⟩) hHeld ?rest70
  case h70 => simp only [List.getElem?_toArray, List.getElem?_cons_succ, List.getElem?_cons_zero]; rfl
  case hw70 => rfl
  case hy70 => intro w1 hSw; (try dsimp only at hSw); have q0 := x13a _ hSw; have q1 := x13b _ hSw; clear x14a x14b x13a x13b x12a x12b x11a x11b x10a x10b x9a x9b x8a x8b x7a x7b x6a x6b x5a x5b x4a x4b x3a x3b x2a x2b x1a x1b; first | (go_simp; done) | (go_simp; with_reducible rfl)
  case hq70 => intro _ _ _ h; exact h
  try simp only [Act.put, List.setIfInBounds_toArray, List.set_cons_zero, List.set_cons_succ]
  refine wpAnyH_take (i := 71) (oi := ?oi71) (v := .agg #[.int .i64 0, .int .i64 0]) ?h71 (by kernel_rfl) (by kernel_rfl) (by kernel_rfl) ?hq71 (Or.inl ⟨?hw71, ?hy71⟩) hHeld ?rest71
  case h71 => simp only [List.getElem?_toArray, List.getElem?_cons_succ, List.getElem?_cons_zero]; rfl
  case hw71 => rfl
  case hy71 => intro w1 hSw; (try dsimp only at hSw); have q0 := x3a _ hSw; have q1 := x3b _ hSw; clear x14a x14b x13a x13b x12a x12b x11a x11b x10a x10b x9a x9b x8a x8b x7a x7b x6a x6b x5a x5b x4a x4b x3a x3b x2a x2b x1a x1b; first | (go_simp; done) | (go_simp; with_reducible rfl)
  case hq71 => intro _ _ _ h; exact h
  try simp only [Act.put, List.setIfInBounds_toArray, List.set_cons_zero, List.set_cons_succ]
  refine wpAnyH_take (i := 72) (oi := ?oi72) (v := .agg #[.int .i64 18, .int .i64 0]) ?h72 (by kernel_rfl) (by kernel_rfl) (by kernel_rfl) ?hq72 (Or.inl ⟨?hw72, ?hy72⟩) hHeld ?rest72
  case h72 => simp only [List.getElem?_toArray, List.getElem?_cons_succ, List.getElem?_cons_zero]; rfl
  case hw72 => rfl
  case hy72 => intro w1 hSw; (try dsimp only at hSw); have q0 := x14a _ hSw; have q1 := x14b _ hSw; clear x14a x14b x13a x13b x12a x12b x11a x11b x10a x10b x9a x9b x8a x8b x7a x7b x6a x6b x5a x5b x4a x4b x3a x3b x2a x2b x1a x1b; first | (go_simp; done) | (go_simp; with_reducible rfl)
  case hq72 => intro _ _ _ h; exact h
  try simp only [Act.put, List.setIfInBounds_toArray, List.set_cons_zero, List.set_cons_succ]
  refine wpAnyH_take (i := 73) (oi := ?oi73) (v := .agg #[.int .i64 22, .int .i64 0]) ?h73 (by kernel_rfl) (by kernel_rfl) (by kernel_rfl) ?hq73 (Or.inl ⟨?hw73, ?hy73⟩) hHeld ?rest73
  case h73 => simp only [List.getElem?_toArray, List.getElem?_cons_succ, List.getElem?_cons_zero]; rfl
  case hw73 => rfl
  case hy73 => intro w1 hSw; (try dsimp only at hSw); have q0 := x12a _ hSw; have q1 := x12b _ hSw; clear x14a x14b x13a x13b x12a x12b x11a x11b x10a x10b x9a x9b x8a x8b x7a x7b x6a x6b x5a x5b x4a x4b x3a x3b x2a x2b x1a x1b; first | (go_simp; done) | (go_simp; with_reducible rfl)
  case hq73 => intro _ _ _ h; exact h
  try simp only [Act.put, List.setIfInBounds_toArray, List.set_cons_zero, List.set_cons_succ]
  refine wpAnyH_take (i := 76) (oi := ?oi76) (v := .agg #[.int .i64 0, .int .i64 0]) ?h76 (by kernel_rfl) (by kernel_rfl) (by kernel_rfl) ?hq76 (Or.inl ⟨?hw76, ?hy76⟩) hHeld ?rest76
  case h76 => simp only [List.getElem?_toArray, List.getElem?_cons_succ, List.getElem?_cons_zero]; rfl
  case hw76 => rfl
  case hy76 => intro w1 hSw; (try dsimp only at hSw); have q0 := x3a _ hSw; have q1 := x3b _ hSw; clear x14a x14b x13a x13b x12a x12b x11a x11b x10a x10b x9a x9b x8a x8b x7a x7b x6a x6b x5a x5b x4a x4b x3a x3b x2a x2b x1a x1b; first | (go_simp; done) | (go_simp; with_reducible rfl)
  case hq76 => intro _ _ _ h; exact h
  try simp only [Act.put, List.setIfInBounds_toArray, List.set_cons_zero, List.set_cons_succ]
  refine wpAnyH_take (i := 77) (oi := ?oi77) (v := .agg #[.int .i64 17, .int .i64 256]) ?h77 (by kernel_rfl) (by kernel_rfl) (by kernel_rfl) ?hq77 (Or.inl ⟨?hw77, ?hy77⟩) hHeld ?rest77
  case h77 => simp only [List.getElem?_toArray, List.getElem?_cons_succ, List.getElem?_cons_zero]; rfl
  case hw77 => rfl
  case hy77 => intro w1 hSw; (try dsimp only at hSw); have q0 := x8a _ hSw; have q1 := x8b _ hSw; clear x14a x14b x13a x13b x12a x12b x11a x11b x10a x10b x9a x9b x8a x8b x7a x7b x6a x6b x5a x5b x4a x4b x3a x3b x2a x2b x1a x1b; first | (go_simp; done) | (go_simp; with_reducible rfl)
  case hq77 => intro _ _ _ h; exact h
  try simp only [Act.put, List.setIfInBounds_toArray, List.set_cons_zero, List.set_cons_succ]
  refine wpAnyH_take (i := 78) (oi := ?oi78) (v := .agg #[.int .i64 22, .int .i64 0]) ?h78 (by kernel_rfl) (by kernel_rfl) (by kernel_rfl) ?hq78 (Or.inl ⟨?hw78, ?hy78⟩) hHeld ?rest78
  case h78 => simp only [List.getElem?_toArray, List.getElem?_cons_succ, List.getElem?_cons_zero]; rfl
  case hw78 => rfl
  case hy78 => intro w1 hSw; (try dsimp only at hSw); have q0 := x12a _ hSw; have q1 := x12b _ hSw; clear x14a x14b x13a x13b x12a x12b x11a x11b x10a x10b x9a x9b x8a x8b x7a x7b x6a x6b x5a x5b x4a x4b x3a x3b x2a x2b x1a x1b; first | (go_simp; done) | (go_simp; with_reducible rfl)
  case hq78 => intro _ _ _ h; exact h
  try simp only [Act.put, List.setIfInBounds_toArray, List.set_cons_zero, List.set_cons_succ]
  clear x14a x14b x13a x13b x12a x12b x11a x11b x10a x10b x9a x9b x8a x8b x7a x7b x6a x6b x5a x5b x4a x4b x3a x3b x2a x2b x1a x1b
  refine wpAnyH_ready (rs := [4]) (by kernel_rfl) (by simp) ?_
  refine AllReadyH.cons (o := ?o4) ?h4 (fun K hK => ?step4) ?more4
  case h4 => simp only [List.getElem?_toArray, List.getElem?_cons_succ, List.getElem?_cons_zero]; rfl
  case more4 => exact AllReadyH.nil
  go_simp
  refine (s70r_1 hRB).mono ?_; rintro e w4 ⟨rfl, hR⟩
  refine hK.out _ _ hR (fun hHeld2 => ?_)
  clear hHeld hK K hRB; have hHeld := hHeld2; have hRB := hR; clear hHeld2 hR
  try simp only [Act.put, List.setIfInBounds_toArray, List.set_cons_zero, List.set_cons_succ]
  refine wpAnyH_ready (rs := [9]) (by kernel_rfl) (by simp) ?_
  refine AllReadyH.cons (o := ?o9) ?h9 (fun K hK => ?step9) ?more9
  case h9 => simp only [List.getElem?_toArray, List.getElem?_cons_succ, List.getElem?_cons_zero]; rfl
  case more9 => exact AllReadyH.nil
  go_simp
  refine (s70r_2 hRB).mono ?_; rintro e w9 ⟨rfl, hR⟩
  refine hK.out _ _ hR (fun hHeld2 => ?_)
  clear hHeld hK K hRB; have hHeld := hHeld2; have hRB := hR; clear hHeld2 hR
  try simp only [Act.put, List.setIfInBounds_toArray, List.set_cons_zero, List.set_cons_succ]
  refine wpAnyH_ready (rs := [14]) (by kernel_rfl) (by simp) ?_
  refine AllReadyH.cons (o := ?o14) ?h14 (fun K hK => ?step14) ?more14
  case h14 => simp only [List.getElem?_toArray, List.getElem?_cons_succ, List.getElem?_cons_zero]; rfl
  case more14 => exact AllReadyH.nil
  go_simp
  refine (s70r_3 hRB).mono ?_; rintro e w14 ⟨rfl, hR⟩
  refine hK.out _ _ hR (fun hHeld2 => ?_)
  clear hHeld hK K hRB; have hHeld := hHeld2; have hRB := hR; clear hHeld2 hR
  try simp only [Act.put, List.setIfInBounds_toArray, List.set_cons_zero, List.set_cons_succ]
  refine wpAnyH_ready (rs := [15]) (by kernel_rfl) (by simp) ?_
  refine AllReadyH.cons (o := ?o15) ?h15 (fun K hK => ?step15) ?more15
  case h15 => simp only [List.getElem?_toArray, List.getElem?_cons_succ, List.getElem?_cons_zero]; rfl
  case more15 => exact AllReadyH.nil
  go_simp
  refine (use69_rb hRB).mono ?_; rintro e w15 ⟨rfl, hR⟩
  refine hK.out _ _ hR (fun hHeld2 => ?_)
  clear hHeld hK K hRB; have hHeld := hHeld2; have hRB := hR; clear hHeld2 hR
  try simp only [Act.put, List.setIfInBounds_toArray, List.set_cons_zero, List.set_cons_succ]
  refine wpAnyH_ready (rs := [16]) (by kernel_rfl) (by simp) ?_
  refine AllReadyH.cons (o := ?o16) ?h16 (fun K hK => ?step16) ?more16
  case h16 => simp only [List.getElem?_toArray, List.getElem?_cons_succ, List.getElem?_cons_zero]; rfl
  case more16 => exact AllReadyH.nil
  go_simp
  refine (use69_rb hRB).mono ?_; rintro e w16 ⟨rfl, hR⟩
  refine hK.out _ _ hR (fun hHeld2 => ?_)
  clear hHeld hK K hRB; have hHeld := hHeld2; have hRB := hR; clear hHeld2 hR
  try simp only [Act.put, List.setIfInBounds_toArray, List.set_cons_zero, List.set_cons_succ]
  refine wpAnyH_ready (rs := [19]) (by kernel_rfl) (by simp) ?_
  refine AllReadyH.cons (o := ?o19) ?h19 (fun K hK => ?step19) ?more19
  case h19 => simp only [List.getElem?_toArray, List.getElem?_cons_succ, List.getElem?_cons_zero]; rfl
  case more19 => exact AllReadyH.nil
  go_simp
  refine (s70r_4 hRB).mono ?_; rintro e w19 ⟨rfl, hR⟩
  refine hK.out _ _ hR (fun hHeld2 => ?_)
  clear hHeld hK K hRB; have hHeld := hHeld2; have hRB := hR; clear hHeld2 hR
  try simp only [Act.put, List.setIfInBounds_toArray, List.set_cons_zero, List.set_cons_succ]
  refine wpAnyH_ready (rs := [20]) (by kernel_rfl) (by simp) ?_
  refine AllReadyH.cons (o := ?o20) ?h20 (fun K hK => ?step20) ?more20
  case h20 => simp only [List.getElem?_toArray, List.getElem?_cons_succ, List.getElem?_cons_zero]; rfl
  case more20 => exact AllReadyH.nil
  go_simp
  refine (use69_rb hRB).mono ?_; rintro e w20 ⟨rfl, hR⟩
  refine hK.out _ _ hR (fun hHeld2 => ?_)
  clear hHeld hK K hRB; have hHeld := hHeld2; have hRB := hR; clear hHeld2 hR
  try simp only [Act.put, List.setIfInBounds_toArray, List.set_cons_zero, List.set_cons_succ]
  refine wpAnyH_ready (rs := [24]) (by kernel_rfl) (by simp) ?_
  refine AllReadyH.cons (o := ?o24) ?h24 (fun K hK => ?step24) ?more24
  case h24 => simp only [List.getElem?_toArray, List.getElem?_cons_succ, List.getElem?_cons_zero]; rfl
  case more24 => exact AllReadyH.nil
  go_simp
  refine (s70r_5 hRB).mono ?_; rintro e w24 ⟨rfl, hR⟩
  refine hK.out _ _ hR (fun hHeld2 => ?_)
  clear hHeld hK K hRB; have hHeld := hHeld2; have hRB := hR; clear hHeld2 hR
  try simp only [Act.put, List.setIfInBounds_toArray, List.set_cons_zero, List.set_cons_succ]
  refine wpAnyH_ready (rs := [29]) (by kernel_rfl) (by simp) ?_
  refine AllReadyH.cons (o := ?o29) ?h29 (fun K hK => ?step29) ?more29
  case h29 => simp only [List.getElem?_toArray, List.getElem?_cons_succ, List.getElem?_cons_zero]; rfl
  case more29 => exact AllReadyH.nil
  go_simp
  refine (s70r_6 hRB).mono ?_; rintro e w29 ⟨rfl, hR⟩
  refine hK.out _ _ hR (fun hHeld2 => ?_)
  clear hHeld hK K hRB; have hHeld := hHeld2; have hRB := hR; clear hHeld2 hR
  try simp only [Act.put, List.setIfInBounds_toArray, List.set_cons_zero, List.set_cons_succ]
  refine wpAnyH_ready (rs := [30]) (by kernel_rfl) (by simp) ?_
  refine AllReadyH.cons (o := ?o30) ?h30 (fun K hK => ?step30) ?more30
  case h30 => simp only [List.getElem?_toArray, List.getElem?_cons_succ, List.getElem?_cons_zero]; rfl
  case more30 => exact AllReadyH.nil
  go_simp
  refine (use69_rb hRB).mono ?_; rintro e w30 ⟨rfl, hR⟩
  refine hK.out _ _ hR (fun hHeld2 => ?_)
  clear hHeld hK K hRB; have hHeld := hHeld2; have hRB := hR; clear hHeld2 hR
  try simp only [Act.put, List.setIfInBounds_toArray, List.set_cons_zero, List.set_cons_succ]
  refine wpAnyH_ready (rs := [34]) (by kernel_rfl) (by simp) ?_
  refine AllReadyH.cons (o := ?o34) ?h34 (fun K hK => ?step34) ?more34
  case h34 => simp only [List.getElem?_toArray, List.getElem?_cons_succ, List.getElem?_cons_zero]; rfl
  case more34 => exact AllReadyH.nil
  go_simp
  refine (s70r_7 hRB).mono ?_; rintro e w34 ⟨rfl, hR⟩
  refine hK.out _ _ hR (fun hHeld2 => ?_)
  clear hHeld hK K hRB; have hHeld := hHeld2; have hRB := hR; clear hHeld2 hR
  try simp only [Act.put, List.setIfInBounds_toArray, List.set_cons_zero, List.set_cons_succ]
  refine wpAnyH_ready (rs := [39]) (by kernel_rfl) (by simp) ?_
  refine AllReadyH.cons (o := ?o39) ?h39 (fun K hK => ?step39) ?more39
  case h39 => simp only [List.getElem?_toArray, List.getElem?_cons_succ, List.getElem?_cons_zero]; rfl
  case more39 => exact AllReadyH.nil
  go_simp
  refine (s70r_8 hRB).mono ?_; rintro e w39 ⟨rfl, hR⟩
  refine hK.out _ _ hR (fun hHeld2 => ?_)
  clear hHeld hK K hRB; have hHeld := hHeld2; have hRB := hR; clear hHeld2 hR
  try simp only [Act.put, List.setIfInBounds_toArray, List.set_cons_zero, List.set_cons_succ]
  refine wpAnyH_ready (rs := [41]) (by kernel_rfl) (by simp) ?_
  refine AllReadyH.cons (o := ?o41) ?h41 (fun K hK => ?step41) ?more41
  case h41 => simp only [List.getElem?_toArray, List.getElem?_cons_succ, List.getElem?_cons_zero]; rfl
  case more41 => exact AllReadyH.nil
  go_simp
  refine (use69_rb hRB).mono ?_; rintro e w41 ⟨rfl, hR⟩
  refine hK.out _ _ hR (fun hHeld2 => ?_)
  clear hHeld hK K hRB; have hHeld := hHeld2; have hRB := hR; clear hHeld2 hR
  try simp only [Act.put, List.setIfInBounds_toArray, List.set_cons_zero, List.set_cons_succ]
  refine wpAnyH_ready (rs := [42]) (by kernel_rfl) (by simp) ?_
  refine AllReadyH.cons (o := ?o42) ?h42 (fun K hK => ?step42) ?more42
  case h42 => simp only [List.getElem?_toArray, List.getElem?_cons_succ, List.getElem?_cons_zero]; rfl
  case more42 => exact AllReadyH.nil
  go_simp
  refine (use69_rb hRB).mono ?_; rintro e w42 ⟨rfl, hR⟩
  refine hK.out _ _ hR (fun hHeld2 => ?_)
  clear hHeld hK K hRB; have hHeld := hHeld2; have hRB := hR; clear hHeld2 hR
  try simp only [Act.put, List.setIfInBounds_toArray, List.set_cons_zero, List.set_cons_succ]
  refine wpAnyH_ready (rs := [44]) (by kernel_rfl) (by simp) ?_
  refine AllReadyH.cons (o := ?o44) ?h44 (fun K hK => ?step44) ?more44
  case h44 => simp only [List.getElem?_toArray, List.getElem?_cons_succ, List.getElem?_cons_zero]; rfl
  case more44 => exact AllReadyH.nil
  go_simp
  refine (s70r_9 hRB).mono ?_; rintro e w44 ⟨rfl, hR⟩
  refine hK.out _ _ hR (fun hHeld2 => ?_)
  clear hHeld hK K hRB; have hHeld := hHeld2; have hRB := hR; clear hHeld2 hR
  try simp only [Act.put, List.setIfInBounds_toArray, List.set_cons_zero, List.set_cons_succ]
  refine wpAnyH_ready (rs := [49]) (by kernel_rfl) (by simp) ?_
  refine AllReadyH.cons (o := ?o49) ?h49 (fun K hK => ?step49) ?more49
  case h49 => simp only [List.getElem?_toArray, List.getElem?_cons_succ, List.getElem?_cons_zero]; rfl
  case more49 => exact AllReadyH.nil
  go_simp
  refine (s70r_10 hRB).mono ?_; rintro e w49 ⟨rfl, hR⟩
  refine hK.out _ _ hR (fun hHeld2 => ?_)
  clear hHeld hK K hRB; have hHeld := hHeld2; have hRB := hR; clear hHeld2 hR
  try simp only [Act.put, List.setIfInBounds_toArray, List.set_cons_zero, List.set_cons_succ]
  refine wpAnyH_ready (rs := [50]) (by kernel_rfl) (by simp) ?_
  refine AllReadyH.cons (o := ?o50) ?h50 (fun K hK => ?step50) ?more50
  case h50 => simp only [List.getElem?_toArray, List.getElem?_cons_succ, List.getElem?_cons_zero]; rfl
  case more50 => exact AllReadyH.nil
  go_simp
  refine (use69_rb hRB).mono ?_; rintro e w50 ⟨rfl, hR⟩
  refine hK.out _ _ hR (fun hHeld2 => ?_)
  clear hHeld hK K hRB; have hHeld := hHeld2; have hRB := hR; clear hHeld2 hR
  try simp only [Act.put, List.setIfInBounds_toArray, List.set_cons_zero, List.set_cons_succ]
  refine wpAnyH_ready (rs := [51]) (by kernel_rfl) (by simp) ?_
  refine AllReadyH.cons (o := ?o51) ?h51 (fun K hK => ?step51) ?more51
  case h51 => simp only [List.getElem?_toArray, List.getElem?_cons_succ, List.getElem?_cons_zero]; rfl
  case more51 => exact AllReadyH.nil
  go_simp
  refine (use69_rb hRB).mono ?_; rintro e w51 ⟨rfl, hR⟩
  refine hK.out _ _ hR (fun hHeld2 => ?_)
  clear hHeld hK K hRB; have hHeld := hHeld2; have hRB := hR; clear hHeld2 hR
  try simp only [Act.put, List.setIfInBounds_toArray, List.set_cons_zero, List.set_cons_succ]
  refine wpAnyH_ready (rs := [54]) (by kernel_rfl) (by simp) ?_
  refine AllReadyH.cons (o := ?o54) ?h54 (fun K hK => ?step54) ?more54
  case h54 => simp only [List.getElem?_toArray, List.getElem?_cons_succ, List.getElem?_cons_zero]; rfl
  case more54 => exact AllReadyH.nil
  go_simp
  refine (s70r_11 hRB).mono ?_; rintro e w54 ⟨rfl, hR⟩
  refine hK.out _ _ hR (fun hHeld2 => ?_)
  clear hHeld hK K hRB; have hHeld := hHeld2; have hRB := hR; clear hHeld2 hR
  try simp only [Act.put, List.setIfInBounds_toArray, List.set_cons_zero, List.set_cons_succ]
  refine wpAnyH_ready (rs := [59]) (by kernel_rfl) (by simp) ?_
  refine AllReadyH.cons (o := ?o59) ?h59 (fun K hK => ?step59) ?more59
  case h59 => simp only [List.getElem?_toArray, List.getElem?_cons_succ, List.getElem?_cons_zero]; rfl
  case more59 => exact AllReadyH.nil
  go_simp
  refine (s70r_12 hRB).mono ?_; rintro e w59 ⟨rfl, hR⟩
  refine hK.out _ _ hR (fun hHeld2 => ?_)
  clear hHeld hK K hRB; have hHeld := hHeld2; have hRB := hR; clear hHeld2 hR
  try simp only [Act.put, List.setIfInBounds_toArray, List.set_cons_zero, List.set_cons_succ]
  refine wpAnyH_ready (rs := [64]) (by kernel_rfl) (by simp) ?_
  refine AllReadyH.cons (o := ?o64) ?h64 (fun K hK => ?step64) ?more64
  case h64 => simp only [List.getElem?_toArray, List.getElem?_cons_succ, List.getElem?_cons_zero]; rfl
  case more64 => exact AllReadyH.nil
  go_simp
  refine (s70r_13 hRB).mono ?_; rintro e w64 ⟨rfl, hR⟩
  refine hK.out _ _ hR (fun hHeld2 => ?_)
  clear hHeld hK K hRB; have hHeld := hHeld2; have hRB := hR; clear hHeld2 hR
  try simp only [Act.put, List.setIfInBounds_toArray, List.set_cons_zero, List.set_cons_succ]
  refine wpAnyH_ready (rs := [69]) (by kernel_rfl) (by simp) ?_
  refine AllReadyH.cons (o := ?o69) ?h69 (fun K hK => ?step69) ?more69
  case h69 => simp only [List.getElem?_toArray, List.getElem?_cons_succ, List.getElem?_cons_zero]; rfl
  case more69 => exact AllReadyH.nil
  go_simp
  refine (s70r_14 hRB).mono ?_; rintro e w69 ⟨rfl, hR⟩
  refine hK.out _ _ hR (fun hHeld2 => ?_)
  clear hHeld hK K hRB; have hHeld := hHeld2; have hRB := hR; clear hHeld2 hR
  try simp only [Act.put, List.setIfInBounds_toArray, List.set_cons_zero, List.set_cons_succ]
  refine wpAnyH_ready (rs := [74]) (by kernel_rfl) (by simp) ?_
  refine AllReadyH.cons (o := ?o74) ?h74 (fun K hK => ?step74) ?more74
  case h74 => simp only [List.getElem?_toArray, List.getElem?_cons_succ, List.getElem?_cons_zero]; rfl
  case more74 => exact AllReadyH.nil
  go_simp
  refine (s70r_15 hRB).mono ?_; rintro e w74 ⟨rfl, hR⟩
  refine hK.out _ _ hR (fun hHeld2 => ?_)
  clear hHeld hK K hRB; have hHeld := hHeld2; have hRB := hR; clear hHeld2 hR
  try simp only [Act.put, List.setIfInBounds_toArray, List.set_cons_zero, List.set_cons_succ]
  refine wpAnyH_ready (rs := [75]) (by kernel_rfl) (by simp) ?_
  refine AllReadyH.cons (o := ?o75) ?h75 (fun K hK => ?step75) ?more75
  case h75 => simp only [List.getElem?_toArray, List.getElem?_cons_succ, List.getElem?_cons_zero]; rfl
  case more75 => exact AllReadyH.nil
  go_simp
  refine (use69_rb hRB).mono ?_; rintro e w75 ⟨rfl, hR⟩
  refine hK.out _ _ hR (fun hHeld2 => ?_)
  clear hHeld hK K hRB; have hHeld := hHeld2; have hRB := hR; clear hHeld2 hR
  try simp only [Act.put, List.setIfInBounds_toArray, List.set_cons_zero, List.set_cons_succ]
  refine wpAnyH_ready (rs := [79]) (by kernel_rfl) (by simp) ?_
  refine AllReadyH.cons (o := ?o79) ?h79 (fun K hK => ?step79) ?more79
  case h79 => simp only [List.getElem?_toArray, List.getElem?_cons_succ, List.getElem?_cons_zero]; rfl
  case more79 => exact AllReadyH.nil
  go_simp
  refine (s70r_16 hRB).mono ?_; rintro e w79 ⟨rfl, hR⟩
  refine hK.out _ _ hR (fun hHeld2 => ?_)
  clear hHeld hK K hRB; have hHeld := hHeld2; have hRB := hR; clear hHeld2 hR
  try simp only [Act.put, List.setIfInBounds_toArray, List.set_cons_zero, List.set_cons_succ]
  refine wpAnyH_ready (rs := [80]) (by kernel_rfl) (by simp) ?_
  refine AllReadyH.cons (o := ?o80) ?h80 (fun K hK => ?step80) ?more80
  case h80 => simp only [List.getElem?_toArray, List.getElem?_cons_succ, List.getElem?_cons_zero]; rfl
  case more80 => exact AllReadyH.nil
  rw [if_pos (by rfl)]
  refine wp_buildSlice 47 29 16 _ rfl (suitesC 16).toArray i0 (.agg stZ.toArray) Tryd.underlying47 HI.out HZ0.out (by rw [HZ1.out]; decide) (by rw [HZ1.out]; decide) ?hf80 ?_
  case hf80 => rw [HZ1.out]; show _ = _; kernel_rfl
  have hRB2 := hRB.step ((Below.refl _ _).alloc (Nat.le_refl _) (.cells (suitesC 16).toArray 29))
  refine hK.out _ _ hRB2 (fun hHeld2 => ?_)
  clear hHeld hK K; have hHeld := hHeld2; clear hHeld2
  try simp only [Act.put, List.setIfInBounds_toArray, List.set_cons_zero, List.set_cons_succ]
  refine wpAnyH_ready (rs := [81]) (by kernel_rfl) (by simp) ?_
  refine AllReadyH.cons (o := ?o81) ?h81 (fun K hK => ?step81) ?more81
  case h81 => simp only [List.getElem?_toArray, List.getElem?_cons_succ, List.getElem?_cons_zero]; rfl
  case more81 => exact AllReadyH.nil
  go_simp
  refine hK.out _ _ hRB2 (fun hHeld2 => ?_)
  clear hHeld hK K hHeld2
  try simp only [Act.put, List.setIfInBounds_toArray, List.set_cons_zero, List.set_cons_succ]
  refine wpAnyH_done (by kernel_rfl) ?_ _
  have HRB := Lib.hid hRB; have HRB2 := Lib.hid hRB2; clear hRB hRB2
  go_wp2_with fail
  go_ret
  exact ⟨_, rfl, heap_alloc_new _ _, HRB.out.2.size, HRB2.out.2⟩
end Go.Proofs.YtdhochjcigingaaDoor
