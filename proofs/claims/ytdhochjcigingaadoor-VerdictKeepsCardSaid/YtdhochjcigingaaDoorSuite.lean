/- catalog.suite and use.whole. -/
import Derived.Test.YtdhochjcigingaaDoorParse
namespace Go.Proofs.YtdhochjcigingaaDoor
open Go.RowKit
set_option linter.all false

def WholeP (a b : Int) (w : World) (e : Ending) (w' : World) : Prop := e = .returned (.agg #[.int .i64 a, .int .i64 b]) ∧ Below w.heap.size w w'
set_option maxHeartbeats 1000000 in
theorem whole_any (a b : Int) (ha0 : 0 ≤ a) (ha : a ≤ 255) (hb0 : 0 ≤ b) (hb : b ≤ 65535) (w : World) : Calls Tryd.prog 86 #[.agg #[.int .u8 a, .int .u16 b]] w (WholeP a b w) := by
  go_enter Tryd.func86, Tryd.ntmps86
  go_wp2_with fail
  refine bodyPost_ret (v := .agg #[.int .i64 a, .int .i64 b]) (by simp [results, Tryd.results86, go_sem]) rfl ⟨rfl, ?_⟩
  exact ((Below.refl _ _).alloc (Nat.le_refl _) _).alloc (by simp) _

/-- The cells of a suite. -/
def stC (code : Int) (r : SRow) : List Value := [.int .i64 code, .string ⟨r.name.toArray⟩, .int .i64 r.xa, .int .i64 r.xb, .int .i64 r.sign, .int .i64 0, .int .i64 r.ca, .int .i64 r.cb, .int .i64 r.mac, .int .i64 0, .int .i64 r.least, .int .i64 r.most]
def stZ : List Value := [.int .i64 0, .string ⟨#[]⟩, .int .i64 0, .int .i64 0, .int .i64 0, .int .i64 0, .int .i64 0, .int .i64 0, .int .i64 0, .int .i64 0, .int .i64 0, .int .i64 0]

/-- The numbers of a row fit. -/
def SRow.ok (r : SRow) : Prop := (0 ≤ r.xa ∧ r.xa ≤ 255) ∧ (0 ≤ r.xb ∧ r.xb ≤ 65535) ∧ (0 ≤ r.ca ∧ r.ca ≤ 255) ∧ (0 ≤ r.cb ∧ r.cb ≤ 65535) ∧ (0 ≤ r.sign ∧ r.sign ≤ 255) ∧ (0 ≤ r.mac ∧ r.mac ≤ 255) ∧ (0 ≤ r.least ∧ r.least ≤ 255) ∧ (0 ≤ r.most ∧ r.most ≤ 255)
instance (r : SRow) : Decidable r.ok := by unfold SRow.ok; infer_instance
theorem rowAt_ok : ∀ i, i < 17 → (rowAt i).ok := by decide +kernel

/-- suite's walk: the result's box and the row's. -/
structure SW (w : World) (R L : Nat) (r : SRow) (W : World) : Prop where
  res : W.heap[R]? = some (.cells stZ.toArray 29 (0, 0))
  loc : W.heap[L]? = some (.cells (rowCells r).toArray 98 (0, 0))
  below : Below w.heap.size w W
  ltR : R < W.heap.size
  ltL : L < W.heap.size
theorem SW.step {w : World} {R L : Nat} {r : SRow} {W W' : World} (h : SW w R L r W) (hb : Below W.heap.size W W') : SW w R L r W' :=
  ⟨(hb.block R h.ltR).trans h.res, (hb.block L h.ltL).trans h.loc, h.below.trans (hb.mono h.below.size), by have := h.ltR; have := hb.size; omega, by have := h.ltL; have := hb.size; omega⟩
theorem SW.drew {w : World} {R L : Nat} {r : SRow} {W : World} (h : SW w R L r W) : SW w R L r W.drew := h.step (Below.refl _ _).drew

def WholeS (w : World) (R L : Nat) (r : SRow) (a b : Int) (e : Ending) (w' : World) : Prop := e = .returned (.agg #[.int .i64 a, .int .i64 b]) ∧ SW w R L r w'
theorem whole_sw {w : World} {R L : Nat} {r : SRow} {W : World} (a b : Int) (ha0 : 0 ≤ a) (ha : a ≤ 255) (hb0 : 0 ≤ b) (hb : b ≤ 65535) (h : SW w R L r W) : Calls Tryd.prog 86 #[.agg #[.int .u8 a, .int .u16 b]] W (WholeS w R L r a b) :=
  (whole_any a b ha0 ha hb0 hb W).mono fun _ _ ⟨he, hk⟩ => ⟨he, h.step hk⟩

theorem SW.loads {w : World} {R L : Nat} {r : SRow} {W : World} (h : SW w R L r W) :
    W.cell? ⟨L, 0, none⟩ = some (.string ⟨r.name.toArray⟩) ∧ W.cell? ⟨L, 1, none⟩ = some (.int .u8 r.xa) ∧ W.cell? ⟨L, 2, none⟩ = some (.int .u16 r.xb) ∧ W.cell? ⟨L, 3, none⟩ = some (.int .u8 r.ca) ∧ W.cell? ⟨L, 4, none⟩ = some (.int .u16 r.cb) ∧
    W.cell? ⟨L, 5, none⟩ = some (.int .u8 r.sign) ∧ W.cell? ⟨L, 6, none⟩ = some (.int .u8 r.mac) ∧ W.cell? ⟨L, 7, none⟩ = some (.int .u8 r.least) ∧ W.cell? ⟨L, 8, none⟩ = some (.int .u8 r.most) := by
  have k := fun j => cell_of_row W L j _ _ _ h.loc
  refine ⟨?_, ?_, ?_, ?_, ?_, ?_, ?_, ?_, ?_⟩ <;> (rw [k]; rfl)

theorem SW.stores {w : World} {R L : Nat} {r : SRow} {W : World} (h : SW w R L r W) : (∀ j, W.frozen? ⟨R, j, none⟩ = false) ∧ (∀ j, W.cell? ⟨R, j, none⟩ = stZ[j]?) :=
  ⟨fun j => frozen_of_row W R j _ _ h.res, fun j => by rw [cell_of_row W R j _ _ _ h.res]; simp⟩

theorem SW.stores2 {w : World} {R L : Nat} {r : SRow} {W : World} (h : SW w R L r W) : (∀ j, W.frozen? ⟨R, j, none⟩ = false) ∧ W.cell? ⟨R, 0, none⟩ = some (.int .i64 0) ∧ W.cell? ⟨R, 1, none⟩ = some (.string ⟨#[]⟩) ∧ W.cell? ⟨R, 2, none⟩ = some (.int .i64 0) ∧ W.cell? ⟨R, 3, none⟩ = some (.int .i64 0) ∧ W.cell? ⟨R, 4, none⟩ = some (.int .i64 0) ∧ W.cell? ⟨R, 5, none⟩ = some (.int .i64 0) ∧
    W.cell? ⟨R, 6, none⟩ = some (.int .i64 0) ∧ W.cell? ⟨R, 7, none⟩ = some (.int .i64 0) ∧ W.cell? ⟨R, 8, none⟩ = some (.int .i64 0) ∧ W.cell? ⟨R, 9, none⟩ = some (.int .i64 0) ∧ W.cell? ⟨R, 10, none⟩ = some (.int .i64 0) ∧ W.cell? ⟨R, 11, none⟩ = some (.int .i64 0) := by
  have k := h.stores.2
  refine ⟨h.stores.1, ?_, ?_, ?_, ?_, ?_, ?_, ?_, ?_, ?_, ?_, ?_, ?_⟩ <;> (rw [k]; rfl)

def SuiteP (code : Int) (r : SRow) (w : World) (e : Ending) (w' : World) : Prop := e = .returned (.agg (stC code r).toArray) ∧ Below w.heap.size w w'

def set12 (W : World) (R : Nat) (l : List Value) : World :=
  ((((((((((((W.setCell ⟨R, 0, none⟩ (l.getD 0 undef)).setCell ⟨R, 1, none⟩ (l.getD 1 undef)).setCell ⟨R, 2, none⟩ (l.getD 2 undef)).setCell ⟨R, 3, none⟩ (l.getD 3 undef)).setCell ⟨R, 4, none⟩ (l.getD 4 undef)).setCell ⟨R, 5, none⟩ (l.getD 5 undef)).setCell ⟨R, 6, none⟩ (l.getD 6 undef)).setCell ⟨R, 7, none⟩ (l.getD 7 undef)).setCell ⟨R, 8, none⟩ (l.getD 8 undef)).setCell ⟨R, 9, none⟩ (l.getD 9 undef)).setCell ⟨R, 10, none⟩ (l.getD 10 undef)).setCell ⟨R, 11, none⟩ (l.getD 11 undef))

theorem set12_heap {W : World} {R : Nat} (code : Int) (r : SRow) (h : W.heap[R]? = some (.cells stZ.toArray 29 (0, 0))) : (set12 W R (stC code r)).heap[R]? = some (.cells (stC code r).toArray 29 (0, 0)) := by
  have h0 := heap_setCell_same W R 0 _ _ (.int .i64 code) h
  have h1 := heap_setCell_same _ R 1 _ _ (.string ⟨r.name.toArray⟩) h0
  have h2 := heap_setCell_same _ R 2 _ _ (.int .i64 r.xa) h1
  have h3 := heap_setCell_same _ R 3 _ _ (.int .i64 r.xb) h2
  have h4 := heap_setCell_same _ R 4 _ _ (.int .i64 r.sign) h3
  have h5 := heap_setCell_same _ R 5 _ _ (.int .i64 0) h4
  have h6 := heap_setCell_same _ R 6 _ _ (.int .i64 r.ca) h5
  have h7 := heap_setCell_same _ R 7 _ _ (.int .i64 r.cb) h6
  have h8 := heap_setCell_same _ R 8 _ _ (.int .i64 r.mac) h7
  have h9 := heap_setCell_same _ R 9 _ _ (.int .i64 0) h8
  have h10 := heap_setCell_same _ R 10 _ _ (.int .i64 r.least) h9
  have h11 := heap_setCell_same _ R 11 _ _ (.int .i64 r.most) h10
  exact h11.trans (by (show _ = _; kernel_rfl))
theorem set12_below {a W : World} {R B : Nat} (l : List Value) (h : Below B a W) (hR : B ≤ R) : Below B a (set12 W R l) := by
  unfold set12
  exact (((((((((((h.setCell hR _).setCell hR _).setCell hR _).setCell hR _).setCell hR _).setCell hR _).setCell hR _).setCell hR _).setCell hR _).setCell hR _).setCell hR _).setCell hR _

theorem suite_out {w : World} {R L : Nat} {r : SRow} {W : World} {code : Int} {x : Act} (h : SW w R L r W) (hR : w.heap.size ≤ R) (ht : x.tmps.getD 2 undef = .pointer (some ⟨R, 0, none⟩)) (hd : x.defers = []) :
    bodyPost Tryd.prog Tryd.f56 (SuiteP code r w) .ret x (set12 W R (stC code r)) := by
  have h2 := set12_heap code r h.res
  refine bodyPost_ret (v := .agg (stC code r).toArray) (results_cell_row Tryd.results56 x.tmps _ R 29 _ (0, 0) _ ht h2 Tryd.underlying29 rfl (by kernel_rfl)) hd ⟨rfl, set12_below _ h.below hR⟩

set_option maxRecDepth 100000 in
set_option maxHeartbeats 8000000 in
theorem suite_any {m : Int} (i : Nat) (hi : i < 17) (w : World) (h : Tabs m w) : Calls Tryd.prog 56 #[.int .i64 i] w (SuiteP i (rowAt i) w) := by
  have hok := rowAt_ok i hi
  have hrow := (h.alloc (.cells stZ.toArray 29)).row_at i hi
  have hS : SW w w.heap.size (w.heap.size + 1) (rowAt i) ((w.alloc (.cells stZ.toArray 29)).alloc (.cells (rowCells (rowAt i)).toArray 98)) :=
    ⟨by rw [heap_alloc2_old], by rw [heap_alloc2_new], ((Below.refl _ _).alloc (Nat.le_refl _) _).alloc (by simp) _, by simp; omega, by simp⟩
  generalize rowAt i = r at *
  obtain ⟨⟨a0, a1⟩, ⟨a2, a3⟩, ⟨a4, a5⟩, ⟨a6, a7⟩, ⟨a8, a9⟩, ⟨b0, b1⟩, ⟨b2, b3⟩, ⟨b4, b5⟩⟩ := hok
  have c0 := hrow 0 (by omega)
  have c1 := hrow 1 (by omega)
  have c2 := hrow 2 (by omega)
  have c3 := hrow 3 (by omega)
  have c4 := hrow 4 (by omega)
  have c5 := hrow 5 (by omega)
  have c6 := hrow 6 (by omega)
  have c7 := hrow 7 (by omega)
  have c8 := hrow 8 (by omega)
  simp only [rowCells, List.getElem?_cons_zero, List.getElem?_cons_succ, Nat.add_zero] at c0 c1 c2 c3 c4 c5 c6 c7 c8
  unfold stZ at c0 c1 c2 c3 c4 c5 c6 c7 c8
  unfold stZ rowCells at hS
  have hi0 : (0 : Int) ≤ (i : Int) := by omega
  have hi1 : (i : Int) < 17 := by omega
  have HS := Lib.hid hS
  clear hrow hS h
  go_enter Tryd.func56, Tryd.ntmps56
  go_wp2_with fail
  have hS := HS.out
  clear HS c0 c1 c2 c3 c4 c5 c6 c7 c8
  have hR0 : w.heap.size ≤ w.heap.size := Nat.le_refl _
  generalize ((w.alloc (.cells #[.int .i64 0, .string ⟨#[]⟩, .int .i64 0, .int .i64 0, .int .i64 0, .int .i64 0, .int .i64 0, .int .i64 0, .int .i64 0, .int .i64 0, .int .i64 0, .int .i64 0] 29)).alloc (.cells #[.string ⟨r.name.toArray⟩, .int .u8 r.xa, .int .u16 r.xb, .int .u8 r.ca, .int .u16 r.cb, .int .u8 r.sign, .int .u8 r.mac, .int .u8 r.least, .int .u8 r.most] 98)) = W at *
  generalize hR : w.heap.size = R at *
  have hSd := hS.drew
  obtain ⟨c0, c1, c2, c3, c4, c5, c6, c7, c8⟩ := hSd.loads
  clear hS
  have HR := Lib.hid hR
  clear hR
  have q1 : IntKind.i64.wrap r.sign = r.sign := IntWalk.i64_in _ (by omega)
  have q2 : IntKind.i64.wrap r.mac = r.mac := IntWalk.i64_in _ (by omega)
  have q3 : IntKind.i64.wrap r.least = r.least := IntWalk.i64_in _ (by omega)
  have q4 : IntKind.i64.wrap r.most = r.most := IntWalk.i64_in _ (by omega)
  go_region_held3 (fun W => W.cell? ⟨R + 1, 0, none⟩ = some (.string ⟨r.name.toArray⟩) ∧ W.cell? ⟨R + 1, 1, none⟩ = some (.int .u8 r.xa) ∧ W.cell? ⟨R + 1, 2, none⟩ = some (.int .u16 r.xb) ∧ W.cell? ⟨R + 1, 3, none⟩ = some (.int .u8 r.ca) ∧ W.cell? ⟨R + 1, 4, none⟩ = some (.int .u16 r.cb) ∧
    W.cell? ⟨R + 1, 5, none⟩ = some (.int .u8 r.sign) ∧ W.cell? ⟨R + 1, 6, none⟩ = some (.int .u8 r.mac) ∧ W.cell? ⟨R + 1, 7, none⟩ = some (.int .u8 r.least) ∧ W.cell? ⟨R + 1, 8, none⟩ = some (.int .u8 r.most)) (go_keep)
    ((go_at_call 86; refine (whole_sw _ _ (by assumption) (by assumption) (by assumption) (by assumption) (by assumption)).mono ?_; rintro e w' ⟨rfl, hS'⟩; obtain ⟨e0, e1, e2, e3, e4, e5, e6, e7, e8⟩ := hS'.loads; obtain ⟨fz, z0, z1, z2, z3, z4, z5, z6, z7, z8, z9, z10, z11⟩ := hS'.stores2))
  go_wp2_with fail
  exact suite_out (by assumption) (Nat.le_of_eq HR.out) rfl rfl
end Go.Proofs.YtdhochjcigingaaDoor
