/- move.Decision. -/
import Derived.Test.YtogcpjkgliijmaaDice
import Derived.Deep.RegionHeld3
namespace Go.Proofs.Ytogcpjkgliijmaa
open Go.RowKit

/-- What stays while dice are thrown: two fields of the box B, the zero value in the next block. -/
structure Thr (W0 W : World) (g B : Nat) (x0 x1 : Int) : Prop where
  dice : DiceAt W g
  grown : W0.grownBy W (some g)
  c0 : W.cell? ⟨B, 0, none⟩ = some (.int .i64 x0)
  c1 : W.cell? ⟨B, 1, none⟩ = some (.int .i64 x1)
  res : W.heap[B + 1]? = some (.cells #[.int .i64 0, .int .i64 0, .int .i64 0, .int .i64 0, .int .i64 0] 27 (0, 0))
  lt : g < B

theorem Thr.drew {W0 W : World} {g B : Nat} {x0 x1 : Int} (h : Thr W0 W g B x0 x1) : Thr W0 W.drew g B x0 x1 := ⟨h.dice, ⟨h.grown.os, h.grown.tape, h.grown.output, h.grown.size, h.grown.block⟩, h.c0, h.c1, h.res, h.lt⟩

theorem lt_of_heap {W : World} {k : Nat} {o : Obj} (h : W.heap[k]? = some o) : k < W.heap.size := by
  rcases Nat.lt_or_ge k W.heap.size with hl | hl
  · exact hl
  · rw [Array.getElem?_eq_none hl] at h; cases h

def Threw2 (W0 : World) (g B : Nat) (x0 x1 m : Int) (e : Ending) (w' : World) : Prop :=
  ∃ r : Int, e = .returned (.int .i64 r) ∧ 0 ≤ r ∧ r < m ∧ Thr W0 w' g B x0 x1

theorem next_thr (W0 W : World) (g B : Nat) (x0 x1 m : Int) (hm : 1 ≤ m) (hm2 : m ≤ 1000000) (h : Thr W0 W g B x0 x1) :
    Calls Try.prog 37 #[.pointer (some ⟨g, 0, none⟩), .int .i64 m] W (Threw2 W0 g B x0 x1 m) := by
  refine (next_any W g m hm hm2 h.dice).mono ?_
  rintro e w' ⟨r, he, h0, h1, hd, hg⟩
  have hlt := h.lt
  have hB : B + 1 < W.heap.size := lt_of_heap h.res
  exact ⟨r, he, h0, h1, hd, h.grown.trans hg, hg.cell h.c0 (by simp; omega), hg.cell h.c1 (by simp; omega), (hg.block _ hB (by simp; omega)).trans h.res, hlt⟩

theorem Thr.cells {W0 W : World} {g B : Nat} {x0 x1 : Int} (h : Thr W0 W g B x0 x1) :
    (W.cell? ⟨B + 1, 0, none⟩ = some (.int .i64 0) ∧ W.cell? ⟨B + 1, 1, none⟩ = some (.int .i64 0) ∧ W.cell? ⟨B + 1, 2, none⟩ = some (.int .i64 0) ∧ W.cell? ⟨B + 1, 3, none⟩ = some (.int .i64 0) ∧ W.cell? ⟨B + 1, 4, none⟩ = some (.int .i64 0)) ∧
    ∀ j, W.frozen? ⟨B + 1, j, none⟩ = false := by
  have hr := h.res
  refine ⟨⟨?_, ?_, ?_, ?_, ?_⟩, fun j => by simp [World.frozen?, hr]⟩
  all_goals rw [cell_of_row W (B + 1) _ _ 27 (0, 0) hr]; rfl

/-- What Decision answers. -/
def Decided (w : World) (g : Nat) (x0 x1 : Int) (e : Ending) (w' : World) : Prop :=
  ∃ d : Dec, e = .returned d.val ∧ (x0 ≤ d.day ∧ d.day ≤ x0 + 2) ∧ (x1 ≤ d.known ∧ d.known ≤ x1 + 1) ∧ (1 ≤ d.kind ∧ d.kind ≤ 5) ∧ (0 ≤ d.subj ∧ d.subj ≤ 2) ∧ (0 ≤ d.value ∧ d.value ≤ 1) ∧ DiceAt w' g ∧ w.grownBy w' (some g)

/-- The block of the result, with its five values. -/
def resW (w : World) (b : Nat) (a0 a1 a2 a3 a4 : Int) : World :=
  ((((w.setCell ⟨b, 0, none⟩ (.int .i64 a0)).setCell ⟨b, 1, none⟩ (.int .i64 a1)).setCell ⟨b, 2, none⟩ (.int .i64 a2)).setCell ⟨b, 3, none⟩ (.int .i64 a3)).setCell ⟨b, 4, none⟩ (.int .i64 a4)

theorem resW_heap {w : World} {b : Nat} {z : Value} (a0 a1 a2 a3 a4 : Int) (h : w.heap[b]? = some (.cells #[z, z, z, z, z] 27 (0, 0))) :
    (resW w b a0 a1 a2 a3 a4).heap[b]? = some (.cells #[.int .i64 a0, .int .i64 a1, .int .i64 a2, .int .i64 a3, .int .i64 a4] 27 (0, 0)) := by
  unfold resW
  have h1 := heap_setCell_same w b 0 _ _ (.int .i64 a0) h
  have h2 := heap_setCell_same _ b 1 _ _ (.int .i64 a1) h1
  have h3 := heap_setCell_same _ b 2 _ _ (.int .i64 a2) h2
  have h4 := heap_setCell_same _ b 3 _ _ (.int .i64 a3) h3
  have h5 := heap_setCell_same _ b 4 _ _ (.int .i64 a4) h4
  rw [h5]; rfl

theorem resW_block {w : World} {b : Nat} (a0 a1 a2 a3 a4 : Int) (k : Nat) (hk : k ≠ b) : (resW w b a0 a1 a2 a3 a4).heap[k]? = w.heap[k]? := by
  unfold resW
  rw [heap_setCell_other _ _ _ _ hk, heap_setCell_other _ _ _ _ hk, heap_setCell_other _ _ _ _ hk, heap_setCell_other _ _ _ _ hk, heap_setCell_other _ _ _ _ hk]

theorem resW_size {w : World} {b : Nat} (a0 a1 a2 a3 a4 : Int) : (resW w b a0 a1 a2 a3 a4).heap.size = w.heap.size := by simp [resW, World.setCell]

theorem grown_set_new {a w : World} {g b : Nat} (h : a.grownBy w (some g)) (hb : a.heap.size ≤ b) (o : Nat) (v : Value) : a.grownBy (w.setCell ⟨b, o, none⟩ v) (some g) :=
  ⟨h.os, h.tape, h.output, by simpa [World.setCell] using h.size, fun k hk hne => (heap_setCell_other w ⟨b, o, none⟩ k v (by simp only; omega)).trans (h.block k hk hne)⟩

theorem resW_grown {w w' : World} {g b : Nat} (a0 a1 a2 a3 a4 : Int) (h : w.grownBy w' (some g)) (hb : w.heap.size ≤ b) : w.grownBy (resW w' b a0 a1 a2 a3 a4) (some g) :=
  grown_set_new (grown_set_new (grown_set_new (grown_set_new (grown_set_new h hb _ _) hb _ _) hb _ _) hb _ _) hb _ _

theorem resW_dice {w' : World} {g b : Nat} (a0 a1 a2 a3 a4 : Int) (h : DiceAt w' g) (hb : g < b) : DiceAt (resW w' b a0 a1 a2 a3 a4) g := by
  obtain ⟨p, n, c, k, h, h1, h2, h3⟩ := h
  refine ⟨p, n, c, k, (resW_block a0 a1 a2 a3 a4 g (by omega)).trans h, h1, h2, h3.keep fun b' o v hb' hv => ?_⟩
  rw [World.cell?_of_block (a := ⟨b', o, none⟩) (resW_block a0 a1 a2 a3 a4 b' (by omega))]; exact hv

theorem res_run {W : World} {b : Nat} {a0 a1 a2 a3 a4 : Int} {a : Act} (hh : W.heap[b]? = some (.cells #[.int .i64 a0, .int .i64 a1, .int .i64 a2, .int .i64 a3, .int .i64 a4] 27 (0, 0))) (ht : a.tmps.getD 4 undef = .pointer (some ⟨b, 0, none⟩)) :
    (results Try.f17 a.tmps).run Try.prog W = .ok (.agg #[.int .i64 a0, .int .i64 a1, .int .i64 a2, .int .i64 a3, .int .i64 a4]) W := by
  have e0 := cell_of_row _ b 0 _ _ _ hh
  have e1 := cell_of_row _ b 1 _ _ _ hh
  have e2 := cell_of_row _ b 2 _ _ _ hh
  have e3 := cell_of_row _ b 3 _ _ _ hh
  have e4 := cell_of_row _ b 4 _ _ _ hh
  simp at e0 e1 e2 e3 e4 ht
  clear hh
  simp [results, Try.results17, go_sem, ht, e0, e1, e2, e3, e4]

theorem decided_fin {w w' : World} {g B : Nat} {x0 x1 r1 r2 r3 r4 r5 : Int} {a : Act} (hT : Thr w w' g B x0 x1) (hB : w.heap.size ≤ B)
    (b1 : 0 ≤ r1) (b1' : r1 < 3) (b2 : 0 ≤ r2) (b2' : r2 < 2) (b3 : 0 ≤ r3) (b3' : r3 < 5) (b4 : 0 ≤ r4) (b4' : r4 < 3) (b5 : 0 ≤ r5) (b5' : r5 < 2) (ht : a.tmps.getD 4 undef = .pointer (some ⟨B + 1, 0, none⟩)) (hd : a.defers = []) :
    bodyPost Try.prog Try.f17 (Decided w g x0 x1) .ret a (resW w' (B + 1) (x0 + r1) (x1 + r2) (1 + r3) r4 r5) := by
  refine bodyPost_ret (res_run (resW_heap (x0 + r1) (x1 + r2) (1 + r3) r4 r5 hT.res) ht) hd ?_
  refine ⟨⟨x0 + r1, x1 + r2, 1 + r3, r4, r5⟩, rfl, ⟨?_, ?_⟩, ⟨?_, ?_⟩, ⟨?_, ?_⟩, ⟨?_, ?_⟩, ⟨?_, ?_⟩, resW_dice _ _ _ _ _ hT.dice (by have := hT.lt; omega), resW_grown _ _ _ _ _ hT.grown (by omega)⟩
  all_goals simp only
  all_goals omega

set_option maxHeartbeats 4000000 in
theorem decision_any (w : World) (g : Nat) (d : Dec) (h : DiceAt w g) (h0 : 0 ≤ d.day ∧ d.day ≤ 30000) (h1 : 0 ≤ d.known ∧ d.known ≤ 30000) :
    Calls Try.prog 17 #[.pointer (some ⟨g, 0, none⟩), d.val] w (Decided w g d.day d.known) := by
  have hlt := h.lt
  obtain ⟨B, hB⟩ : ∃ B, B = w.heap.size := ⟨_, rfl⟩
  have hT : Thr w ((w.alloc (.cells #[.int .i64 d.day, .int .i64 d.known, .int .i64 d.kind, .int .i64 d.subj, .int .i64 d.value] 27)).alloc (.cells #[.int .i64 0, .int .i64 0, .int .i64 0, .int .i64 0, .int .i64 0] 27)) g B d.day d.known := by
    subst hB
    refine ⟨(h.below ((Below.refl _ _).alloc (Nat.le_refl _) _)).below ((Below.refl _ _).alloc (Nat.le_refl _) _), ?_, by simp, by simp, heap_alloc2_new w _ _, hlt⟩
    exact (World.grownBy_alloc _ _ _).trans (World.grownBy_alloc _ _ _)
  unfold Dec.val
  go_enter Try.func17, Try.ntmps17
  go_wp2_with fail
  rw [← hB]
  generalize ((w.alloc (.cells #[.int .i64 d.day, .int .i64 d.known, .int .i64 d.kind, .int .i64 d.subj, .int .i64 d.value] 27)).alloc (.cells #[.int .i64 0, .int .i64 0, .int .i64 0, .int .i64 0, .int .i64 0] 27)) = W at *
  have hTd := hT.drew
  have hBw : w.heap.size ≤ B := by omega
  clear hB h
  have k0 : W.drew.cell? ⟨B, 0, none⟩ = some (.int .i64 d.day) := hT.c0
  have k1 : W.drew.cell? ⟨B, 1, none⟩ = some (.int .i64 d.known) := hT.c1
  go_region_held3 (fun W => W.cell? ⟨B, 0, none⟩ = some (.int .i64 d.day) ∧ W.cell? ⟨B, 1, none⟩ = some (.int .i64 d.known)) (go_keep)
    (first | (go_at_call 37; refine (next_thr w _ g B d.day d.known _ (by omega) (by omega) (by assumption)).mono ?_; rintro e w' ⟨r, rfl, hr0, hr1, hT'⟩; have hc0 := hT'.c0; have hc1 := hT'.c1; obtain ⟨⟨y0, y1, y2, y3, y4⟩, yf⟩ := hT'.cells; have hq1 : IntKind.i64.wrap (d.day + r) = d.day + r := IntWalk.i64_in (d.day + r) (by omega); have hq2 : IntKind.i64.wrap (d.known + r) = d.known + r := IntWalk.i64_in (d.known + r) (by omega); have hq3 : IntKind.i64.wrap (1 + r) = 1 + r := IntWalk.i64_in (1 + r) (by omega)))
  go_wp2_with fail
  exact decided_fin (by assumption) hBw (by omega) (by omega) (by omega) (by omega) (by omega) (by omega) (by omega) (by omega) (by omega) (by omega) rfl rfl
end Go.Proofs.Ytogcpjkgliijmaa
