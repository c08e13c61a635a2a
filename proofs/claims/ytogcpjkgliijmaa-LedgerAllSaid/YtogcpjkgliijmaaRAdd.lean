/- The reference's Add. -/
import Derived.Test.YtogcpjkgliijmaaRCopy
import Derived.Test.YtogcpjkgliijmaaReplay2
namespace Go.Proofs.Ytogcpjkgliijmaa
open Go.RowKit

structure RA (w W : World) (B C n : Nat) (p : Option Addr) (c : Nat) (v : Value) (l : List Dec) (d : Dec) : Prop where
  own : W.ownsRow (B + 5) 27 5 v l.length (flat l)
  b0 : W.heap[B]? = some (.cells #[.slice p n c] 25 (0, 0))
  b1 : W.heap[B + 1]? = some (.cells (cells5 d).toArray 27 (0, 0))
  b2 : W.heap[B + 1 + 1]? = some (.cells #[.slice none 0 0] 25 (0, 0))
  bc : W.heap[C]? = some (.cells #[v] 25 (0, 0))
  below : Below B w W
  eq : B = w.heap.size
  lc : B + 3 ≤ C

variable {w W : World} {B C n : Nat} {p : Option Addr} {c : Nat} {v : Value} {l : List Dec} {d : Dec}

theorem RA.size (h : RA w W B C n p c v l d) : B + 4 ≤ W.heap.size := by have := lt_of_heap h.bc; have := h.lc; omega

theorem RA.step {W' : World} (h : RA w W B C n p c v l d) (hb : Below W.heap.size W W') : RA w W' B C n p c v l d := by
  have hs := h.size
  exact ⟨own_below h.own hb, (hb.block _ (by omega)).trans h.b0, (hb.block _ (by omega)).trans h.b1, (hb.block _ (by omega)).trans h.b2, (hb.block _ (lt_of_heap h.bc)).trans h.bc, h.below.trans (hb.mono (by omega)), h.eq, h.lc⟩

theorem RA.neC (h : RA w W B C n p c v l d) : v.ownBlock ≠ some C := by
  intro e
  rcases h.own.2 with ⟨hv, _⟩ | ⟨q, cap, cur, hv, hq, hh, _⟩
  · rw [hv] at e; cases e
  · rw [hv] at e
    injection e with e
    subst e
    rw [h.bc] at hh
    injection hh with hh
    injection hh with _ hh
    exact absurd hh (by decide)

def RAddPost (w : World) (l : List Dec) (N : Int) (e : Ending) (w' : World) : Prop :=
  ∃ (p' : Option Addr) (c' : Nat), e = .returned (.tuple #[.agg #[.slice p' l.length c'], .int .i64 N]) ∧ Rd w' w.heap.size p' l ∧ (p' = none → c' = 0) ∧ l.length ≤ c' ∧ Below w.heap.size w w'

theorem res20_run {W : World} {b : Nat} {v : Value} {N : Int} {a : Act} (hh : W.heap[b]? = some (.cells #[v] 25 (0, 0))) (ht : a.tmps.getD 4 undef = .pointer (some ⟨b, 0, none⟩)) (ht5 : a.tmps.getD 5 undef = .int .i64 N) :
    (results Try.f20 a.tmps).run Try.prog W = .ok (.tuple #[.agg #[v], .int .i64 N]) W := by
  have e0 := cell_of_row _ b 0 _ _ _ hh
  simp at e0 ht ht5
  clear hh
  simp [results, Try.results20, go_sem, ht, ht5, e0]

theorem radd_fin {N : Int} {a : Act} (h : RA w W B C n p c v l d) (ht : a.tmps.getD 4 undef = .pointer (some ⟨B + 1 + 1, 0, none⟩)) (ht5 : a.tmps.getD 5 undef = .int .i64 N) (hd : a.defers = []) :
    bodyPost Try.prog Try.f20 (RAddPost w l N) .ret a (W.setCell ⟨B + 1 + 1, 0, none⟩ v) := by
  have hs := h.size; have he := h.eq
  have hr := heap_setCell_same W (B + 1 + 1) 0 _ _ v h.b2
  have hz : (W.setCell ⟨B + 1 + 1, 0, none⟩ v).heap.size = W.heap.size := by simp [World.setCell]
  refine bodyPost_ret (res20_run (v := v) (by rw [hr]; rfl) ht ht5) hd ?_
  have hbf : Below w.heap.size w (W.setCell ⟨B + 1 + 1, 0, none⟩ v) := by rw [← he]; exact h.below.setCell (by simp only; omega) _
  rcases h.own.2 with ⟨hv, h0⟩ | ⟨q, cap, cur, hv, hq, hh, hc, r⟩
  · have : l = [] := List.length_eq_zero_iff.1 h0
    subst this
    subst hv
    exact ⟨none, 0, rfl, .inl rfl, fun _ => rfl, Nat.le_refl _, hbf⟩
  · subst hv
    refine ⟨_, cap, rfl, .inr ⟨q, 0, rfl, by omega, by rw [hz]; exact lt_of_heap hh, ?_⟩, (fun e => by cases e), hc, hbf⟩
    exact (row_of_own (w := W) ⟨h.own.1, .inr ⟨q, cap, cur, rfl, hq, hh, hc, r⟩⟩).blk (heap_setCell_other W ⟨B + 1 + 1, 0, none⟩ q _ (by simp only; omega))

theorem RA.appended {W5 : World} {v' : Value} (h : RA w W B C n p c v l d) (ho : W5.ownsRow (B + 5) 27 5 v' (l.length + 1) (flat l ++ cells5 d)) (hg : (W.alloc (.cells (cells5 d).toArray 27)).grownBy W5 v.ownBlock) :
    RA w (W5.setCell ⟨C, 0, none⟩ v') B C n p c v' (l ++ [d]) d := by
  have hs := h.size; have hlc := h.lc; have hC := lt_of_heap h.bc
  have hg2 : W.grownBy W5 v.ownBlock := (World.grownBy_alloc W _ _).trans hg
  have hne : ∀ k, k < B + 5 → some k ≠ v.ownBlock := fun k hk e => by have := (h.own.lt k e.symm).1; omega
  have hb5 : ∀ k, k < B + 3 → W5.heap[k]? = W.heap[k]? := fun k hk => hg2.block k (by omega) (hne k (by omega))
  have hc5 : W5.heap[C]? = some (.cells #[v] 25 (0, 0)) := (hg2.block C hC (Ne.symm h.neC)).trans h.bc
  have hb6 : ∀ k, k ≠ C → (W5.setCell ⟨C, 0, none⟩ v').heap[k]? = W5.heap[k]? := fun k hk => heap_setCell_other W5 ⟨C, 0, none⟩ k v' hk
  refine ⟨?_, ?_, ?_, ?_, ?_, ?_, h.eq, h.lc⟩
  · rw [flat_snoc, List.length_append]
    refine ⟨ho.1, ?_⟩
    rcases ho.2 with hn | ⟨q, cap, cur, hv, hq, hh, r⟩
    · exact .inl hn
    · refine .inr ⟨q, cap, cur, hv, hq, (hb6 q (fun e => ?_)).trans hh, r⟩
      subst e
      rw [hc5] at hh
      injection hh with hh
      injection hh with _ hh
      exact absurd hh (by decide)
  · rw [hb6 _ (by omega), hb5 _ (by omega)]; exact h.b0
  · rw [hb6 _ (by omega), hb5 _ (by omega)]; exact h.b1
  · rw [hb6 _ (by omega), hb5 _ (by omega)]; exact h.b2
  · rw [heap_setCell_same W5 C 0 _ _ v' hc5]; rfl
  · refine ⟨hg2.os.trans h.below.os, hg2.tape.trans h.below.tape, hg2.output.trans h.below.output, ?_, fun k hk => ?_⟩
    · simp only [World.setCell, Array.size_modify]; exact Nat.le_trans h.below.size hg2.size
    · rw [hb6 k (by omega), hb5 k (by omega)]; exact h.below.block k hk

theorem RA.after {W5 : World} (h : RA w W B C n p c v l d) (hg : (W.alloc (.cells (cells5 d).toArray 27)).grownBy W5 v.ownBlock) :
    W5.cell? ⟨C, 0, none⟩ = some v ∧ W5.frozen? ⟨C, 0, none⟩ = false ∧ W5.cell? ⟨B + 1 + 1, 0, none⟩ = some (.slice none 0 0) ∧ W5.frozen? ⟨B + 1 + 1, 0, none⟩ = false := by
  have hg2 : W.grownBy W5 v.ownBlock := (World.grownBy_alloc W _ _).trans hg
  have hc5 : W5.heap[C]? = some (.cells #[v] 25 (0, 0)) := (hg2.block C (lt_of_heap h.bc) (Ne.symm h.neC)).trans h.bc
  have hs := h.size
  have h2 : W5.heap[B + 1 + 1]? = some (.cells #[.slice none 0 0] 25 (0, 0)) := (hg2.block (B + 1 + 1) (by omega) (fun e => by have := (h.own.lt _ e.symm).1; omega)).trans h.b2
  exact ⟨by rw [cell_of_row _ C 0 _ _ _ hc5]; rfl, by simp [World.frozen?, hc5], by rw [cell_of_row _ (B + 1 + 1) 0 _ _ _ h2]; rfl, by simp [World.frozen?, h2]⟩

set_option maxRecDepth 100000 in
set_option maxHeartbeats 8000000 in
theorem refadd_walk (w : World) {N : Int} {L : List Dec} {p : Option Addr} {c : Nat} (l : List Dec) (d : Dec) (hg : Good l) (hl : l.length ≤ 127) (hr : Reads w p l) (hnone : p = none → c = 0)
    (hN : Hid (N = addN l d)) (hL : Hid (L = addF l d)) :
    Calls Try.prog 20 #[.agg #[.slice p l.length c], d.val] w (RAddPost w L N) := by
  obtain ⟨i0, hi, hz0, hz1, hz2⟩ := info_parts info27
  obtain ⟨B, hB⟩ : ∃ B, B = w.heap.size := ⟨_, rfl⟩
  have hW0 : Below w.heap.size w (((w.alloc (.cells #[.slice p l.length c] 25)).alloc (.cells (cells5 d).toArray 27)).alloc (.cells #[.slice none 0 0] 25)) := (((Below.refl _ _).alloc (Nat.le_refl _) _).alloc (by simp) _).alloc (by simp; omega) _
  have k0 : (((w.alloc (.cells #[.slice p l.length c] 25)).alloc (.cells (cells5 d).toArray 27)).alloc (.cells #[.slice none 0 0] 25)).heap[B]? = some (.cells #[.slice p l.length c] 25 (0, 0)) := by
    rw [hB, heap_alloc_old _ _ (by simp; omega), heap_alloc_old _ _ (by simp)]; exact heap_alloc_new _ _
  have k1 : (((w.alloc (.cells #[.slice p l.length c] 25)).alloc (.cells (cells5 d).toArray 27)).alloc (.cells #[.slice none 0 0] 25)).heap[B + 1]? = some (.cells (cells5 d).toArray 27 (0, 0)) := by
    rw [hB, heap_alloc_old _ _ (by simp)]; exact heap_alloc2_new w _ _
  have k2 : (((w.alloc (.cells #[.slice p l.length c] 25)).alloc (.cells (cells5 d).toArray 27)).alloc (.cells #[.slice none 0 0] 25)).heap[B + 1 + 1]? = some (.cells #[.slice none 0 0] 25 (0, 0)) := by
    rw [hB, show w.heap.size + 1 + 1 = ((w.alloc (.cells #[.slice p l.length c] 25)).alloc (.cells (cells5 d).toArray 27)).heap.size by simp]; exact heap_alloc_new _ _
  have ksz : (((w.alloc (.cells #[.slice p l.length c] 25)).alloc (.cells (cells5 d).toArray 27)).alloc (.cells #[.slice none 0 0] 25)).heap.size = B + 3 := by rw [hB]; simp
  have hrW := hr.mono hW0
  have K := Lib.hid (And.intro k0 (And.intro k1 (And.intro k2 (And.intro ksz hW0)))); have HRW := Lib.hid hrW; have HB := Lib.hid hB; have HG := Lib.hid hg
  have q0 := cell_of_row _ B 0 _ _ _ k0
  simp at q0
  clear k0 k1 k2 ksz hW0 hrW hr hg
  unfold Dec.val
  go_enter Try.func20, Try.ntmps20
  go_upto_region 1 with (fail)
  rw [← hB]
  change Code.wp _ _ _ _ (((w.alloc (.cells #[.slice p l.length c] 25)).alloc (.cells (cells5 d).toArray 27)).alloc (.cells #[.slice none 0 0] 25))
  generalize ((w.alloc (.cells #[.slice p l.length c] 25)).alloc (.cells (cells5 d).toArray 27)).alloc (.cells #[.slice none 0 0] 25) = W0 at *
  clear hB
  have cC := refcopy_any W0 (p := p) (c := c) l HRW.out hnone (by omega)
  have CC := Lib.hid cC; clear cC
  go_wp2_with fail
  refine CC.out.mono ?_
  rintro e W1 ⟨v, rfl, hown, hb1⟩
  have hRA : RA w (W1.alloc (.cells #[v] 25)) B W1.heap.size l.length p c v l d := by
    obtain ⟨k0, k1, k2, ksz, hW0⟩ := K.out
    have hs1 := hb1.size
    rw [ksz] at hown hs1
    rw [← HB.out] at hW0
    refine ⟨hown.alloc _, ?_, ?_, ?_, heap_alloc_new _ _, (hW0.trans (hb1.mono (by omega))).alloc (by omega) _, HB.out, by omega⟩
    · rw [heap_alloc_old _ _ (by omega), hb1.block _ (by omega)]; exact k0
    · rw [heap_alloc_old _ _ (by omega), hb1.block _ (by omega)]; exact k1
    · rw [heap_alloc_old _ _ (by omega), hb1.block _ (by omega)]; exact k2
  obtain ⟨C, hC⟩ : ∃ C, C = W1.heap.size := ⟨_, rfl⟩
  rw [← hC] at hRA
  have hrd : Reads (W1.alloc (.cells #[v] 25)) p l := HRW.out.mono (hb1.alloc hb1.size _)
  obtain ⟨av, cv, rfl⟩ := own_form0 hown
  have HA := Lib.hid hRA; have HRD := Lib.hid hrd
  clear hRA hown hb1 K HRW CC q0 hrd
  dsimp only
  refine ‹∀ (a : Act) (w : World), wpList Try.prog _ _ _ a w → _› _ _ ?_
  go_upto_region 2 with (fail)
  rw [← hC]
  generalize W1.alloc (.cells #[.slice av l.length cv] 25) = W2 at *
  clear hC
  have q0 := cell_of_row _ B 0 _ _ _ HA.out.b0
  simp at q0
  have cK := refcheck_good W2 (p := p) (c := c) l HG.out (by omega) HRD.out
  have CK := Lib.hid cK; clear cK
  go_wp2_with fail
  refine CK.out.mono ?_
  rintro e W3 ⟨rfl, hb3⟩
  have hA3 := HA.out.step hb3
  have HA3 := Lib.hid hA3; have HRD3 := Lib.hid (HRD.out.mono hb3)
  have q0' := cell_of_row _ B 0 _ _ _ hA3.b0
  have d0 := cell_of_row _ (B + 1) 0 _ _ _ hA3.b1
  have d1 := cell_of_row _ (B + 1) 1 _ _ _ hA3.b1
  have d2 := cell_of_row _ (B + 1) 2 _ _ _ hA3.b1
  have d3 := cell_of_row _ (B + 1) 3 _ _ _ hA3.b1
  have d4 := cell_of_row _ (B + 1) 4 _ _ _ hA3.b1
  simp [cells5] at q0' d0 d1 d2 d3 d4
  have g1 : decide ((128 : Int) ≤ (l.length : Int)) = false := by rw [decide_eq_false_iff_not]; omega
  obtain ⟨qq, hqq⟩ : ∃ qq, qq = d.ok := ⟨_, rfl⟩
  have cV := fun W => refvalid_any d W (q := qq) hqq.symm
  unfold Dec.val at cV
  have CV := Lib.hid cV
  clear cV hA3 hb3 q0 HA HRD CK
  go_wp2_with fail
  refine (CV.out _).mono ?_
  rintro e W4 ⟨rfl, hb4⟩
  have hA4 := HA3.out.step hb4
  have HA4 := Lib.hid hA4; have HRD4 := Lib.hid (HRD3.out.mono hb4)
  have q0 := cell_of_row _ B 0 _ _ _ hA4.b0
  have c0 := cell_of_row _ C 0 _ _ _ hA4.bc
  have r0 := cell_of_row _ (B + 1 + 1) 0 _ _ _ hA4.b2
  have rf : W4.frozen? ⟨B + 1 + 1, 0, none⟩ = false := by simp [World.frozen?, hA4.b2]
  have x0 := cell_of_row _ (B + 1) 0 _ _ _ hA4.b1
  have x1 := cell_of_row _ (B + 1) 1 _ _ _ hA4.b1
  have x2 := cell_of_row _ (B + 1) 2 _ _ _ hA4.b1
  have x3 := cell_of_row _ (B + 1) 3 _ _ _ hA4.b1
  have x4 := cell_of_row _ (B + 1) 4 _ _ _ hA4.b1
  simp [cells5] at q0 c0 r0 x0 x1 x2 x3 x4
  clear hA4 hb4 q0' d0 d1 d2 d3 d4 HA3 HRD3 CV
  have hn128 : addN l d = foll (lastOf l l.length) d := by unfold addN; rw [if_neg (by omega)]
  cases qq
  · have hNv : N = 57 := by rw [hN.out, hn128, foll_bad hqq.symm]
    have hLv : l = L := by rw [hL.out]; unfold addF; rw [← hN.out, hNv, if_neg (by decide)]
    subst hNv; subst hLv
    clear hN hL hqq hn128 x0 x1 x2 x3 x4 q0
    go_wp2_with fail
    exact radd_fin HA4.out rfl rfl rfl
  · have hok := hqq.symm
    clear hqq
    rcases Nat.eq_zero_or_pos l.length with h0 | h0
    · obtain rfl := List.length_eq_zero_iff.1 h0
      have hNv : N = 0 := by rw [hN.out, hn128]; show foll (lastOf [] 0) d = 0; rw [lastOf_zero, foll_none hok]
      have hLv : L = [] ++ [d] := by rw [hL.out]; unfold addF; rw [← hN.out, hNv, if_pos rfl]
      subst hNv; subst hLv
      clear hN hL hn128 h0 hok
      go_upto_region 10 with (fail)
      refine wp_region_held_drew (S := fun W => W.cell? ⟨B, 0, none⟩ = some (.slice p 0 c)) (by kernel_rfl) q0 (fun hHeld => ?_)
      refine wpAnyH_take (i := 0) (oi := ?oi1) (v := ?v1) ?h1 (by kernel_rfl) (by kernel_rfl) (by kernel_rfl) ?hq1 (Or.inl ⟨?hw1, ?hy1⟩) hHeld ?rest1
      case h1 => simp only [List.getElem?_toArray, List.getElem?_cons_succ, List.getElem?_cons_zero]; rfl
      case hw1 => rfl
      case hy1 => intro w hSw; (try dsimp only at hSw); first | (go_simp; done) | (go_simp; with_reducible rfl)
      case hq1 => intro _ _ _ h; exact h
      try simp only [Act.put, List.setIfInBounds_toArray, List.set_cons_zero, List.set_cons_succ]
      refine wpAnyH_take (i := 1) (oi := ?oi2) (v := ?v2) ?h2 (by kernel_rfl) (by kernel_rfl) (by kernel_rfl) ?hq2 (Or.inl ⟨?hw2, ?hy2⟩) hHeld ?rest2
      case h2 => simp only [List.getElem?_toArray, List.getElem?_cons_succ, List.getElem?_cons_zero]; rfl
      case hw2 => rfl
      case hy2 => intro w hSw; (try dsimp only at hSw); first | (go_simp; done) | (go_simp; with_reducible rfl)
      case hq2 => intro _ _ _ h; exact h
      try simp only [Act.put, List.setIfInBounds_toArray, List.set_cons_zero, List.set_cons_succ]
      refine wpAnyH_take (i := 2) (oi := ?oi3) (v := ?v3) ?h3 (by kernel_rfl) (by kernel_rfl) (by kernel_rfl) ?hq3 (Or.inl ⟨?hw3, ?hy3⟩) hHeld ?rest3
      case h3 => simp only [List.getElem?_toArray, List.getElem?_cons_succ, List.getElem?_cons_zero]; rfl
      case hw3 => rfl
      case hy3 => intro w hSw; (try dsimp only at hSw); first | (go_simp; done) | (go_simp; with_reducible rfl)
      case hq3 => intro _ _ _ h; exact h
      try simp only [Act.put, List.setIfInBounds_toArray, List.set_cons_zero, List.set_cons_succ]
      refine wpAnyH_take (i := 3) (oi := ?oi4) (v := undef) ?h4 (by kernel_rfl) (by kernel_rfl) (by kernel_rfl) ?hq4 (Or.inr ⟨?hw4, ?hy4⟩) hHeld ?rest4
      case h4 => simp only [List.getElem?_toArray, List.getElem?_cons_succ, List.getElem?_cons_zero]; rfl
      case hw4 => rfl
      case hy4 => rfl
      case hq4 => intro _ _ _ h; exact h
      try simp only [Act.put, List.setIfInBounds_toArray, List.set_cons_zero, List.set_cons_succ]
      refine wpAnyH_take (i := 4) (oi := ?oi5) (v := undef) ?h5 (by kernel_rfl) (by kernel_rfl) (by kernel_rfl) ?hq5 (Or.inr ⟨?hw5, ?hy5⟩) hHeld ?rest5
      case h5 => simp only [List.getElem?_toArray, List.getElem?_cons_succ, List.getElem?_cons_zero]; rfl
      case hw5 => rfl
      case hy5 => rfl
      case hq5 => intro _ _ _ h; exact h
      try simp only [Act.put, List.setIfInBounds_toArray, List.set_cons_zero, List.set_cons_succ]
      refine wpAnyH_take (i := 5) (oi := ?oi6) (v := undef) ?h6 (by kernel_rfl) (by kernel_rfl) (by kernel_rfl) ?hq6 (Or.inr ⟨?hw6, ?hy6⟩) hHeld ?rest6
      case h6 => simp only [List.getElem?_toArray, List.getElem?_cons_succ, List.getElem?_cons_zero]; rfl
      case hw6 => rfl
      case hy6 => rfl
      case hq6 => intro _ _ _ h; exact h
      try simp only [Act.put, List.setIfInBounds_toArray, List.set_cons_zero, List.set_cons_succ]
      refine wpAnyH_take (i := 6) (oi := ?oi7) (v := undef) ?h7 (by kernel_rfl) (by kernel_rfl) (by kernel_rfl) ?hq7 (Or.inr ⟨?hw7, ?hy7⟩) hHeld ?rest7
      case h7 => simp only [List.getElem?_toArray, List.getElem?_cons_succ, List.getElem?_cons_zero]; rfl
      case hw7 => rfl
      case hy7 => rfl
      case hq7 => intro _ _ _ h; exact h
      try simp only [Act.put, List.setIfInBounds_toArray, List.set_cons_zero, List.set_cons_succ]
      refine wpAnyH_take (i := 7) (oi := ?oi8) (v := undef) ?h8 (by kernel_rfl) (by kernel_rfl) (by kernel_rfl) ?hq8 (Or.inr ⟨?hw8, ?hy8⟩) hHeld ?rest8
      case h8 => simp only [List.getElem?_toArray, List.getElem?_cons_succ, List.getElem?_cons_zero]; rfl
      case hw8 => rfl
      case hy8 => rfl
      case hq8 => intro _ _ _ h; exact h
      try simp only [Act.put, List.setIfInBounds_toArray, List.set_cons_zero, List.set_cons_succ]
      refine wpAnyH_take (i := 8) (oi := ?oi9) (v := undef) ?h9 (by kernel_rfl) (by kernel_rfl) (by kernel_rfl) ?hq9 (Or.inr ⟨?hw9, ?hy9⟩) hHeld ?rest9
      case h9 => simp only [List.getElem?_toArray, List.getElem?_cons_succ, List.getElem?_cons_zero]; rfl
      case hw9 => rfl
      case hy9 => rfl
      case hq9 => intro _ _ _ h; exact h
      try simp only [Act.put, List.setIfInBounds_toArray, List.set_cons_zero, List.set_cons_succ]
      refine wpAnyH_take (i := 9) (oi := ?oi10) (v := undef) ?h10 (by kernel_rfl) (by kernel_rfl) (by kernel_rfl) ?hq10 (Or.inr ⟨?hw10, ?hy10⟩) hHeld ?rest10
      case h10 => simp only [List.getElem?_toArray, List.getElem?_cons_succ, List.getElem?_cons_zero]; rfl
      case hw10 => rfl
      case hy10 => rfl
      case hq10 => intro _ _ _ h; exact h
      try simp only [Act.put, List.setIfInBounds_toArray, List.set_cons_zero, List.set_cons_succ]
      refine wpAnyH_take (i := 10) (oi := ?oi11) (v := undef) ?h11 (by kernel_rfl) (by kernel_rfl) (by kernel_rfl) ?hq11 (Or.inr ⟨?hw11, ?hy11⟩) hHeld ?rest11
      case h11 => simp only [List.getElem?_toArray, List.getElem?_cons_succ, List.getElem?_cons_zero]; rfl
      case hw11 => rfl
      case hy11 => rfl
      case hq11 => intro _ _ _ h; exact h
      try simp only [Act.put, List.setIfInBounds_toArray, List.set_cons_zero, List.set_cons_succ]
      refine wpAnyH_take (i := 11) (oi := ?oi12) (v := undef) ?h12 (by kernel_rfl) (by kernel_rfl) (by kernel_rfl) ?hq12 (Or.inr ⟨?hw12, ?hy12⟩) hHeld ?rest12
      case h12 => simp only [List.getElem?_toArray, List.getElem?_cons_succ, List.getElem?_cons_zero]; rfl
      case hw12 => rfl
      case hy12 => rfl
      case hq12 => intro _ _ _ h; exact h
      try simp only [Act.put, List.setIfInBounds_toArray, List.set_cons_zero, List.set_cons_succ]
      refine wpAnyH_take (i := 12) (oi := ?oi13) (v := undef) ?h13 (by kernel_rfl) (by kernel_rfl) (by kernel_rfl) ?hq13 (Or.inr ⟨?hw13, ?hy13⟩) hHeld ?rest13
      case h13 => simp only [List.getElem?_toArray, List.getElem?_cons_succ, List.getElem?_cons_zero]; rfl
      case hw13 => rfl
      case hy13 => rfl
      case hq13 => intro _ _ _ h; exact h
      try simp only [Act.put, List.setIfInBounds_toArray, List.set_cons_zero, List.set_cons_succ]
      refine wpAnyH_take (i := 13) (oi := ?oi14) (v := undef) ?h14 (by kernel_rfl) (by kernel_rfl) (by kernel_rfl) ?hq14 (Or.inr ⟨?hw14, ?hy14⟩) hHeld ?rest14
      case h14 => simp only [List.getElem?_toArray, List.getElem?_cons_succ, List.getElem?_cons_zero]; rfl
      case hw14 => rfl
      case hy14 => rfl
      case hq14 => intro _ _ _ h; exact h
      try simp only [Act.put, List.setIfInBounds_toArray, List.set_cons_zero, List.set_cons_succ]
      refine wpAnyH_take (i := 14) (oi := ?oi15) (v := undef) ?h15 (by kernel_rfl) (by kernel_rfl) (by kernel_rfl) ?hq15 (Or.inr ⟨?hw15, ?hy15⟩) hHeld ?rest15
      case h15 => simp only [List.getElem?_toArray, List.getElem?_cons_succ, List.getElem?_cons_zero]; rfl
      case hw15 => rfl
      case hy15 => rfl
      case hq15 => intro _ _ _ h; exact h
      try simp only [Act.put, List.setIfInBounds_toArray, List.set_cons_zero, List.set_cons_succ]
      refine wpAnyH_take (i := 15) (oi := ?oi16) (v := undef) ?h16 (by kernel_rfl) (by kernel_rfl) (by kernel_rfl) ?hq16 (Or.inr ⟨?hw16, ?hy16⟩) hHeld ?rest16
      case h16 => simp only [List.getElem?_toArray, List.getElem?_cons_succ, List.getElem?_cons_zero]; rfl
      case hw16 => rfl
      case hy16 => rfl
      case hq16 => intro _ _ _ h; exact h
      try simp only [Act.put, List.setIfInBounds_toArray, List.set_cons_zero, List.set_cons_succ]
      refine wpAnyH_take (i := 16) (oi := ?oi17) (v := undef) ?h17 (by kernel_rfl) (by kernel_rfl) (by kernel_rfl) ?hq17 (Or.inr ⟨?hw17, ?hy17⟩) hHeld ?rest17
      case h17 => simp only [List.getElem?_toArray, List.getElem?_cons_succ, List.getElem?_cons_zero]; rfl
      case hw17 => rfl
      case hy17 => rfl
      case hq17 => intro _ _ _ h; exact h
      try simp only [Act.put, List.setIfInBounds_toArray, List.set_cons_zero, List.set_cons_succ]
      refine wpAnyH_take (i := 17) (oi := ?oi18) (v := undef) ?h18 (by kernel_rfl) (by kernel_rfl) (by kernel_rfl) ?hq18 (Or.inr ⟨?hw18, ?hy18⟩) hHeld ?rest18
      case h18 => simp only [List.getElem?_toArray, List.getElem?_cons_succ, List.getElem?_cons_zero]; rfl
      case hw18 => rfl
      case hy18 => rfl
      case hq18 => intro _ _ _ h; exact h
      try simp only [Act.put, List.setIfInBounds_toArray, List.set_cons_zero, List.set_cons_succ]
      refine wpAnyH_take (i := 18) (oi := ?oi19) (v := undef) ?h19 (by kernel_rfl) (by kernel_rfl) (by kernel_rfl) ?hq19 (Or.inr ⟨?hw19, ?hy19⟩) hHeld ?rest19
      case h19 => simp only [List.getElem?_toArray, List.getElem?_cons_succ, List.getElem?_cons_zero]; rfl
      case hw19 => rfl
      case hy19 => rfl
      case hq19 => intro _ _ _ h; exact h
      try simp only [Act.put, List.setIfInBounds_toArray, List.set_cons_zero, List.set_cons_succ]
      refine wpAnyH_take (i := 19) (oi := ?oi20) (v := undef) ?h20 (by kernel_rfl) (by kernel_rfl) (by kernel_rfl) ?hq20 (Or.inr ⟨?hw20, ?hy20⟩) hHeld ?rest20
      case h20 => simp only [List.getElem?_toArray, List.getElem?_cons_succ, List.getElem?_cons_zero]; rfl
      case hw20 => rfl
      case hy20 => rfl
      case hq20 => intro _ _ _ h; exact h
      try simp only [Act.put, List.setIfInBounds_toArray, List.set_cons_zero, List.set_cons_succ]
      refine wpAnyH_take (i := 20) (oi := ?oi21) (v := undef) ?h21 (by kernel_rfl) (by kernel_rfl) (by kernel_rfl) ?hq21 (Or.inr ⟨?hw21, ?hy21⟩) hHeld ?rest21
      case h21 => simp only [List.getElem?_toArray, List.getElem?_cons_succ, List.getElem?_cons_zero]; rfl
      case hw21 => rfl
      case hy21 => rfl
      case hq21 => intro _ _ _ h; exact h
      try simp only [Act.put, List.setIfInBounds_toArray, List.set_cons_zero, List.set_cons_succ]
      refine wpAnyH_take (i := 21) (oi := ?oi22) (v := undef) ?h22 (by kernel_rfl) (by kernel_rfl) (by kernel_rfl) ?hq22 (Or.inr ⟨?hw22, ?hy22⟩) hHeld ?rest22
      case h22 => simp only [List.getElem?_toArray, List.getElem?_cons_succ, List.getElem?_cons_zero]; rfl
      case hw22 => rfl
      case hy22 => rfl
      case hq22 => intro _ _ _ h; exact h
      try simp only [Act.put, List.setIfInBounds_toArray, List.set_cons_zero, List.set_cons_succ]
      refine wpAnyH_take (i := 22) (oi := ?oi23) (v := undef) ?h23 (by kernel_rfl) (by kernel_rfl) (by kernel_rfl) ?hq23 (Or.inr ⟨?hw23, ?hy23⟩) hHeld ?rest23
      case h23 => simp only [List.getElem?_toArray, List.getElem?_cons_succ, List.getElem?_cons_zero]; rfl
      case hw23 => rfl
      case hy23 => rfl
      case hq23 => intro _ _ _ h; exact h
      try simp only [Act.put, List.setIfInBounds_toArray, List.set_cons_zero, List.set_cons_succ]
      refine wpAnyH_take (i := 23) (oi := ?oi24) (v := undef) ?h24 (by kernel_rfl) (by kernel_rfl) (by kernel_rfl) ?hq24 (Or.inr ⟨?hw24, ?hy24⟩) hHeld ?rest24
      case h24 => simp only [List.getElem?_toArray, List.getElem?_cons_succ, List.getElem?_cons_zero]; rfl
      case hw24 => rfl
      case hy24 => rfl
      case hq24 => intro _ _ _ h; exact h
      try simp only [Act.put, List.setIfInBounds_toArray, List.set_cons_zero, List.set_cons_succ]
      refine wpAnyH_take (i := 24) (oi := ?oi25) (v := undef) ?h25 (by kernel_rfl) (by kernel_rfl) (by kernel_rfl) ?hq25 (Or.inr ⟨?hw25, ?hy25⟩) hHeld ?rest25
      case h25 => simp only [List.getElem?_toArray, List.getElem?_cons_succ, List.getElem?_cons_zero]; rfl
      case hw25 => rfl
      case hy25 => rfl
      case hq25 => intro _ _ _ h; exact h
      try simp only [Act.put, List.setIfInBounds_toArray, List.set_cons_zero, List.set_cons_succ]
      refine wpAnyH_take (i := 25) (oi := ?oi26) (v := ?v26) ?h26 (by kernel_rfl) (by kernel_rfl) (by kernel_rfl) ?hq26 (Or.inl ⟨?hw26, ?hy26⟩) hHeld ?rest26
      case h26 => simp only [List.getElem?_toArray, List.getElem?_cons_succ, List.getElem?_cons_zero]; rfl
      case hw26 => rfl
      case hy26 => intro w hSw; (try dsimp only at hSw); first | (go_simp; done) | (go_simp; with_reducible rfl)
      case hq26 => intro _ _ _ h; exact h
      try simp only [Act.put, List.setIfInBounds_toArray, List.set_cons_zero, List.set_cons_succ]
      refine wpAnyH_done (by kernel_rfl) ?_ _
      have hA5 := HA4.out.step (Below.refl _ W4).drew
      have HA5 := Lib.hid hA5
      go_upto_region 12 with (fail)
      generalize W4.drew = W5 at *
      have c0' := cell_of_row _ C 0 _ _ _ hA5.bc
      have y0 := cell_of_row _ (B + 1) 0 _ _ _ hA5.b1
      have y1 := cell_of_row _ (B + 1) 1 _ _ _ hA5.b1
      have y2 := cell_of_row _ (B + 1) 2 _ _ _ hA5.b1
      have y3 := cell_of_row _ (B + 1) 3 _ _ _ hA5.b1
      have y4 := cell_of_row _ (B + 1) 4 _ _ _ hA5.b1
      simp [cells5] at c0' y0 y1 y2 y3 y4
      have hone : ∀ u ∈ cells5 d, u.oneCell' = true := by
        intro u hu
        simp only [cells5, List.mem_cons, List.not_mem_nil, or_false] at hu
        rcases hu with rfl | rfl | rfl | rfl | rfl <;> rfl
      have H1 := Lib.hid hone
      have HNW := Lib.hid (World.news_of_block (cs := (cells5 d).toArray) (t := 27) (fr := (0, 0)) (heap_alloc_new W5 _))
      have HO := Lib.hid (hA5.own.alloc (.cells (cells5 d).toArray 27))
      have hsz := hA5.size
      have hsz2 : B + 5 ≤ W5.heap.size + 1 := by omega
      have hcb : ¬ C = B + 1 + 1 := by have := hA5.lc; omega
      have hcb' : ¬ B + 1 + 1 = C := by have := hA5.lc; omega
      clear hA5 hone c0 r0 rf x0 x1 x2 x3 x4 q0 HA4 HRD4
      go_wp2_with (at_builtin; refine wpList_append_own _ rfl _ _ 23 rfl (B + 5) 27 i0 (.agg #[.int .i64 0, .int .i64 0, .int .i64 0, .int .i64 0, .int .i64 0]) 5 40 Try.underlying23 hi hz0 hz1 hz2 rfl (by decide) _ _ _ rfl HO.out ⟨W5.heap.size, 0, none⟩ 1 1 (cells5 d) rfl rfl HNW.out H1.out (by unfold maxLen; omega) (by omega) (by simp; omega) ?_; intro v' W6 hown' hgrow _; obtain ⟨z0, z1, z2, z3⟩ := HA5.out.after hgrow; obtain ⟨g5, cap5, rfl⟩ := own_form hown' (by simp); have HA6 := Lib.hid (HA5.out.appended hown' hgrow); clear hown' hgrow)
      exact radd_fin HA6.out rfl rfl rfl
    · obtain ⟨m, hm⟩ : ∃ m, l.length = m + 1 := ⟨l.length - 1, by omega⟩
      have hmlt : m < l.length := by omega
      have hfs : foll (lastOf l l.length) d = if decide (d.day < l[m].day) || decide (d.known < l[m].known) then 6 else 0 := by
        rw [hm, lastOf_succ l m (by omega), foll_some hok]
      rcases HRD4.out with h | ⟨b, o, hp, hrow⟩
      · subst h; simp at h0
      subst hp
      obtain ⟨v0, v1, _, _, _⟩ := hrow m hmlt
      have f9 : IntKind.i64.wrap ((l.length : Int) - 1) = m := by rw [hm]; rw [show ((m + 1 : Nat) : Int) - 1 = (m : Int) by omega]; exact IntWalk.i64_in (m : Int) (by omega)
      have f10 : decide ((0 : Int) < (l.length : Int)) = true := by rw [decide_eq_true_eq]; omega
      have f10' : decide (0 < l.length) = true := by rw [decide_eq_true_eq]; omega
      have f11 : (0 : Int) ≤ m := by omega
      have f12 : (m : Int) < l.length := by omega
      obtain ⟨ld, hld⟩ : ∃ ld, ld = l[m].day := ⟨_, rfl⟩
      obtain ⟨lk, hlk⟩ : ∃ lk, lk = l[m].known := ⟨_, rfl⟩
      rw [← hld, ← hlk] at hfs
      rw [← hld] at v0
      rw [← hlk] at v1
      clear hrow hm hld hlk
      cases e1 : decide (d.day < ld)
      · cases e2 : decide (d.known < lk)
        · rw [e1, e2, if_neg (by decide)] at hfs
          have hNv : N = 0 := by rw [hN.out, hn128, hfs]
          have hLv : L = l ++ [d] := by rw [hL.out]; unfold addF; rw [← hN.out, hNv, if_pos rfl]
          subst hNv; subst hLv
          clear hN hL hn128 h0 hok hfs
          go_upto_region 10 with (fail)
          refine wp_region_held_drew (S := fun W => W.cell? ⟨B, 0, none⟩ = some (.slice (some ⟨b, o, none⟩) l.length c) ∧ W.cell? ⟨B + 1, 0, none⟩ = some (.int .i64 d.day) ∧ W.cell? ⟨B + 1, 1, none⟩ = some (.int .i64 d.known) ∧ W.cell? ⟨b, o + m * 5, none⟩ = some (.int .i64 ld) ∧ W.cell? ⟨b, o + m * 5 + 1, none⟩ = some (.int .i64 lk)) (by kernel_rfl) ⟨q0, x0, x1, v0, v1⟩ (fun hHeld => ?_)
          refine wpAnyH_take (i := 0) (oi := ?oi101) (v := ?v101) ?h101 (by kernel_rfl) (by kernel_rfl) (by kernel_rfl) ?hq101 (Or.inl ⟨?hw101, ?hy101⟩) hHeld ?rest101
          case h101 => simp only [List.getElem?_toArray, List.getElem?_cons_succ, List.getElem?_cons_zero]; rfl
          case hw101 => rfl
          case hy101 => intro w hSw; (try dsimp only at hSw); first | (go_simp; done) | (go_simp; with_reducible rfl)
          case hq101 => intro _ _ _ h; exact h
          try simp only [Act.put, List.setIfInBounds_toArray, List.set_cons_zero, List.set_cons_succ]
          refine wpAnyH_take (i := 1) (oi := ?oi102) (v := ?v102) ?h102 (by kernel_rfl) (by kernel_rfl) (by kernel_rfl) ?hq102 (Or.inl ⟨?hw102, ?hy102⟩) hHeld ?rest102
          case h102 => simp only [List.getElem?_toArray, List.getElem?_cons_succ, List.getElem?_cons_zero]; rfl
          case hw102 => rfl
          case hy102 => intro w hSw; (try dsimp only at hSw); first | (go_simp; done) | (go_simp; with_reducible rfl)
          case hq102 => intro _ _ _ h; exact h
          try simp only [Act.put, List.setIfInBounds_toArray, List.set_cons_zero, List.set_cons_succ]
          refine wpAnyH_take (i := 2) (oi := ?oi103) (v := ?v103) ?h103 (by kernel_rfl) (by kernel_rfl) (by kernel_rfl) ?hq103 (Or.inl ⟨?hw103, ?hy103⟩) hHeld ?rest103
          case h103 => simp only [List.getElem?_toArray, List.getElem?_cons_succ, List.getElem?_cons_zero]; rfl
          case hw103 => rfl
          case hy103 => intro w hSw; (try dsimp only at hSw); first | (go_simp; done) | (go_simp; with_reducible rfl)
          case hq103 => intro _ _ _ h; exact h
          try simp only [Act.put, List.setIfInBounds_toArray, List.set_cons_zero, List.set_cons_succ]
          refine wpAnyH_take (i := 3) (oi := ?oi104) (v := ?v104) ?h104 (by kernel_rfl) (by kernel_rfl) (by kernel_rfl) ?hq104 (Or.inl ⟨?hw104, ?hy104⟩) hHeld ?rest104
          case h104 => simp only [List.getElem?_toArray, List.getElem?_cons_succ, List.getElem?_cons_zero]; rfl
          case hw104 => rfl
          case hy104 => intro w hSw; (try dsimp only at hSw); first | (go_simp; done) | (go_simp; with_reducible rfl)
          case hq104 => intro _ _ _ h; exact h
          try simp only [Act.put, List.setIfInBounds_toArray, List.set_cons_zero, List.set_cons_succ]
          refine wpAnyH_take (i := 4) (oi := ?oi105) (v := ?v105) ?h105 (by kernel_rfl) (by kernel_rfl) (by kernel_rfl) ?hq105 (Or.inl ⟨?hw105, ?hy105⟩) hHeld ?rest105
          case h105 => simp only [List.getElem?_toArray, List.getElem?_cons_succ, List.getElem?_cons_zero]; rfl
          case hw105 => rfl
          case hy105 => intro w hSw; (try dsimp only at hSw); first | (go_simp; done) | (go_simp; with_reducible rfl)
          case hq105 => intro _ _ _ h; exact h
          try simp only [Act.put, List.setIfInBounds_toArray, List.set_cons_zero, List.set_cons_succ]
          refine wpAnyH_take (i := 5) (oi := ?oi106) (v := ?v106) ?h106 (by kernel_rfl) (by kernel_rfl) (by kernel_rfl) ?hq106 (Or.inl ⟨?hw106, ?hy106⟩) hHeld ?rest106
          case h106 => simp only [List.getElem?_toArray, List.getElem?_cons_succ, List.getElem?_cons_zero]; rfl
          case hw106 => rfl
          case hy106 => intro w hSw; (try dsimp only at hSw); first | (go_simp; done) | (go_simp; with_reducible rfl)
          case hq106 => intro _ _ _ h; exact h
          try simp only [Act.put, List.setIfInBounds_toArray, List.set_cons_zero, List.set_cons_succ]
          refine wpAnyH_take (i := 6) (oi := ?oi107) (v := ?v107) ?h107 (by kernel_rfl) (by kernel_rfl) (by kernel_rfl) ?hq107 (Or.inl ⟨?hw107, ?hy107⟩) hHeld ?rest107
          case h107 => simp only [List.getElem?_toArray, List.getElem?_cons_succ, List.getElem?_cons_zero]; rfl
          case hw107 => rfl
          case hy107 => intro w hSw; (try dsimp only at hSw); first | (go_simp; done) | (go_simp; with_reducible rfl)
          case hq107 => intro _ _ _ h; exact h
          try simp only [Act.put, List.setIfInBounds_toArray, List.set_cons_zero, List.set_cons_succ]
          refine wpAnyH_take (i := 7) (oi := ?oi108) (v := ?v108) ?h108 (by kernel_rfl) (by kernel_rfl) (by kernel_rfl) ?hq108 (Or.inl ⟨?hw108, ?hy108⟩) hHeld ?rest108
          case h108 => simp only [List.getElem?_toArray, List.getElem?_cons_succ, List.getElem?_cons_zero]; rfl
          case hw108 => rfl
          case hy108 => intro w hSw; (try dsimp only at hSw); first | (go_simp; done) | (go_simp; with_reducible rfl)
          case hq108 => intro _ _ _ h; exact h
          try simp only [Act.put, List.setIfInBounds_toArray, List.set_cons_zero, List.set_cons_succ]
          refine wpAnyH_take (i := 8) (oi := ?oi109) (v := ?v109) ?h109 (by kernel_rfl) (by kernel_rfl) (by kernel_rfl) ?hq109 (Or.inl ⟨?hw109, ?hy109⟩) hHeld ?rest109
          case h109 => simp only [List.getElem?_toArray, List.getElem?_cons_succ, List.getElem?_cons_zero]; rfl
          case hw109 => rfl
          case hy109 => intro w hSw; (try dsimp only at hSw); first | (go_simp; done) | (go_simp; with_reducible rfl)
          case hq109 => intro _ _ _ h; exact h
          try simp only [Act.put, List.setIfInBounds_toArray, List.set_cons_zero, List.set_cons_succ]
          refine wpAnyH_take (i := 9) (oi := ?oi110) (v := ?v110) ?h110 (by kernel_rfl) (by kernel_rfl) (by kernel_rfl) ?hq110 (Or.inl ⟨?hw110, ?hy110⟩) hHeld ?rest110
          case h110 => simp only [List.getElem?_toArray, List.getElem?_cons_succ, List.getElem?_cons_zero]; rfl
          case hw110 => rfl
          case hy110 => intro w hSw; (try dsimp only at hSw); first | (go_simp; done) | (go_simp; with_reducible rfl)
          case hq110 => intro _ _ _ h; exact h
          try simp only [Act.put, List.setIfInBounds_toArray, List.set_cons_zero, List.set_cons_succ]
          refine wpAnyH_take (i := 10) (oi := ?oi111) (v := ?v111) ?h111 (by kernel_rfl) (by kernel_rfl) (by kernel_rfl) ?hq111 (Or.inl ⟨?hw111, ?hy111⟩) hHeld ?rest111
          case h111 => simp only [List.getElem?_toArray, List.getElem?_cons_succ, List.getElem?_cons_zero]; rfl
          case hw111 => rfl
          case hy111 => intro w hSw; (try dsimp only at hSw); first | (go_simp; done) | (go_simp; with_reducible rfl)
          case hq111 => intro _ _ _ h; exact h
          try simp only [Act.put, List.setIfInBounds_toArray, List.set_cons_zero, List.set_cons_succ]
          refine wpAnyH_take (i := 11) (oi := ?oi112) (v := ?v112) ?h112 (by kernel_rfl) (by kernel_rfl) (by kernel_rfl) ?hq112 (Or.inl ⟨?hw112, ?hy112⟩) hHeld ?rest112
          case h112 => simp only [List.getElem?_toArray, List.getElem?_cons_succ, List.getElem?_cons_zero]; rfl
          case hw112 => rfl
          case hy112 => intro w hSw; (try dsimp only at hSw); first | (go_simp; done) | (go_simp; with_reducible rfl)
          case hq112 => intro _ _ _ h; exact h
          try simp only [Act.put, List.setIfInBounds_toArray, List.set_cons_zero, List.set_cons_succ]
          refine wpAnyH_take (i := 12) (oi := ?oi113) (v := ?v113) ?h113 (by kernel_rfl) (by kernel_rfl) (by kernel_rfl) ?hq113 (Or.inl ⟨?hw113, ?hy113⟩) hHeld ?rest113
          case h113 => simp only [List.getElem?_toArray, List.getElem?_cons_succ, List.getElem?_cons_zero]; rfl
          case hw113 => rfl
          case hy113 => intro w hSw; (try dsimp only at hSw); first | (go_simp; done) | (go_simp; with_reducible rfl)
          case hq113 => intro _ _ _ h; exact h
          try simp only [Act.put, List.setIfInBounds_toArray, List.set_cons_zero, List.set_cons_succ]
          refine wpAnyH_take (i := 13) (oi := ?oi114) (v := ?v114) ?h114 (by kernel_rfl) (by kernel_rfl) (by kernel_rfl) ?hq114 (Or.inl ⟨?hw114, ?hy114⟩) hHeld ?rest114
          case h114 => simp only [List.getElem?_toArray, List.getElem?_cons_succ, List.getElem?_cons_zero]; rfl
          case hw114 => rfl
          case hy114 => intro w hSw; (try dsimp only at hSw); first | (go_simp; done) | (go_simp; with_reducible rfl)
          case hq114 => intro _ _ _ h; exact h
          try simp only [Act.put, List.setIfInBounds_toArray, List.set_cons_zero, List.set_cons_succ]
          refine wpAnyH_take (i := 14) (oi := ?oi115) (v := ?v115) ?h115 (by kernel_rfl) (by kernel_rfl) (by kernel_rfl) ?hq115 (Or.inl ⟨?hw115, ?hy115⟩) hHeld ?rest115
          case h115 => simp only [List.getElem?_toArray, List.getElem?_cons_succ, List.getElem?_cons_zero]; rfl
          case hw115 => rfl
          case hy115 => intro w hSw; (try dsimp only at hSw); first | (go_simp; done) | (go_simp; with_reducible rfl)
          case hq115 => intro _ _ _ h; exact h
          try simp only [Act.put, List.setIfInBounds_toArray, List.set_cons_zero, List.set_cons_succ]
          refine wpAnyH_take (i := 15) (oi := ?oi116) (v := ?v116) ?h116 (by kernel_rfl) (by kernel_rfl) (by kernel_rfl) ?hq116 (Or.inl ⟨?hw116, ?hy116⟩) hHeld ?rest116
          case h116 => simp only [List.getElem?_toArray, List.getElem?_cons_succ, List.getElem?_cons_zero]; rfl
          case hw116 => rfl
          case hy116 => intro w hSw; (try dsimp only at hSw); first | (go_simp; done) | (go_simp; with_reducible rfl)
          case hq116 => intro _ _ _ h; exact h
          try simp only [Act.put, List.setIfInBounds_toArray, List.set_cons_zero, List.set_cons_succ]
          refine wpAnyH_take (i := 16) (oi := ?oi117) (v := ?v117) ?h117 (by kernel_rfl) (by kernel_rfl) (by kernel_rfl) ?hq117 (Or.inl ⟨?hw117, ?hy117⟩) hHeld ?rest117
          case h117 => simp only [List.getElem?_toArray, List.getElem?_cons_succ, List.getElem?_cons_zero]; rfl
          case hw117 => rfl
          case hy117 => intro w hSw; (try dsimp only at hSw); first | (go_simp; done) | (go_simp; with_reducible rfl)
          case hq117 => intro _ _ _ h; exact h
          try simp only [Act.put, List.setIfInBounds_toArray, List.set_cons_zero, List.set_cons_succ]
          refine wpAnyH_take (i := 17) (oi := ?oi118) (v := ?v118) ?h118 (by kernel_rfl) (by kernel_rfl) (by kernel_rfl) ?hq118 (Or.inl ⟨?hw118, ?hy118⟩) hHeld ?rest118
          case h118 => simp only [List.getElem?_toArray, List.getElem?_cons_succ, List.getElem?_cons_zero]; rfl
          case hw118 => rfl
          case hy118 => intro w hSw; (try dsimp only at hSw); first | (go_simp; done) | (go_simp; with_reducible rfl)
          case hq118 => intro _ _ _ h; exact h
          try simp only [Act.put, List.setIfInBounds_toArray, List.set_cons_zero, List.set_cons_succ]
          refine wpAnyH_take (i := 18) (oi := ?oi119) (v := ?v119) ?h119 (by kernel_rfl) (by kernel_rfl) (by kernel_rfl) ?hq119 (Or.inl ⟨?hw119, ?hy119⟩) hHeld ?rest119
          case h119 => simp only [List.getElem?_toArray, List.getElem?_cons_succ, List.getElem?_cons_zero]; rfl
          case hw119 => rfl
          case hy119 => intro w hSw; (try dsimp only at hSw); first | (go_simp; done) | (go_simp; with_reducible rfl)
          case hq119 => intro _ _ _ h; exact h
          try simp only [Act.put, List.setIfInBounds_toArray, List.set_cons_zero, List.set_cons_succ]
          refine wpAnyH_take (i := 19) (oi := ?oi120) (v := ?v120) ?h120 (by kernel_rfl) (by kernel_rfl) (by kernel_rfl) ?hq120 (Or.inl ⟨?hw120, ?hy120⟩) hHeld ?rest120
          case h120 => simp only [List.getElem?_toArray, List.getElem?_cons_succ, List.getElem?_cons_zero]; rfl
          case hw120 => rfl
          case hy120 => intro w hSw; (try dsimp only at hSw); first | (go_simp; done) | (go_simp; with_reducible rfl)
          case hq120 => intro _ _ _ h; exact h
          try simp only [Act.put, List.setIfInBounds_toArray, List.set_cons_zero, List.set_cons_succ]
          refine wpAnyH_take (i := 20) (oi := ?oi121) (v := ?v121) ?h121 (by kernel_rfl) (by kernel_rfl) (by kernel_rfl) ?hq121 (Or.inl ⟨?hw121, ?hy121⟩) hHeld ?rest121
          case h121 => simp only [List.getElem?_toArray, List.getElem?_cons_succ, List.getElem?_cons_zero]; rfl
          case hw121 => rfl
          case hy121 => intro w hSw; (try dsimp only at hSw); first | (go_simp; done) | (go_simp; with_reducible rfl)
          case hq121 => intro _ _ _ h; exact h
          try simp only [Act.put, List.setIfInBounds_toArray, List.set_cons_zero, List.set_cons_succ]
          refine wpAnyH_take (i := 21) (oi := ?oi122) (v := ?v122) ?h122 (by kernel_rfl) (by kernel_rfl) (by kernel_rfl) ?hq122 (Or.inl ⟨?hw122, ?hy122⟩) hHeld ?rest122
          case h122 => simp only [List.getElem?_toArray, List.getElem?_cons_succ, List.getElem?_cons_zero]; rfl
          case hw122 => rfl
          case hy122 => intro w hSw; (try dsimp only at hSw); first | (go_simp; done) | (go_simp; with_reducible rfl)
          case hq122 => intro _ _ _ h; exact h
          try simp only [Act.put, List.setIfInBounds_toArray, List.set_cons_zero, List.set_cons_succ]
          refine wpAnyH_take (i := 22) (oi := ?oi123) (v := ?v123) ?h123 (by kernel_rfl) (by kernel_rfl) (by kernel_rfl) ?hq123 (Or.inl ⟨?hw123, ?hy123⟩) hHeld ?rest123
          case h123 => simp only [List.getElem?_toArray, List.getElem?_cons_succ, List.getElem?_cons_zero]; rfl
          case hw123 => rfl
          case hy123 => intro w hSw; (try dsimp only at hSw); first | (go_simp; done) | (go_simp; with_reducible rfl)
          case hq123 => intro _ _ _ h; exact h
          try simp only [Act.put, List.setIfInBounds_toArray, List.set_cons_zero, List.set_cons_succ]
          refine wpAnyH_take (i := 23) (oi := ?oi124) (v := ?v124) ?h124 (by kernel_rfl) (by kernel_rfl) (by kernel_rfl) ?hq124 (Or.inl ⟨?hw124, ?hy124⟩) hHeld ?rest124
          case h124 => simp only [List.getElem?_toArray, List.getElem?_cons_succ, List.getElem?_cons_zero]; rfl
          case hw124 => rfl
          case hy124 => intro w hSw; (try dsimp only at hSw); first | (go_simp; done) | (go_simp; with_reducible rfl)
          case hq124 => intro _ _ _ h; exact h
          try simp only [Act.put, List.setIfInBounds_toArray, List.set_cons_zero, List.set_cons_succ]
          refine wpAnyH_take (i := 24) (oi := ?oi125) (v := ?v125) ?h125 (by kernel_rfl) (by kernel_rfl) (by kernel_rfl) ?hq125 (Or.inl ⟨?hw125, ?hy125⟩) hHeld ?rest125
          case h125 => simp only [List.getElem?_toArray, List.getElem?_cons_succ, List.getElem?_cons_zero]; rfl
          case hw125 => rfl
          case hy125 => intro w hSw; (try dsimp only at hSw); first | (go_simp; done) | (go_simp; with_reducible rfl)
          case hq125 => intro _ _ _ h; exact h
          try simp only [Act.put, List.setIfInBounds_toArray, List.set_cons_zero, List.set_cons_succ]
          refine wpAnyH_take (i := 25) (oi := ?oi126) (v := ?v126) ?h126 (by kernel_rfl) (by kernel_rfl) (by kernel_rfl) ?hq126 (Or.inl ⟨?hw126, ?hy126⟩) hHeld ?rest126
          case h126 => simp only [List.getElem?_toArray, List.getElem?_cons_succ, List.getElem?_cons_zero]; rfl
          case hw126 => rfl
          case hy126 => intro w hSw; (try dsimp only at hSw); first | (go_simp; done) | (go_simp; with_reducible rfl)
          case hq126 => intro _ _ _ h; exact h
          try simp only [Act.put, List.setIfInBounds_toArray, List.set_cons_zero, List.set_cons_succ]
          refine wpAnyH_done (by kernel_rfl) ?_ _
          have hA5 := HA4.out.step (Below.refl _ W4).drew
          have HA5 := Lib.hid hA5
          go_upto_region 12 with (fail)
          generalize W4.drew = W5 at *
          have c0' := cell_of_row _ C 0 _ _ _ hA5.bc
          have y0 := cell_of_row _ (B + 1) 0 _ _ _ hA5.b1
          have y1 := cell_of_row _ (B + 1) 1 _ _ _ hA5.b1
          have y2 := cell_of_row _ (B + 1) 2 _ _ _ hA5.b1
          have y3 := cell_of_row _ (B + 1) 3 _ _ _ hA5.b1
          have y4 := cell_of_row _ (B + 1) 4 _ _ _ hA5.b1
          simp [cells5] at c0' y0 y1 y2 y3 y4
          have hone : ∀ u ∈ cells5 d, u.oneCell' = true := by
            intro u hu
            simp only [cells5, List.mem_cons, List.not_mem_nil, or_false] at hu
            rcases hu with rfl | rfl | rfl | rfl | rfl <;> rfl
          have H1 := Lib.hid hone
          have HNW := Lib.hid (World.news_of_block (cs := (cells5 d).toArray) (t := 27) (fr := (0, 0)) (heap_alloc_new W5 _))
          have HO := Lib.hid (hA5.own.alloc (.cells (cells5 d).toArray 27))
          have hsz := hA5.size
          have hsz2 : B + 5 ≤ W5.heap.size + 1 := by omega
          have hcb : ¬ C = B + 1 + 1 := by have := hA5.lc; omega
          have hcb' : ¬ B + 1 + 1 = C := by have := hA5.lc; omega
          clear hA5 hone c0 r0 rf x0 x1 x2 x3 x4 q0 HA4 HRD4
          go_wp2_with (at_builtin; refine wpList_append_own _ rfl _ _ 23 rfl (B + 5) 27 i0 (.agg #[.int .i64 0, .int .i64 0, .int .i64 0, .int .i64 0, .int .i64 0]) 5 40 Try.underlying23 hi hz0 hz1 hz2 rfl (by decide) _ _ _ rfl HO.out ⟨W5.heap.size, 0, none⟩ 1 1 (cells5 d) rfl rfl HNW.out H1.out (by unfold maxLen; omega) (by omega) (by simp; omega) ?_; intro v' W6 hown' hgrow _; obtain ⟨z0, z1, z2, z3⟩ := HA5.out.after hgrow; obtain ⟨g5, cap5, rfl⟩ := own_form hown' (by simp); have HA6 := Lib.hid (HA5.out.appended hown' hgrow); clear hown' hgrow)
          exact radd_fin HA6.out rfl rfl rfl

        · rw [e1, e2, if_pos (by decide)] at hfs
          have hNv : N = 6 := by rw [hN.out, hn128, hfs]
          have hLv : l = L := by rw [hL.out]; unfold addF; rw [← hN.out, hNv, if_neg (by decide)]
          subst hNv; subst hLv
          clear hN hL hn128 h0 hok hfs
          go_upto_region 10 with (fail)
          refine wp_region_held_drew (S := fun W => W.cell? ⟨B, 0, none⟩ = some (.slice (some ⟨b, o, none⟩) l.length c) ∧ W.cell? ⟨B + 1, 0, none⟩ = some (.int .i64 d.day) ∧ W.cell? ⟨B + 1, 1, none⟩ = some (.int .i64 d.known) ∧ W.cell? ⟨b, o + m * 5, none⟩ = some (.int .i64 ld) ∧ W.cell? ⟨b, o + m * 5 + 1, none⟩ = some (.int .i64 lk)) (by kernel_rfl) ⟨q0, x0, x1, v0, v1⟩ (fun hHeld => ?_)
          refine wpAnyH_take (i := 0) (oi := ?oi201) (v := ?v201) ?h201 (by kernel_rfl) (by kernel_rfl) (by kernel_rfl) ?hq201 (Or.inl ⟨?hw201, ?hy201⟩) hHeld ?rest201
          case h201 => simp only [List.getElem?_toArray, List.getElem?_cons_succ, List.getElem?_cons_zero]; rfl
          case hw201 => rfl
          case hy201 => intro w hSw; (try dsimp only at hSw); first | (go_simp; done) | (go_simp; with_reducible rfl)
          case hq201 => intro _ _ _ h; exact h
          try simp only [Act.put, List.setIfInBounds_toArray, List.set_cons_zero, List.set_cons_succ]
          refine wpAnyH_take (i := 1) (oi := ?oi202) (v := ?v202) ?h202 (by kernel_rfl) (by kernel_rfl) (by kernel_rfl) ?hq202 (Or.inl ⟨?hw202, ?hy202⟩) hHeld ?rest202
          case h202 => simp only [List.getElem?_toArray, List.getElem?_cons_succ, List.getElem?_cons_zero]; rfl
          case hw202 => rfl
          case hy202 => intro w hSw; (try dsimp only at hSw); first | (go_simp; done) | (go_simp; with_reducible rfl)
          case hq202 => intro _ _ _ h; exact h
          try simp only [Act.put, List.setIfInBounds_toArray, List.set_cons_zero, List.set_cons_succ]
          refine wpAnyH_take (i := 2) (oi := ?oi203) (v := ?v203) ?h203 (by kernel_rfl) (by kernel_rfl) (by kernel_rfl) ?hq203 (Or.inl ⟨?hw203, ?hy203⟩) hHeld ?rest203
          case h203 => simp only [List.getElem?_toArray, List.getElem?_cons_succ, List.getElem?_cons_zero]; rfl
          case hw203 => rfl
          case hy203 => intro w hSw; (try dsimp only at hSw); first | (go_simp; done) | (go_simp; with_reducible rfl)
          case hq203 => intro _ _ _ h; exact h
          try simp only [Act.put, List.setIfInBounds_toArray, List.set_cons_zero, List.set_cons_succ]
          refine wpAnyH_take (i := 3) (oi := ?oi204) (v := ?v204) ?h204 (by kernel_rfl) (by kernel_rfl) (by kernel_rfl) ?hq204 (Or.inl ⟨?hw204, ?hy204⟩) hHeld ?rest204
          case h204 => simp only [List.getElem?_toArray, List.getElem?_cons_succ, List.getElem?_cons_zero]; rfl
          case hw204 => rfl
          case hy204 => intro w hSw; (try dsimp only at hSw); first | (go_simp; done) | (go_simp; with_reducible rfl)
          case hq204 => intro _ _ _ h; exact h
          try simp only [Act.put, List.setIfInBounds_toArray, List.set_cons_zero, List.set_cons_succ]
          refine wpAnyH_take (i := 4) (oi := ?oi205) (v := ?v205) ?h205 (by kernel_rfl) (by kernel_rfl) (by kernel_rfl) ?hq205 (Or.inl ⟨?hw205, ?hy205⟩) hHeld ?rest205
          case h205 => simp only [List.getElem?_toArray, List.getElem?_cons_succ, List.getElem?_cons_zero]; rfl
          case hw205 => rfl
          case hy205 => intro w hSw; (try dsimp only at hSw); first | (go_simp; done) | (go_simp; with_reducible rfl)
          case hq205 => intro _ _ _ h; exact h
          try simp only [Act.put, List.setIfInBounds_toArray, List.set_cons_zero, List.set_cons_succ]
          refine wpAnyH_take (i := 5) (oi := ?oi206) (v := ?v206) ?h206 (by kernel_rfl) (by kernel_rfl) (by kernel_rfl) ?hq206 (Or.inl ⟨?hw206, ?hy206⟩) hHeld ?rest206
          case h206 => simp only [List.getElem?_toArray, List.getElem?_cons_succ, List.getElem?_cons_zero]; rfl
          case hw206 => rfl
          case hy206 => intro w hSw; (try dsimp only at hSw); first | (go_simp; done) | (go_simp; with_reducible rfl)
          case hq206 => intro _ _ _ h; exact h
          try simp only [Act.put, List.setIfInBounds_toArray, List.set_cons_zero, List.set_cons_succ]
          refine wpAnyH_take (i := 6) (oi := ?oi207) (v := ?v207) ?h207 (by kernel_rfl) (by kernel_rfl) (by kernel_rfl) ?hq207 (Or.inl ⟨?hw207, ?hy207⟩) hHeld ?rest207
          case h207 => simp only [List.getElem?_toArray, List.getElem?_cons_succ, List.getElem?_cons_zero]; rfl
          case hw207 => rfl
          case hy207 => intro w hSw; (try dsimp only at hSw); first | (go_simp; done) | (go_simp; with_reducible rfl)
          case hq207 => intro _ _ _ h; exact h
          try simp only [Act.put, List.setIfInBounds_toArray, List.set_cons_zero, List.set_cons_succ]
          refine wpAnyH_take (i := 7) (oi := ?oi208) (v := ?v208) ?h208 (by kernel_rfl) (by kernel_rfl) (by kernel_rfl) ?hq208 (Or.inl ⟨?hw208, ?hy208⟩) hHeld ?rest208
          case h208 => simp only [List.getElem?_toArray, List.getElem?_cons_succ, List.getElem?_cons_zero]; rfl
          case hw208 => rfl
          case hy208 => intro w hSw; (try dsimp only at hSw); first | (go_simp; done) | (go_simp; with_reducible rfl)
          case hq208 => intro _ _ _ h; exact h
          try simp only [Act.put, List.setIfInBounds_toArray, List.set_cons_zero, List.set_cons_succ]
          refine wpAnyH_take (i := 8) (oi := ?oi209) (v := ?v209) ?h209 (by kernel_rfl) (by kernel_rfl) (by kernel_rfl) ?hq209 (Or.inl ⟨?hw209, ?hy209⟩) hHeld ?rest209
          case h209 => simp only [List.getElem?_toArray, List.getElem?_cons_succ, List.getElem?_cons_zero]; rfl
          case hw209 => rfl
          case hy209 => intro w hSw; (try dsimp only at hSw); first | (go_simp; done) | (go_simp; with_reducible rfl)
          case hq209 => intro _ _ _ h; exact h
          try simp only [Act.put, List.setIfInBounds_toArray, List.set_cons_zero, List.set_cons_succ]
          refine wpAnyH_take (i := 9) (oi := ?oi210) (v := ?v210) ?h210 (by kernel_rfl) (by kernel_rfl) (by kernel_rfl) ?hq210 (Or.inl ⟨?hw210, ?hy210⟩) hHeld ?rest210
          case h210 => simp only [List.getElem?_toArray, List.getElem?_cons_succ, List.getElem?_cons_zero]; rfl
          case hw210 => rfl
          case hy210 => intro w hSw; (try dsimp only at hSw); first | (go_simp; done) | (go_simp; with_reducible rfl)
          case hq210 => intro _ _ _ h; exact h
          try simp only [Act.put, List.setIfInBounds_toArray, List.set_cons_zero, List.set_cons_succ]
          refine wpAnyH_take (i := 10) (oi := ?oi211) (v := ?v211) ?h211 (by kernel_rfl) (by kernel_rfl) (by kernel_rfl) ?hq211 (Or.inl ⟨?hw211, ?hy211⟩) hHeld ?rest211
          case h211 => simp only [List.getElem?_toArray, List.getElem?_cons_succ, List.getElem?_cons_zero]; rfl
          case hw211 => rfl
          case hy211 => intro w hSw; (try dsimp only at hSw); first | (go_simp; done) | (go_simp; with_reducible rfl)
          case hq211 => intro _ _ _ h; exact h
          try simp only [Act.put, List.setIfInBounds_toArray, List.set_cons_zero, List.set_cons_succ]
          refine wpAnyH_take (i := 11) (oi := ?oi212) (v := ?v212) ?h212 (by kernel_rfl) (by kernel_rfl) (by kernel_rfl) ?hq212 (Or.inl ⟨?hw212, ?hy212⟩) hHeld ?rest212
          case h212 => simp only [List.getElem?_toArray, List.getElem?_cons_succ, List.getElem?_cons_zero]; rfl
          case hw212 => rfl
          case hy212 => intro w hSw; (try dsimp only at hSw); first | (go_simp; done) | (go_simp; with_reducible rfl)
          case hq212 => intro _ _ _ h; exact h
          try simp only [Act.put, List.setIfInBounds_toArray, List.set_cons_zero, List.set_cons_succ]
          refine wpAnyH_take (i := 12) (oi := ?oi213) (v := ?v213) ?h213 (by kernel_rfl) (by kernel_rfl) (by kernel_rfl) ?hq213 (Or.inl ⟨?hw213, ?hy213⟩) hHeld ?rest213
          case h213 => simp only [List.getElem?_toArray, List.getElem?_cons_succ, List.getElem?_cons_zero]; rfl
          case hw213 => rfl
          case hy213 => intro w hSw; (try dsimp only at hSw); first | (go_simp; done) | (go_simp; with_reducible rfl)
          case hq213 => intro _ _ _ h; exact h
          try simp only [Act.put, List.setIfInBounds_toArray, List.set_cons_zero, List.set_cons_succ]
          refine wpAnyH_take (i := 13) (oi := ?oi214) (v := ?v214) ?h214 (by kernel_rfl) (by kernel_rfl) (by kernel_rfl) ?hq214 (Or.inl ⟨?hw214, ?hy214⟩) hHeld ?rest214
          case h214 => simp only [List.getElem?_toArray, List.getElem?_cons_succ, List.getElem?_cons_zero]; rfl
          case hw214 => rfl
          case hy214 => intro w hSw; (try dsimp only at hSw); first | (go_simp; done) | (go_simp; with_reducible rfl)
          case hq214 => intro _ _ _ h; exact h
          try simp only [Act.put, List.setIfInBounds_toArray, List.set_cons_zero, List.set_cons_succ]
          refine wpAnyH_take (i := 14) (oi := ?oi215) (v := ?v215) ?h215 (by kernel_rfl) (by kernel_rfl) (by kernel_rfl) ?hq215 (Or.inl ⟨?hw215, ?hy215⟩) hHeld ?rest215
          case h215 => simp only [List.getElem?_toArray, List.getElem?_cons_succ, List.getElem?_cons_zero]; rfl
          case hw215 => rfl
          case hy215 => intro w hSw; (try dsimp only at hSw); first | (go_simp; done) | (go_simp; with_reducible rfl)
          case hq215 => intro _ _ _ h; exact h
          try simp only [Act.put, List.setIfInBounds_toArray, List.set_cons_zero, List.set_cons_succ]
          refine wpAnyH_take (i := 15) (oi := ?oi216) (v := ?v216) ?h216 (by kernel_rfl) (by kernel_rfl) (by kernel_rfl) ?hq216 (Or.inl ⟨?hw216, ?hy216⟩) hHeld ?rest216
          case h216 => simp only [List.getElem?_toArray, List.getElem?_cons_succ, List.getElem?_cons_zero]; rfl
          case hw216 => rfl
          case hy216 => intro w hSw; (try dsimp only at hSw); first | (go_simp; done) | (go_simp; with_reducible rfl)
          case hq216 => intro _ _ _ h; exact h
          try simp only [Act.put, List.setIfInBounds_toArray, List.set_cons_zero, List.set_cons_succ]
          refine wpAnyH_take (i := 16) (oi := ?oi217) (v := ?v217) ?h217 (by kernel_rfl) (by kernel_rfl) (by kernel_rfl) ?hq217 (Or.inl ⟨?hw217, ?hy217⟩) hHeld ?rest217
          case h217 => simp only [List.getElem?_toArray, List.getElem?_cons_succ, List.getElem?_cons_zero]; rfl
          case hw217 => rfl
          case hy217 => intro w hSw; (try dsimp only at hSw); first | (go_simp; done) | (go_simp; with_reducible rfl)
          case hq217 => intro _ _ _ h; exact h
          try simp only [Act.put, List.setIfInBounds_toArray, List.set_cons_zero, List.set_cons_succ]
          refine wpAnyH_take (i := 17) (oi := ?oi218) (v := ?v218) ?h218 (by kernel_rfl) (by kernel_rfl) (by kernel_rfl) ?hq218 (Or.inl ⟨?hw218, ?hy218⟩) hHeld ?rest218
          case h218 => simp only [List.getElem?_toArray, List.getElem?_cons_succ, List.getElem?_cons_zero]; rfl
          case hw218 => rfl
          case hy218 => intro w hSw; (try dsimp only at hSw); first | (go_simp; done) | (go_simp; with_reducible rfl)
          case hq218 => intro _ _ _ h; exact h
          try simp only [Act.put, List.setIfInBounds_toArray, List.set_cons_zero, List.set_cons_succ]
          refine wpAnyH_take (i := 18) (oi := ?oi219) (v := ?v219) ?h219 (by kernel_rfl) (by kernel_rfl) (by kernel_rfl) ?hq219 (Or.inl ⟨?hw219, ?hy219⟩) hHeld ?rest219
          case h219 => simp only [List.getElem?_toArray, List.getElem?_cons_succ, List.getElem?_cons_zero]; rfl
          case hw219 => rfl
          case hy219 => intro w hSw; (try dsimp only at hSw); first | (go_simp; done) | (go_simp; with_reducible rfl)
          case hq219 => intro _ _ _ h; exact h
          try simp only [Act.put, List.setIfInBounds_toArray, List.set_cons_zero, List.set_cons_succ]
          refine wpAnyH_take (i := 19) (oi := ?oi220) (v := ?v220) ?h220 (by kernel_rfl) (by kernel_rfl) (by kernel_rfl) ?hq220 (Or.inl ⟨?hw220, ?hy220⟩) hHeld ?rest220
          case h220 => simp only [List.getElem?_toArray, List.getElem?_cons_succ, List.getElem?_cons_zero]; rfl
          case hw220 => rfl
          case hy220 => intro w hSw; (try dsimp only at hSw); first | (go_simp; done) | (go_simp; with_reducible rfl)
          case hq220 => intro _ _ _ h; exact h
          try simp only [Act.put, List.setIfInBounds_toArray, List.set_cons_zero, List.set_cons_succ]
          refine wpAnyH_take (i := 20) (oi := ?oi221) (v := ?v221) ?h221 (by kernel_rfl) (by kernel_rfl) (by kernel_rfl) ?hq221 (Or.inl ⟨?hw221, ?hy221⟩) hHeld ?rest221
          case h221 => simp only [List.getElem?_toArray, List.getElem?_cons_succ, List.getElem?_cons_zero]; rfl
          case hw221 => rfl
          case hy221 => intro w hSw; (try dsimp only at hSw); first | (go_simp; done) | (go_simp; with_reducible rfl)
          case hq221 => intro _ _ _ h; exact h
          try simp only [Act.put, List.setIfInBounds_toArray, List.set_cons_zero, List.set_cons_succ]
          refine wpAnyH_take (i := 21) (oi := ?oi222) (v := ?v222) ?h222 (by kernel_rfl) (by kernel_rfl) (by kernel_rfl) ?hq222 (Or.inl ⟨?hw222, ?hy222⟩) hHeld ?rest222
          case h222 => simp only [List.getElem?_toArray, List.getElem?_cons_succ, List.getElem?_cons_zero]; rfl
          case hw222 => rfl
          case hy222 => intro w hSw; (try dsimp only at hSw); first | (go_simp; done) | (go_simp; with_reducible rfl)
          case hq222 => intro _ _ _ h; exact h
          try simp only [Act.put, List.setIfInBounds_toArray, List.set_cons_zero, List.set_cons_succ]
          refine wpAnyH_take (i := 22) (oi := ?oi223) (v := ?v223) ?h223 (by kernel_rfl) (by kernel_rfl) (by kernel_rfl) ?hq223 (Or.inl ⟨?hw223, ?hy223⟩) hHeld ?rest223
          case h223 => simp only [List.getElem?_toArray, List.getElem?_cons_succ, List.getElem?_cons_zero]; rfl
          case hw223 => rfl
          case hy223 => intro w hSw; (try dsimp only at hSw); first | (go_simp; done) | (go_simp; with_reducible rfl)
          case hq223 => intro _ _ _ h; exact h
          try simp only [Act.put, List.setIfInBounds_toArray, List.set_cons_zero, List.set_cons_succ]
          refine wpAnyH_take (i := 23) (oi := ?oi224) (v := ?v224) ?h224 (by kernel_rfl) (by kernel_rfl) (by kernel_rfl) ?hq224 (Or.inl ⟨?hw224, ?hy224⟩) hHeld ?rest224
          case h224 => simp only [List.getElem?_toArray, List.getElem?_cons_succ, List.getElem?_cons_zero]; rfl
          case hw224 => rfl
          case hy224 => intro w hSw; (try dsimp only at hSw); first | (go_simp; done) | (go_simp; with_reducible rfl)
          case hq224 => intro _ _ _ h; exact h
          try simp only [Act.put, List.setIfInBounds_toArray, List.set_cons_zero, List.set_cons_succ]
          refine wpAnyH_take (i := 24) (oi := ?oi225) (v := ?v225) ?h225 (by kernel_rfl) (by kernel_rfl) (by kernel_rfl) ?hq225 (Or.inl ⟨?hw225, ?hy225⟩) hHeld ?rest225
          case h225 => simp only [List.getElem?_toArray, List.getElem?_cons_succ, List.getElem?_cons_zero]; rfl
          case hw225 => rfl
          case hy225 => intro w hSw; (try dsimp only at hSw); first | (go_simp; done) | (go_simp; with_reducible rfl)
          case hq225 => intro _ _ _ h; exact h
          try simp only [Act.put, List.setIfInBounds_toArray, List.set_cons_zero, List.set_cons_succ]
          refine wpAnyH_take (i := 25) (oi := ?oi226) (v := ?v226) ?h226 (by kernel_rfl) (by kernel_rfl) (by kernel_rfl) ?hq226 (Or.inl ⟨?hw226, ?hy226⟩) hHeld ?rest226
          case h226 => simp only [List.getElem?_toArray, List.getElem?_cons_succ, List.getElem?_cons_zero]; rfl
          case hw226 => rfl
          case hy226 => intro w hSw; (try dsimp only at hSw); first | (go_simp; done) | (go_simp; with_reducible rfl)
          case hq226 => intro _ _ _ h; exact h
          try simp only [Act.put, List.setIfInBounds_toArray, List.set_cons_zero, List.set_cons_succ]
          refine wpAnyH_done (by kernel_rfl) ?_ _
          have hA5 := HA4.out.step (Below.refl _ W4).drew
          have HA5 := Lib.hid hA5
          clear hA5
          go_wp2_with fail
          exact radd_fin HA5.out rfl rfl rfl

      · rw [e1, Bool.true_or, if_pos rfl] at hfs
        have hNv : N = 6 := by rw [hN.out, hn128, hfs]
        have hLv : l = L := by rw [hL.out]; unfold addF; rw [← hN.out, hNv, if_neg (by decide)]
        subst hNv; subst hLv
        clear hN hL hn128 h0 hok hfs
        go_upto_region 10 with (fail)
        refine wp_region_held_drew (S := fun W => W.cell? ⟨B, 0, none⟩ = some (.slice (some ⟨b, o, none⟩) l.length c) ∧ W.cell? ⟨B + 1, 0, none⟩ = some (.int .i64 d.day) ∧ W.cell? ⟨B + 1, 1, none⟩ = some (.int .i64 d.known) ∧ W.cell? ⟨b, o + m * 5, none⟩ = some (.int .i64 ld) ∧ W.cell? ⟨b, o + m * 5 + 1, none⟩ = some (.int .i64 lk)) (by kernel_rfl) ⟨q0, x0, x1, v0, v1⟩ (fun hHeld => ?_)
        refine wpAnyH_take (i := 0) (oi := ?oi301) (v := ?v301) ?h301 (by kernel_rfl) (by kernel_rfl) (by kernel_rfl) ?hq301 (Or.inl ⟨?hw301, ?hy301⟩) hHeld ?rest301
        case h301 => simp only [List.getElem?_toArray, List.getElem?_cons_succ, List.getElem?_cons_zero]; rfl
        case hw301 => rfl
        case hy301 => intro w hSw; (try dsimp only at hSw); first | (go_simp; done) | (go_simp; with_reducible rfl)
        case hq301 => intro _ _ _ h; exact h
        try simp only [Act.put, List.setIfInBounds_toArray, List.set_cons_zero, List.set_cons_succ]
        refine wpAnyH_take (i := 1) (oi := ?oi302) (v := ?v302) ?h302 (by kernel_rfl) (by kernel_rfl) (by kernel_rfl) ?hq302 (Or.inl ⟨?hw302, ?hy302⟩) hHeld ?rest302
        case h302 => simp only [List.getElem?_toArray, List.getElem?_cons_succ, List.getElem?_cons_zero]; rfl
        case hw302 => rfl
        case hy302 => intro w hSw; (try dsimp only at hSw); first | (go_simp; done) | (go_simp; with_reducible rfl)
        case hq302 => intro _ _ _ h; exact h
        try simp only [Act.put, List.setIfInBounds_toArray, List.set_cons_zero, List.set_cons_succ]
        refine wpAnyH_take (i := 2) (oi := ?oi303) (v := ?v303) ?h303 (by kernel_rfl) (by kernel_rfl) (by kernel_rfl) ?hq303 (Or.inl ⟨?hw303, ?hy303⟩) hHeld ?rest303
        case h303 => simp only [List.getElem?_toArray, List.getElem?_cons_succ, List.getElem?_cons_zero]; rfl
        case hw303 => rfl
        case hy303 => intro w hSw; (try dsimp only at hSw); first | (go_simp; done) | (go_simp; with_reducible rfl)
        case hq303 => intro _ _ _ h; exact h
        try simp only [Act.put, List.setIfInBounds_toArray, List.set_cons_zero, List.set_cons_succ]
        refine wpAnyH_take (i := 3) (oi := ?oi304) (v := ?v304) ?h304 (by kernel_rfl) (by kernel_rfl) (by kernel_rfl) ?hq304 (Or.inl ⟨?hw304, ?hy304⟩) hHeld ?rest304
        case h304 => simp only [List.getElem?_toArray, List.getElem?_cons_succ, List.getElem?_cons_zero]; rfl
        case hw304 => rfl
        case hy304 => intro w hSw; (try dsimp only at hSw); first | (go_simp; done) | (go_simp; with_reducible rfl)
        case hq304 => intro _ _ _ h; exact h
        try simp only [Act.put, List.setIfInBounds_toArray, List.set_cons_zero, List.set_cons_succ]
        refine wpAnyH_take (i := 4) (oi := ?oi305) (v := ?v305) ?h305 (by kernel_rfl) (by kernel_rfl) (by kernel_rfl) ?hq305 (Or.inl ⟨?hw305, ?hy305⟩) hHeld ?rest305
        case h305 => simp only [List.getElem?_toArray, List.getElem?_cons_succ, List.getElem?_cons_zero]; rfl
        case hw305 => rfl
        case hy305 => intro w hSw; (try dsimp only at hSw); first | (go_simp; done) | (go_simp; with_reducible rfl)
        case hq305 => intro _ _ _ h; exact h
        try simp only [Act.put, List.setIfInBounds_toArray, List.set_cons_zero, List.set_cons_succ]
        refine wpAnyH_take (i := 5) (oi := ?oi306) (v := ?v306) ?h306 (by kernel_rfl) (by kernel_rfl) (by kernel_rfl) ?hq306 (Or.inl ⟨?hw306, ?hy306⟩) hHeld ?rest306
        case h306 => simp only [List.getElem?_toArray, List.getElem?_cons_succ, List.getElem?_cons_zero]; rfl
        case hw306 => rfl
        case hy306 => intro w hSw; (try dsimp only at hSw); first | (go_simp; done) | (go_simp; with_reducible rfl)
        case hq306 => intro _ _ _ h; exact h
        try simp only [Act.put, List.setIfInBounds_toArray, List.set_cons_zero, List.set_cons_succ]
        refine wpAnyH_take (i := 6) (oi := ?oi307) (v := ?v307) ?h307 (by kernel_rfl) (by kernel_rfl) (by kernel_rfl) ?hq307 (Or.inl ⟨?hw307, ?hy307⟩) hHeld ?rest307
        case h307 => simp only [List.getElem?_toArray, List.getElem?_cons_succ, List.getElem?_cons_zero]; rfl
        case hw307 => rfl
        case hy307 => intro w hSw; (try dsimp only at hSw); first | (go_simp; done) | (go_simp; with_reducible rfl)
        case hq307 => intro _ _ _ h; exact h
        try simp only [Act.put, List.setIfInBounds_toArray, List.set_cons_zero, List.set_cons_succ]
        refine wpAnyH_take (i := 7) (oi := ?oi308) (v := ?v308) ?h308 (by kernel_rfl) (by kernel_rfl) (by kernel_rfl) ?hq308 (Or.inl ⟨?hw308, ?hy308⟩) hHeld ?rest308
        case h308 => simp only [List.getElem?_toArray, List.getElem?_cons_succ, List.getElem?_cons_zero]; rfl
        case hw308 => rfl
        case hy308 => intro w hSw; (try dsimp only at hSw); first | (go_simp; done) | (go_simp; with_reducible rfl)
        case hq308 => intro _ _ _ h; exact h
        try simp only [Act.put, List.setIfInBounds_toArray, List.set_cons_zero, List.set_cons_succ]
        refine wpAnyH_take (i := 8) (oi := ?oi309) (v := ?v309) ?h309 (by kernel_rfl) (by kernel_rfl) (by kernel_rfl) ?hq309 (Or.inl ⟨?hw309, ?hy309⟩) hHeld ?rest309
        case h309 => simp only [List.getElem?_toArray, List.getElem?_cons_succ, List.getElem?_cons_zero]; rfl
        case hw309 => rfl
        case hy309 => intro w hSw; (try dsimp only at hSw); first | (go_simp; done) | (go_simp; with_reducible rfl)
        case hq309 => intro _ _ _ h; exact h
        try simp only [Act.put, List.setIfInBounds_toArray, List.set_cons_zero, List.set_cons_succ]
        refine wpAnyH_take (i := 9) (oi := ?oi310) (v := ?v310) ?h310 (by kernel_rfl) (by kernel_rfl) (by kernel_rfl) ?hq310 (Or.inl ⟨?hw310, ?hy310⟩) hHeld ?rest310
        case h310 => simp only [List.getElem?_toArray, List.getElem?_cons_succ, List.getElem?_cons_zero]; rfl
        case hw310 => rfl
        case hy310 => intro w hSw; (try dsimp only at hSw); first | (go_simp; done) | (go_simp; with_reducible rfl)
        case hq310 => intro _ _ _ h; exact h
        try simp only [Act.put, List.setIfInBounds_toArray, List.set_cons_zero, List.set_cons_succ]
        refine wpAnyH_take (i := 10) (oi := ?oi311) (v := ?v311) ?h311 (by kernel_rfl) (by kernel_rfl) (by kernel_rfl) ?hq311 (Or.inl ⟨?hw311, ?hy311⟩) hHeld ?rest311
        case h311 => simp only [List.getElem?_toArray, List.getElem?_cons_succ, List.getElem?_cons_zero]; rfl
        case hw311 => rfl
        case hy311 => intro w hSw; (try dsimp only at hSw); first | (go_simp; done) | (go_simp; with_reducible rfl)
        case hq311 => intro _ _ _ h; exact h
        try simp only [Act.put, List.setIfInBounds_toArray, List.set_cons_zero, List.set_cons_succ]
        refine wpAnyH_take (i := 11) (oi := ?oi312) (v := ?v312) ?h312 (by kernel_rfl) (by kernel_rfl) (by kernel_rfl) ?hq312 (Or.inl ⟨?hw312, ?hy312⟩) hHeld ?rest312
        case h312 => simp only [List.getElem?_toArray, List.getElem?_cons_succ, List.getElem?_cons_zero]; rfl
        case hw312 => rfl
        case hy312 => intro w hSw; (try dsimp only at hSw); first | (go_simp; done) | (go_simp; with_reducible rfl)
        case hq312 => intro _ _ _ h; exact h
        try simp only [Act.put, List.setIfInBounds_toArray, List.set_cons_zero, List.set_cons_succ]
        refine wpAnyH_take (i := 12) (oi := ?oi313) (v := ?v313) ?h313 (by kernel_rfl) (by kernel_rfl) (by kernel_rfl) ?hq313 (Or.inl ⟨?hw313, ?hy313⟩) hHeld ?rest313
        case h313 => simp only [List.getElem?_toArray, List.getElem?_cons_succ, List.getElem?_cons_zero]; rfl
        case hw313 => rfl
        case hy313 => intro w hSw; (try dsimp only at hSw); first | (go_simp; done) | (go_simp; with_reducible rfl)
        case hq313 => intro _ _ _ h; exact h
        try simp only [Act.put, List.setIfInBounds_toArray, List.set_cons_zero, List.set_cons_succ]
        refine wpAnyH_take (i := 13) (oi := ?oi314) (v := ?v314) ?h314 (by kernel_rfl) (by kernel_rfl) (by kernel_rfl) ?hq314 (Or.inl ⟨?hw314, ?hy314⟩) hHeld ?rest314
        case h314 => simp only [List.getElem?_toArray, List.getElem?_cons_succ, List.getElem?_cons_zero]; rfl
        case hw314 => rfl
        case hy314 => intro w hSw; (try dsimp only at hSw); first | (go_simp; done) | (go_simp; with_reducible rfl)
        case hq314 => intro _ _ _ h; exact h
        try simp only [Act.put, List.setIfInBounds_toArray, List.set_cons_zero, List.set_cons_succ]
        refine wpAnyH_take (i := 14) (oi := ?oi315) (v := undef) ?h315 (by kernel_rfl) (by kernel_rfl) (by kernel_rfl) ?hq315 (Or.inr ⟨?hw315, ?hy315⟩) hHeld ?rest315
        case h315 => simp only [List.getElem?_toArray, List.getElem?_cons_succ, List.getElem?_cons_zero]; rfl
        case hw315 => rfl
        case hy315 => rfl
        case hq315 => intro _ _ _ h; exact h
        try simp only [Act.put, List.setIfInBounds_toArray, List.set_cons_zero, List.set_cons_succ]
        refine wpAnyH_take (i := 15) (oi := ?oi316) (v := undef) ?h316 (by kernel_rfl) (by kernel_rfl) (by kernel_rfl) ?hq316 (Or.inr ⟨?hw316, ?hy316⟩) hHeld ?rest316
        case h316 => simp only [List.getElem?_toArray, List.getElem?_cons_succ, List.getElem?_cons_zero]; rfl
        case hw316 => rfl
        case hy316 => rfl
        case hq316 => intro _ _ _ h; exact h
        try simp only [Act.put, List.setIfInBounds_toArray, List.set_cons_zero, List.set_cons_succ]
        refine wpAnyH_take (i := 16) (oi := ?oi317) (v := undef) ?h317 (by kernel_rfl) (by kernel_rfl) (by kernel_rfl) ?hq317 (Or.inr ⟨?hw317, ?hy317⟩) hHeld ?rest317
        case h317 => simp only [List.getElem?_toArray, List.getElem?_cons_succ, List.getElem?_cons_zero]; rfl
        case hw317 => rfl
        case hy317 => rfl
        case hq317 => intro _ _ _ h; exact h
        try simp only [Act.put, List.setIfInBounds_toArray, List.set_cons_zero, List.set_cons_succ]
        refine wpAnyH_take (i := 17) (oi := ?oi318) (v := undef) ?h318 (by kernel_rfl) (by kernel_rfl) (by kernel_rfl) ?hq318 (Or.inr ⟨?hw318, ?hy318⟩) hHeld ?rest318
        case h318 => simp only [List.getElem?_toArray, List.getElem?_cons_succ, List.getElem?_cons_zero]; rfl
        case hw318 => rfl
        case hy318 => rfl
        case hq318 => intro _ _ _ h; exact h
        try simp only [Act.put, List.setIfInBounds_toArray, List.set_cons_zero, List.set_cons_succ]
        refine wpAnyH_take (i := 18) (oi := ?oi319) (v := undef) ?h319 (by kernel_rfl) (by kernel_rfl) (by kernel_rfl) ?hq319 (Or.inr ⟨?hw319, ?hy319⟩) hHeld ?rest319
        case h319 => simp only [List.getElem?_toArray, List.getElem?_cons_succ, List.getElem?_cons_zero]; rfl
        case hw319 => rfl
        case hy319 => rfl
        case hq319 => intro _ _ _ h; exact h
        try simp only [Act.put, List.setIfInBounds_toArray, List.set_cons_zero, List.set_cons_succ]
        refine wpAnyH_take (i := 19) (oi := ?oi320) (v := undef) ?h320 (by kernel_rfl) (by kernel_rfl) (by kernel_rfl) ?hq320 (Or.inr ⟨?hw320, ?hy320⟩) hHeld ?rest320
        case h320 => simp only [List.getElem?_toArray, List.getElem?_cons_succ, List.getElem?_cons_zero]; rfl
        case hw320 => rfl
        case hy320 => rfl
        case hq320 => intro _ _ _ h; exact h
        try simp only [Act.put, List.setIfInBounds_toArray, List.set_cons_zero, List.set_cons_succ]
        refine wpAnyH_take (i := 20) (oi := ?oi321) (v := undef) ?h321 (by kernel_rfl) (by kernel_rfl) (by kernel_rfl) ?hq321 (Or.inr ⟨?hw321, ?hy321⟩) hHeld ?rest321
        case h321 => simp only [List.getElem?_toArray, List.getElem?_cons_succ, List.getElem?_cons_zero]; rfl
        case hw321 => rfl
        case hy321 => rfl
        case hq321 => intro _ _ _ h; exact h
        try simp only [Act.put, List.setIfInBounds_toArray, List.set_cons_zero, List.set_cons_succ]
        refine wpAnyH_take (i := 21) (oi := ?oi322) (v := undef) ?h322 (by kernel_rfl) (by kernel_rfl) (by kernel_rfl) ?hq322 (Or.inr ⟨?hw322, ?hy322⟩) hHeld ?rest322
        case h322 => simp only [List.getElem?_toArray, List.getElem?_cons_succ, List.getElem?_cons_zero]; rfl
        case hw322 => rfl
        case hy322 => rfl
        case hq322 => intro _ _ _ h; exact h
        try simp only [Act.put, List.setIfInBounds_toArray, List.set_cons_zero, List.set_cons_succ]
        refine wpAnyH_take (i := 22) (oi := ?oi323) (v := undef) ?h323 (by kernel_rfl) (by kernel_rfl) (by kernel_rfl) ?hq323 (Or.inr ⟨?hw323, ?hy323⟩) hHeld ?rest323
        case h323 => simp only [List.getElem?_toArray, List.getElem?_cons_succ, List.getElem?_cons_zero]; rfl
        case hw323 => rfl
        case hy323 => rfl
        case hq323 => intro _ _ _ h; exact h
        try simp only [Act.put, List.setIfInBounds_toArray, List.set_cons_zero, List.set_cons_succ]
        refine wpAnyH_take (i := 23) (oi := ?oi324) (v := undef) ?h324 (by kernel_rfl) (by kernel_rfl) (by kernel_rfl) ?hq324 (Or.inr ⟨?hw324, ?hy324⟩) hHeld ?rest324
        case h324 => simp only [List.getElem?_toArray, List.getElem?_cons_succ, List.getElem?_cons_zero]; rfl
        case hw324 => rfl
        case hy324 => rfl
        case hq324 => intro _ _ _ h; exact h
        try simp only [Act.put, List.setIfInBounds_toArray, List.set_cons_zero, List.set_cons_succ]
        refine wpAnyH_take (i := 24) (oi := ?oi325) (v := ?v325) ?h325 (by kernel_rfl) (by kernel_rfl) (by kernel_rfl) ?hq325 (Or.inl ⟨?hw325, ?hy325⟩) hHeld ?rest325
        case h325 => simp only [List.getElem?_toArray, List.getElem?_cons_succ, List.getElem?_cons_zero]; rfl
        case hw325 => rfl
        case hy325 => intro w hSw; (try dsimp only at hSw); first | (go_simp; done) | (go_simp; with_reducible rfl)
        case hq325 => intro _ _ _ h; exact h
        try simp only [Act.put, List.setIfInBounds_toArray, List.set_cons_zero, List.set_cons_succ]
        refine wpAnyH_take (i := 25) (oi := ?oi326) (v := ?v326) ?h326 (by kernel_rfl) (by kernel_rfl) (by kernel_rfl) ?hq326 (Or.inl ⟨?hw326, ?hy326⟩) hHeld ?rest326
        case h326 => simp only [List.getElem?_toArray, List.getElem?_cons_succ, List.getElem?_cons_zero]; rfl
        case hw326 => rfl
        case hy326 => intro w hSw; (try dsimp only at hSw); first | (go_simp; done) | (go_simp; with_reducible rfl)
        case hq326 => intro _ _ _ h; exact h
        try simp only [Act.put, List.setIfInBounds_toArray, List.set_cons_zero, List.set_cons_succ]
        refine wpAnyH_done (by kernel_rfl) ?_ _
        have hA5 := HA4.out.step (Below.refl _ W4).drew
        have HA5 := Lib.hid hA5
        clear hA5
        go_wp2_with fail
        exact radd_fin HA5.out rfl rfl rfl

theorem refadd_any (w : World) {p : Option Addr} {c : Nat} (l : List Dec) (d : Dec) (hg : Good l) (hl : l.length ≤ 127) (hr : Reads w p l) (hnone : p = none → c = 0) :
    Calls Try.prog 20 #[.agg #[.slice p l.length c], d.val] w (RAddPost w (addF l d) (addN l d)) :=
  refadd_walk w l d hg hl hr hnone (Lib.hid rfl) (Lib.hid rfl)
end Go.Proofs.Ytogcpjkgliijmaa
