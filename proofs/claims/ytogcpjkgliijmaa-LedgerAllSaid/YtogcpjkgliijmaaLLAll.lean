/- The walk of LedgerAll. -/
import Derived.Test.YtogcpjkgliijmaaAllI
import Derived.Test.YtogcpjkgliijmaaRLatest
import Derived.Test.YtogcpjkgliijmaaRThen
import Derived.Test.YtogcpjkgliijmaaRChanged
import Derived.Test.YtogcpjkgliijmaaSInts
import Derived.Test.YtogcpjkgliijmaaLAwake
import Derived.Deep.CutRange
import Derived.Deep.DeepCutAuto
namespace Go.Proofs.Ytogcpjkgliijmaa
open Go.RowKit
attribute [local go_sem ↓] Go.wp_at_zero Go.wp_at_succ

set_option maxRecDepth 100000 in
set_option maxHeartbeats 2000000 in
theorem llall_heavy (w : World) (a : Option Addr) (n c : Nat) (pr : Option Addr) (nr cr : Nat) (d : Dec) (x y z : Int) (h : decide (n ≤ 400) = false) :
    Calls Try.prog 3 #[.slice a n c, .agg #[.slice pr nr cr], d.val, .int .i64 x, .int .i64 y, .int .i64 z] w fun e w' => e = .returned (.bool true) ∧ Below w.heap.size w w' := by
  have hb0 : Below w.heap.size w ((w.alloc (.cells #[.slice pr nr cr] 25)).alloc (.cells #[.int .i64 d.day, .int .i64 d.known, .int .i64 d.kind, .int .i64 d.subj, .int .i64 d.value] 27)) := ((Below.refl _ _).alloc (Nat.le_refl _) _).alloc (by simp) _
  have HB0 := Lib.hid hb0; clear hb0
  unfold Dec.val
  go_enter Try.func3, Try.ntmps3
  go_wp2_with fail
  refine (light_any a n c false _ h).mono ?_
  rintro e w1 ⟨rfl, rfl⟩
  go_wp2_with fail
  refine (lawake_any _).mono ?_
  rintro e w2 ⟨rfl, hb⟩
  go_wp2_with fail
  go_ret
  exact ⟨rfl, below_step HB0.out hb⟩

set_option maxRecDepth 100000 in
set_option maxHeartbeats 2000000 in
theorem llall_torn (w : World) (a : Option Addr) (n c : Nat) (pr : Option Addr) (nr cr : Nat) (d : Dec) (x y z : Int) (h : decide (n ≤ 400) = true) (h2 : decide ((140 : Int) < (nr : Int)) = true) :
    Calls Try.prog 3 #[.slice a n c, .agg #[.slice pr nr cr], d.val, .int .i64 x, .int .i64 y, .int .i64 z] w fun e w' => e = .returned (.bool true) ∧ Below w.heap.size w w' := by
  have hb0 : Below w.heap.size w ((w.alloc (.cells #[.slice pr nr cr] 25)).alloc (.cells #[.int .i64 d.day, .int .i64 d.known, .int .i64 d.kind, .int .i64 d.subj, .int .i64 d.value] 27)) := ((Below.refl _ _).alloc (Nat.le_refl _) _).alloc (by simp) _
  have HB0 := Lib.hid hb0; clear hb0
  have r0 : ((w.alloc (.cells #[.slice pr nr cr] 25)).alloc (.cells #[.int .i64 d.day, .int .i64 d.known, .int .i64 d.kind, .int .i64 d.subj, .int .i64 d.value] 27)).cell? ⟨w.heap.size, 0, none⟩ = some (.slice pr nr cr) := by rw [World.cell?_alloc_lt _ _ _ (by simp)]; simp
  unfold Dec.val
  go_enter Try.func3, Try.ntmps3
  go_wp2_with fail
  refine (light_any a n c true _ h).mono ?_
  rintro e w1 ⟨rfl, rfl⟩
  go_wp2_with fail
  refine (lawake_any _).mono ?_
  rintro e w2 ⟨rfl, hb⟩
  go_wp2_with fail
  go_ret
  exact ⟨rfl, below_step HB0.out hb⟩

set_option maxRecDepth 100000 in
set_option maxHeartbeats 16000000 in
theorem llall_light (w : World) (a : Option Addr) (n c : Nat) (pr : Option Addr) (cr : Nat) (lr : List Dec) (d : Dec) (x y z : Int) (hx : -9223372036854775808 ≤ x ∧ x ≤ 9223372036854775807) (hy : -9223372036854775808 ≤ y ∧ y ≤ 9223372036854775807) (hz : -9223372036854775808 ≤ z ∧ z ≤ 9223372036854775807)
    (h : decide (n ≤ 400) = true) (hi : Ints w w.heap.size a n) (hlr : lr.length ≤ 140) (hcr : lr.length ≤ cr) (hrr : Reads w pr lr) :
    Calls Try.prog 3 #[.slice a n c, .agg #[.slice pr lr.length cr], d.val, .int .i64 x, .int .i64 y, .int .i64 z] w fun e w' => e = .returned (.bool true) ∧ Below w.heap.size w w' := by
  have h400 : n ≤ 400 := by simpa using h
  obtain ⟨hx0, hx1⟩ := hx
  obtain ⟨hy0, hy1⟩ := hy
  obtain ⟨hz0, hz1⟩ := hz
  obtain ⟨R, hR⟩ : ∃ R, R = w.heap.size := ⟨_, rfl⟩
  have hb0 : Below w.heap.size w ((w.alloc (.cells #[.slice pr lr.length cr] 25)).alloc (.cells #[.int .i64 d.day, .int .i64 d.known, .int .i64 d.kind, .int .i64 d.subj, .int .i64 d.value] 27)) := ((Below.refl _ _).alloc (Nat.le_refl _) _).alloc (by simp) _
  have hr0 : ((w.alloc (.cells #[.slice pr lr.length cr] 25)).alloc (.cells #[.int .i64 d.day, .int .i64 d.known, .int .i64 d.kind, .int .i64 d.subj, .int .i64 d.value] 27)).cell? ⟨R, 0, none⟩ = some (.slice pr lr.length cr) := by rw [hR, World.cell?_alloc_lt _ _ _ (by simp)]; simp
  have hx5 : D5 ((w.alloc (.cells #[.slice pr lr.length cr] 25)).alloc (.cells #[.int .i64 d.day, .int .i64 d.known, .int .i64 d.kind, .int .i64 d.subj, .int .i64 d.value] 27)) (R + 1) d := by
    rw [hR, show w.heap.size + 1 = (w.alloc (.cells #[.slice pr lr.length cr] 25)).heap.size by simp]
    exact ⟨by simp, by simp, by simp, by simp, by simp⟩
  have hi1 : Ints ((w.alloc (.cells #[.slice pr lr.length cr] 25)).alloc (.cells #[.int .i64 d.day, .int .i64 d.known, .int .i64 d.kind, .int .i64 d.subj, .int .i64 d.value] 27)) ((w.alloc (.cells #[.slice pr lr.length cr] 25)).alloc (.cells #[.int .i64 d.day, .int .i64 d.known, .int .i64 d.kind, .int .i64 d.subj, .int .i64 d.value] 27)).heap.size a n := by
    rcases hi with h | ⟨b, o, ha, hb, h⟩
    · exact .inl h
    · refine .inr ⟨b, o, ha, by simp; omega, fun j hj => ?_⟩
      obtain ⟨q, hq, h1, h2⟩ := h j hj
      exact ⟨q, cell_later hb0 hq, h1, h2⟩
  have hsz0 : ((w.alloc (.cells #[.slice pr lr.length cr] 25)).alloc (.cells #[.int .i64 d.day, .int .i64 d.known, .int .i64 d.kind, .int .i64 d.subj, .int .i64 d.value] 27)).heap.size = R + 2 := by rw [hR]; simp
  have cR := roll_any a n c _ h400 hi1
  have hlr2 : decide ((140 : Int) < (lr.length : Int)) = false := by rw [decide_eq_false_iff_not]; omega
  have HB0 := Lib.hid hb0; have CR := Lib.hid cR; have HR := Lib.hid hR; have HX5 := Lib.hid hx5; have HSZ := Lib.hid hsz0; have HRR := Lib.hid hrr; have HR0 := Lib.hid hr0
  clear hb0 hi1 hi cR hx5 hsz0 hrr
  unfold Dec.val
  go_enter Try.func3, Try.ntmps3
  go_wp2_with fail
  rw [← hR]
  generalize (w.alloc (.cells #[.slice pr lr.length cr] 25)).alloc (.cells #[.int .i64 d.day, .int .i64 d.known, .int .i64 d.kind, .int .i64 d.subj, .int .i64 d.value] 27) = w0 at *
  clear hR
  refine (light_any a n c true _ h).mono ?_
  rintro e w0' ⟨rfl, rfl⟩
  go_wp2_with fail
  refine CR.out.mono ?_
  rintro e w1 ⟨rfl, hd, hb1⟩
  obtain ⟨g, hg⟩ : ∃ g, g = w0'.heap.size := ⟨_, rfl⟩
  rw [← hg] at hd ⊢
  have hgR : g = R + 2 := by rw [hg]; exact HSZ.out
  have hb01 : Below w.heap.size w w1 := below_step HB0.out hb1
  have hx51 : D5 w1 (R + 1) d := by
    obtain ⟨x0, x1, x2, x3, x4⟩ := HX5.out
    exact ⟨cell_later hb1 x0, cell_later hb1 x1, cell_later hb1 x2, cell_later hb1 x3, cell_later hb1 x4⟩
  have hr1 := cell_later hb1 hr0
  clear h h400 CR hb1 hr0
  have HB1 := Lib.hid hb01; have HX1 := Lib.hid hx51; have HR1 := Lib.hid hr1; have HG := Lib.hid hgR; clear hb01 hx51 hr1 hg hgR HX5 HSZ HR0
  go_wp2_with fail
  refine (ledger_any w1 g 12 hd (by omega)).mono ?_
  rintro e w2 ⟨l, p, q, rfl, hgd, hl, hq, hs, hxr, hd2, hg2⟩
  have hld := dec_small hs hgd (by omega)
  obtain ⟨ld, hldd⟩ : ∃ ld, ld = l.getLastD dz := ⟨_, rfl⟩
  rw [← hldd] at hld
  have hdl := hd.lt
  obtain ⟨A, hA⟩ : ∃ A, A = w2.heap.size := ⟨_, rfl⟩
  have hb2a : Below w2.heap.size w2 (w2.alloc (.cells #[.slice p l.length q] 25)) := (Below.refl _ _).alloc (Nat.le_refl _) _
  have hRw := HR.out
  have hGw := HG.out
  have hlg : LG w (w2.alloc (.cells #[.slice p l.length q] 25)) R A g pr p cr q lr l := by
    have hg3 := hg2.trans (grown_of_below hb2a (some g))
    refine ⟨hg3.cell HR1.out (by simp; omega), by rw [hA]; simp, ?_, ?_, by omega, by have := hg2.size; omega, below_grown_some HB1.out hg3 (by omega), by omega⟩
    · rcases HRR.out with h0 | ⟨b, o, hp, hrow⟩
      · exact .inl h0
      · by_cases hl0 : lr = []
        · exact .inl hl0
        · have hpos : 0 < lr.length := List.length_pos_iff.2 hl0
          have hbl := World.block_lt_of_cell? _ _ (hrow 0 hpos).1
          simp only at hbl
          exact .inr ⟨b, o, hp, by omega, (hrow.mono HB1.out).grown hg3 (by omega)⟩
    · rcases hxr with h0 | ⟨b, hp, hb, hrow⟩
      · exact .inl h0
      · exact .inr ⟨b, 0, hp, by omega, hrow.mono hb2a⟩
  have hx52 : D5 (w2.alloc (.cells #[.slice p l.length q] 25)) (R + 1) d := HX1.out.grown (hg2.trans (grown_of_below hb2a (some g))) (by omega)
  have hd3 := hd2.below hb2a
  have hA2 : A + 1 = (w2.alloc (.cells #[.slice p l.length q] 25)).heap.size := by rw [hA]; simp
  have HLG := Lib.hid hlg; have HX2 := Lib.hid hx52; have HD := Lib.hid hd3; have HLD := Lib.hid hldd; have HGD := Lib.hid hgd
  clear hd hd2 hg2 hxr hs hlg hx52 hd3 HR1 HX1 HRR hldd hgd HB1 hdl hb2a hRw hGw HB0 HR
  go_upto_region 5 with (fail)
  rw [← hA]
  generalize w2.alloc (.cells #[.slice p l.length q] 25) = w3 at *
  clear hA
  go_upto_region 6 with (fail)
  have hb3 : Below w3.heap.size w3 (w3.alloc (.cells #[.int .i64 0, .int .i64 0, .int .i64 0, .int .i64 0, .int .i64 0] 27)) := (Below.refl _ _).alloc (Nat.le_refl _) _
  have hlg4 := HLG.out.mono hb3
  have hXg : R + 1 ≠ g := by have := HG.out; omega
  have hzf : (w3.alloc (.cells #[.int .i64 0, .int .i64 0, .int .i64 0, .int .i64 0, .int .i64 0] 27)).heap[A + 1]? = some (.cells #[.int .i64 0, .int .i64 0, .int .i64 0, .int .i64 0, .int .i64 0] 27 (0, 0)) := by rw [hA2]; exact heap_alloc_new _ _
  have S1 := Lib.hid (st_last (ld := ld) HLG.out HD.out HX2.out hXg hA2)
  have S0 := Lib.hid (st_zero HLG.out HD.out HX2.out hXg hA2)
  rw [← hA2]
  generalize w3.alloc (.cells #[.int .i64 0, .int .i64 0, .int .i64 0, .int .i64 0, .int .i64 0] 27) = w4 at *
  have HL4 := Lib.hid hlg4; have HZF := Lib.hid hzf
  have HLDS := Lib.hid hld
  have HLQ := Lib.hid hq
  have ka := hlg4.a
  clear hb3 hlg4 hzf HLG HD HX2 hA2 hld hq hXg
  go_upto_if 54 with (fail)
  go_cut [] from 55 to 60 (fun wc => ST w wc R A g pr p cr q lr l (R + 1) (A + 1) d ld)
  case first =>
    by_cases hn : 0 < l.length
    · have hnb : decide ((0 : Int) < (l.length : Int)) = true := by rw [decide_eq_true_eq]; omega
      have hnb2 : decide (0 < l.length) = true := by rw [decide_eq_true_eq]; omega
      obtain ⟨b, o, rfl, hbg, hrow⟩ : ∃ b o, p = some ⟨b, o, none⟩ ∧ b ≠ g ∧ Row w4 b o l := by
        rcases HL4.out.ra with h0 | h0
        · rw [h0] at hn; simp at hn
        · exact h0
      obtain ⟨e0, e1, e2, e3, e4⟩ := hrow (l.length - 1) (by omega)
      rw [← getLastD_eq hn, ← HLD.out] at e0 e1 e2 e3 e4
      have kz0 := cell_of_row _ (A + 1) 0 _ _ _ HZF.out
      have kz1 := cell_of_row _ (A + 1) 1 _ _ _ HZF.out
      have kz2 := cell_of_row _ (A + 1) 2 _ _ _ HZF.out
      have kz3 := cell_of_row _ (A + 1) 3 _ _ _ HZF.out
      have kz4 := cell_of_row _ (A + 1) 4 _ _ _ HZF.out
      have kf0 : w4.frozen? ⟨A + 1, 0, none⟩ = false := by simp [World.frozen?, HZF.out]
      have kf1 : w4.frozen? ⟨A + 1, 1, none⟩ = false := by simp [World.frozen?, HZF.out]
      have kf2 : w4.frozen? ⟨A + 1, 2, none⟩ = false := by simp [World.frozen?, HZF.out]
      have kf3 : w4.frozen? ⟨A + 1, 3, none⟩ = false := by simp [World.frozen?, HZF.out]
      have kf4 : w4.frozen? ⟨A + 1, 4, none⟩ = false := by simp [World.frozen?, HZF.out]
      have hi0 : (0 : Int) ≤ (l.length : Int) - 1 := by omega
      have hi1 : (l.length : Int) - 1 < (l.length : Int) := by omega
      simp at kz0 kz1 kz2 kz3 kz4
      clear hrow
      go_wp2_with fail
      go_meet
      exact S1.out
    · have hnb : decide (0 < l.length) = false := by rw [decide_eq_false_iff_not]; exact hn
      have hl0 : l = [] := List.length_eq_zero_iff.1 (by omega)
      have hd0 : ld = ⟨0, 0, 0, 0, 0⟩ := by rw [HLD.out, hl0]; rfl
      have H0 := Lib.hid hd0; clear hl0 hd0
      go_wp2_with fail
      go_meet
      rw [H0.out]; exact S0.out
  case rest =>
    have HST := Lib.hid hcut; clear hcut HL4 HZF S1 S0 ka
    go_upto_region 9 with (fail)
    have hT := HST.out.drew
    obtain ⟨⟨s0, s1⟩, s2, s3⟩ := HLDS.out
    have CD := Lib.hid (st_decide (w := w) (R := R) (A := A) (g := g) (pr := pr) (p := p) (cr := cr) (q := q) (lr := lr) (l := l) (X := R + 1) (L := A + 1) (d := d) (ld := ld) HLDS.out)
    unfold Dec.val at CD
    have CO := Lib.hid (st_of (w := w) (R := R) (A := A) (g := g) (pr := pr) (p := p) (cr := cr) (q := q) (lr := lr) (l := l) (X := R + 1) (L := A + 1) (d := d) (ld := ld))
    go_cut [85, 86, 87] from 61 to 87 (fun s85 s86 s87 wx => Five w R A g pr p cr q lr l s85 s86 s87 wx)
    case first =>
      refine wp_region_held_drew (S := fun W => (W.cell? ⟨R + 1, 0, none⟩ = some (.int .i64 d.day) ∧ W.cell? ⟨R + 1, 1, none⟩ = some (.int .i64 d.known) ∧ W.cell? ⟨R + 1, 2, none⟩ = some (.int .i64 d.kind) ∧ W.cell? ⟨R + 1, 3, none⟩ = some (.int .i64 d.subj) ∧ W.cell? ⟨R + 1, 4, none⟩ = some (.int .i64 d.value)) ∧ (W.cell? ⟨A + 1, 0, none⟩ = some (.int .i64 ld.day) ∧ W.cell? ⟨A + 1, 1, none⟩ = some (.int .i64 ld.known) ∧ W.cell? ⟨A + 1, 2, none⟩ = some (.int .i64 ld.kind) ∧ W.cell? ⟨A + 1, 3, none⟩ = some (.int .i64 ld.subj) ∧ W.cell? ⟨A + 1, 4, none⟩ = some (.int .i64 ld.value))) (by kernel_rfl) (st_cells hT) (fun hHeld => ?_)
      refine wpAnyH_take (i := 0) (oi := ?oi1) (v := ?v1) ?h1 (by kernel_rfl) (by kernel_rfl) (by kernel_rfl) ?hq1 (Or.inl ⟨?hw1, ?hy1⟩) hHeld ?rest1
      case h1 => simp only [List.getElem?_toArray, List.getElem?_cons_succ, List.getElem?_cons_zero]; rfl
      case hw1 => rfl
      case hy1 => intro w hSw; (try dsimp only at hSw); first | (go_simp; done) | (go_simp; with_reducible rfl)
      case hq1 => intro _ _ _ h; exact h
      try simp only [Act.put, List.setIfInBounds_toArray, List.set_cons_zero, List.set_cons_succ]
      refine wpAnyH_take (i := 1) (oi := ?oi2) (v := ?v2) ?h2 (by kernel_rfl) (by kernel_rfl) (by kernel_rfl) ?hq2 (Or.inl ⟨?hw2, ?hy2⟩) hHeld ?rest2
      case h2 => simp only [List.getElem?_toArray, List.getElem?_cons_succ, List.getElem?_cons_zero]; rfl
      case hw2 => rfl
      case hy2 => intro w hSw; (try dsimp only at hSw); first | (go_simp; done) | (go_simp; with_reducible rfl)
      case hq2 => intro _ _ _ h; exact h
      try simp only [Act.put, List.setIfInBounds_toArray, List.set_cons_zero, List.set_cons_succ]
      refine wpAnyH_take (i := 2) (oi := ?oi3) (v := ?v3) ?h3 (by kernel_rfl) (by kernel_rfl) (by kernel_rfl) ?hq3 (Or.inl ⟨?hw3, ?hy3⟩) hHeld ?rest3
      case h3 => simp only [List.getElem?_toArray, List.getElem?_cons_succ, List.getElem?_cons_zero]; rfl
      case hw3 => rfl
      case hy3 => intro w hSw; (try dsimp only at hSw); first | (go_simp; done) | (go_simp; with_reducible rfl)
      case hq3 => intro _ _ _ h; exact h
      try simp only [Act.put, List.setIfInBounds_toArray, List.set_cons_zero, List.set_cons_succ]
      refine wpAnyH_take (i := 4) (oi := ?oi4) (v := ?v4) ?h4 (by kernel_rfl) (by kernel_rfl) (by kernel_rfl) ?hq4 (Or.inl ⟨?hw4, ?hy4⟩) hHeld ?rest4
      case h4 => simp only [List.getElem?_toArray, List.getElem?_cons_succ, List.getElem?_cons_zero]; rfl
      case hw4 => rfl
      case hy4 => intro w hSw; (try dsimp only at hSw); first | (go_simp; done) | (go_simp; with_reducible rfl)
      case hq4 => intro _ _ _ h; exact h
      try simp only [Act.put, List.setIfInBounds_toArray, List.set_cons_zero, List.set_cons_succ]
      refine wpAnyH_take (i := 5) (oi := ?oi5) (v := ?v5) ?h5 (by kernel_rfl) (by kernel_rfl) (by kernel_rfl) ?hq5 (Or.inl ⟨?hw5, ?hy5⟩) hHeld ?rest5
      case h5 => simp only [List.getElem?_toArray, List.getElem?_cons_succ, List.getElem?_cons_zero]; rfl
      case hw5 => rfl
      case hy5 => intro w hSw; (try dsimp only at hSw); first | (go_simp; done) | (go_simp; with_reducible rfl)
      case hq5 => intro _ _ _ h; exact h
      try simp only [Act.put, List.setIfInBounds_toArray, List.set_cons_zero, List.set_cons_succ]
      refine wpAnyH_take (i := 6) (oi := ?oi6) (v := ?v6) ?h6 (by kernel_rfl) (by kernel_rfl) (by kernel_rfl) ?hq6 (Or.inl ⟨?hw6, ?hy6⟩) hHeld ?rest6
      case h6 => simp only [List.getElem?_toArray, List.getElem?_cons_succ, List.getElem?_cons_zero]; rfl
      case hw6 => rfl
      case hy6 => intro w hSw; (try dsimp only at hSw); first | (go_simp; done) | (go_simp; with_reducible rfl)
      case hq6 => intro _ _ _ h; exact h
      try simp only [Act.put, List.setIfInBounds_toArray, List.set_cons_zero, List.set_cons_succ]
      refine wpAnyH_take (i := 7) (oi := ?oi7) (v := ?v7) ?h7 (by kernel_rfl) (by kernel_rfl) (by kernel_rfl) ?hq7 (Or.inl ⟨?hw7, ?hy7⟩) hHeld ?rest7
      case h7 => simp only [List.getElem?_toArray, List.getElem?_cons_succ, List.getElem?_cons_zero]; rfl
      case hw7 => rfl
      case hy7 => intro w hSw; (try dsimp only at hSw); first | (go_simp; done) | (go_simp; with_reducible rfl)
      case hq7 => intro _ _ _ h; exact h
      try simp only [Act.put, List.setIfInBounds_toArray, List.set_cons_zero, List.set_cons_succ]
      refine wpAnyH_take (i := 8) (oi := ?oi8) (v := ?v8) ?h8 (by kernel_rfl) (by kernel_rfl) (by kernel_rfl) ?hq8 (Or.inl ⟨?hw8, ?hy8⟩) hHeld ?rest8
      case h8 => simp only [List.getElem?_toArray, List.getElem?_cons_succ, List.getElem?_cons_zero]; rfl
      case hw8 => rfl
      case hy8 => intro w hSw; (try dsimp only at hSw); first | (go_simp; done) | (go_simp; with_reducible rfl)
      case hq8 => intro _ _ _ h; exact h
      try simp only [Act.put, List.setIfInBounds_toArray, List.set_cons_zero, List.set_cons_succ]
      refine wpAnyH_take (i := 9) (oi := ?oi9) (v := ?v9) ?h9 (by kernel_rfl) (by kernel_rfl) (by kernel_rfl) ?hq9 (Or.inl ⟨?hw9, ?hy9⟩) hHeld ?rest9
      case h9 => simp only [List.getElem?_toArray, List.getElem?_cons_succ, List.getElem?_cons_zero]; rfl
      case hw9 => rfl
      case hy9 => intro w hSw; (try dsimp only at hSw); first | (go_simp; done) | (go_simp; with_reducible rfl)
      case hq9 => intro _ _ _ h; exact h
      try simp only [Act.put, List.setIfInBounds_toArray, List.set_cons_zero, List.set_cons_succ]
      refine wpAnyH_take (i := 10) (oi := ?oi10) (v := ?v10) ?h10 (by kernel_rfl) (by kernel_rfl) (by kernel_rfl) ?hq10 (Or.inl ⟨?hw10, ?hy10⟩) hHeld ?rest10
      case h10 => simp only [List.getElem?_toArray, List.getElem?_cons_succ, List.getElem?_cons_zero]; rfl
      case hw10 => rfl
      case hy10 => intro w hSw; (try dsimp only at hSw); first | (go_simp; done) | (go_simp; with_reducible rfl)
      case hq10 => intro _ _ _ h; exact h
      try simp only [Act.put, List.setIfInBounds_toArray, List.set_cons_zero, List.set_cons_succ]
      refine wpAnyH_take (i := 11) (oi := ?oi11) (v := ?v11) ?h11 (by kernel_rfl) (by kernel_rfl) (by kernel_rfl) ?hq11 (Or.inl ⟨?hw11, ?hy11⟩) hHeld ?rest11
      case h11 => simp only [List.getElem?_toArray, List.getElem?_cons_succ, List.getElem?_cons_zero]; rfl
      case hw11 => rfl
      case hy11 => intro w hSw; (try dsimp only at hSw); first | (go_simp; done) | (go_simp; with_reducible rfl)
      case hq11 => intro _ _ _ h; exact h
      try simp only [Act.put, List.setIfInBounds_toArray, List.set_cons_zero, List.set_cons_succ]
      refine wpAnyH_take (i := 12) (oi := ?oi12) (v := ?v12) ?h12 (by kernel_rfl) (by kernel_rfl) (by kernel_rfl) ?hq12 (Or.inl ⟨?hw12, ?hy12⟩) hHeld ?rest12
      case h12 => simp only [List.getElem?_toArray, List.getElem?_cons_succ, List.getElem?_cons_zero]; rfl
      case hw12 => rfl
      case hy12 => intro w hSw; (try dsimp only at hSw); first | (go_simp; done) | (go_simp; with_reducible rfl)
      case hq12 => intro _ _ _ h; exact h
      try simp only [Act.put, List.setIfInBounds_toArray, List.set_cons_zero, List.set_cons_succ]
      refine wpAnyH_take (i := 13) (oi := ?oi13) (v := ?v13) ?h13 (by kernel_rfl) (by kernel_rfl) (by kernel_rfl) ?hq13 (Or.inl ⟨?hw13, ?hy13⟩) hHeld ?rest13
      case h13 => simp only [List.getElem?_toArray, List.getElem?_cons_succ, List.getElem?_cons_zero]; rfl
      case hw13 => rfl
      case hy13 => intro w hSw; (try dsimp only at hSw); first | (go_simp; done) | (go_simp; with_reducible rfl)
      case hq13 => intro _ _ _ h; exact h
      try simp only [Act.put, List.setIfInBounds_toArray, List.set_cons_zero, List.set_cons_succ]
      refine wpAnyH_take (i := 14) (oi := ?oi14) (v := ?v14) ?h14 (by kernel_rfl) (by kernel_rfl) (by kernel_rfl) ?hq14 (Or.inl ⟨?hw14, ?hy14⟩) hHeld ?rest14
      case h14 => simp only [List.getElem?_toArray, List.getElem?_cons_succ, List.getElem?_cons_zero]; rfl
      case hw14 => rfl
      case hy14 => intro w hSw; (try dsimp only at hSw); first | (go_simp; done) | (go_simp; with_reducible rfl)
      case hq14 => intro _ _ _ h; exact h
      try simp only [Act.put, List.setIfInBounds_toArray, List.set_cons_zero, List.set_cons_succ]
      refine wpAnyH_take (i := 15) (oi := ?oi15) (v := ?v15) ?h15 (by kernel_rfl) (by kernel_rfl) (by kernel_rfl) ?hq15 (Or.inl ⟨?hw15, ?hy15⟩) hHeld ?rest15
      case h15 => simp only [List.getElem?_toArray, List.getElem?_cons_succ, List.getElem?_cons_zero]; rfl
      case hw15 => rfl
      case hy15 => intro w hSw; (try dsimp only at hSw); first | (go_simp; done) | (go_simp; with_reducible rfl)
      case hq15 => intro _ _ _ h; exact h
      try simp only [Act.put, List.setIfInBounds_toArray, List.set_cons_zero, List.set_cons_succ]
      refine wpAnyH_take (i := 16) (oi := ?oi16) (v := ?v16) ?h16 (by kernel_rfl) (by kernel_rfl) (by kernel_rfl) ?hq16 (Or.inl ⟨?hw16, ?hy16⟩) hHeld ?rest16
      case h16 => simp only [List.getElem?_toArray, List.getElem?_cons_succ, List.getElem?_cons_zero]; rfl
      case hw16 => rfl
      case hy16 => intro w hSw; (try dsimp only at hSw); first | (go_simp; done) | (go_simp; with_reducible rfl)
      case hq16 => intro _ _ _ h; exact h
      try simp only [Act.put, List.setIfInBounds_toArray, List.set_cons_zero, List.set_cons_succ]
      refine wpAnyH_take (i := 17) (oi := ?oi17) (v := ?v17) ?h17 (by kernel_rfl) (by kernel_rfl) (by kernel_rfl) ?hq17 (Or.inl ⟨?hw17, ?hy17⟩) hHeld ?rest17
      case h17 => simp only [List.getElem?_toArray, List.getElem?_cons_succ, List.getElem?_cons_zero]; rfl
      case hw17 => rfl
      case hy17 => intro w hSw; (try dsimp only at hSw); first | (go_simp; done) | (go_simp; with_reducible rfl)
      case hq17 => intro _ _ _ h; exact h
      try simp only [Act.put, List.setIfInBounds_toArray, List.set_cons_zero, List.set_cons_succ]
      refine wpAnyH_take (i := 18) (oi := ?oi18) (v := ?v18) ?h18 (by kernel_rfl) (by kernel_rfl) (by kernel_rfl) ?hq18 (Or.inl ⟨?hw18, ?hy18⟩) hHeld ?rest18
      case h18 => simp only [List.getElem?_toArray, List.getElem?_cons_succ, List.getElem?_cons_zero]; rfl
      case hw18 => rfl
      case hy18 => intro w hSw; (try dsimp only at hSw); first | (go_simp; done) | (go_simp; with_reducible rfl)
      case hq18 => intro _ _ _ h; exact h
      try simp only [Act.put, List.setIfInBounds_toArray, List.set_cons_zero, List.set_cons_succ]
      refine wpAnyH_take (i := 19) (oi := ?oi19) (v := ?v19) ?h19 (by kernel_rfl) (by kernel_rfl) (by kernel_rfl) ?hq19 (Or.inl ⟨?hw19, ?hy19⟩) hHeld ?rest19
      case h19 => simp only [List.getElem?_toArray, List.getElem?_cons_succ, List.getElem?_cons_zero]; rfl
      case hw19 => rfl
      case hy19 => intro w hSw; (try dsimp only at hSw); first | (go_simp; done) | (go_simp; with_reducible rfl)
      case hq19 => intro _ _ _ h; exact h
      try simp only [Act.put, List.setIfInBounds_toArray, List.set_cons_zero, List.set_cons_succ]
      refine wpAnyH_take (i := 20) (oi := ?oi20) (v := ?v20) ?h20 (by kernel_rfl) (by kernel_rfl) (by kernel_rfl) ?hq20 (Or.inl ⟨?hw20, ?hy20⟩) hHeld ?rest20
      case h20 => simp only [List.getElem?_toArray, List.getElem?_cons_succ, List.getElem?_cons_zero]; rfl
      case hw20 => rfl
      case hy20 => intro w hSw; (try dsimp only at hSw); first | (go_simp; done) | (go_simp; with_reducible rfl)
      case hq20 => intro _ _ _ h; exact h
      try simp only [Act.put, List.setIfInBounds_toArray, List.set_cons_zero, List.set_cons_succ]
      refine wpAnyH_take (i := 26) (oi := ?oi21) (v := ?v21) ?h21 (by kernel_rfl) (by kernel_rfl) (by kernel_rfl) ?hq21 (Or.inl ⟨?hw21, ?hy21⟩) hHeld ?rest21
      case h21 => simp only [List.getElem?_toArray, List.getElem?_cons_succ, List.getElem?_cons_zero]; rfl
      case hw21 => rfl
      case hy21 => intro w hSw; (try dsimp only at hSw); first | (go_simp; done) | (go_simp; with_reducible rfl)
      case hq21 => intro _ _ _ h; exact h
      try simp only [Act.put, List.setIfInBounds_toArray, List.set_cons_zero, List.set_cons_succ]
      refine wpAnyH_ready (rs := [3, 21]) (by kernel_rfl) (by simp) ?_
      refine AllReadyH.cons (o := ?o22) ?h22 (fun K hK => ?step22) ?more22
      case h22 => simp only [List.getElem?_toArray, List.getElem?_cons_succ, List.getElem?_cons_zero]; rfl
      case step22 =>
        go_simp
        go_at_call 17
        refine (CD.out _ hT).mono ?_
        rintro e w4 ⟨d2, rfl, hT', hXC⟩
        clear hT hXC; have hT := hT'; clear hT'
        refine hK.out _ _ (st_cells hT) (fun hHeld2 => ?_)
        clear hHeld hK K; have hHeld := hHeld2; clear hHeld2
        try simp only [Act.put, List.setIfInBounds_toArray, List.set_cons_zero, List.set_cons_succ]
        refine wpAnyH_ready (rs := [21]) (by kernel_rfl) (by simp) ?_
        refine AllReadyH.cons (o := ?o23) ?h23 (fun K hK => ?step23) ?more23
        case h23 => simp only [List.getElem?_toArray, List.getElem?_cons_succ, List.getElem?_cons_zero]; rfl
        case step23 =>
          go_simp
          obtain ⟨hT', hY⟩ := st_alloc hT
          clear hT; have hT := hT'; clear hT'
          refine hK.out _ _ (st_cells hT) (fun hHeld2 => ?_)
          clear hHeld hK K; have hHeld := hHeld2; clear hHeld2
          try simp only [Act.put, List.setIfInBounds_toArray, List.set_cons_zero, List.set_cons_succ]
          refine wpAnyH_ready (rs := [22]) (by kernel_rfl) (by simp) ?_
          refine AllReadyH.cons (o := ?o24) ?h24 (fun K hK => ?step24) ?more24
          case h24 => simp only [List.getElem?_toArray, List.getElem?_cons_succ, List.getElem?_cons_zero]; rfl
          case step24 =>
            go_simp
            go_at_call 18
            refine (CO.out _ _ hT hY).mono ?_
            rintro e w5 ⟨r, rfl, hT'⟩
            clear hT hY; have hT := hT'; clear hT'
            refine hK.out _ _ (st_cells hT) (fun hHeld2 => ?_)
            clear hHeld hK K; have hHeld := hHeld2; clear hHeld2
            try simp only [Act.put, List.setIfInBounds_toArray, List.set_cons_zero, List.set_cons_succ]
            refine wpAnyH_take (i := 23) (oi := ?oi25) (v := ?v25) ?h25 (by kernel_rfl) (by kernel_rfl) (by kernel_rfl) ?hq25 (Or.inl ⟨?hw25, ?hy25⟩) hHeld ?rest25
            case h25 => simp only [List.getElem?_toArray, List.getElem?_cons_succ, List.getElem?_cons_zero]; rfl
            case hw25 => rfl
            case hy25 => intro w hSw; (try dsimp only at hSw); first | (go_simp; done) | (go_simp; with_reducible rfl)
            case hq25 => intro _ _ _ h; exact h
            try simp only [Act.put, List.setIfInBounds_toArray, List.set_cons_zero, List.set_cons_succ]
            refine wpAnyH_ready (rs := [24]) (by kernel_rfl) (by simp) ?_
            refine AllReadyH.cons (o := ?o26) ?h26 (fun K hK => ?step26) ?more26
            case h26 => simp only [List.getElem?_toArray, List.getElem?_cons_succ, List.getElem?_cons_zero]; rfl
            case step26 =>
              go_simp
              have hF := five_made hT ⟨d.day, d.known, d.kind, d.subj, d.value⟩ ⟨d2.day, d2.known, d2.kind, d2.subj, d2.value⟩ ⟨IntKind.i64.wrap (ld.day - 1), ld.known, 1, 0, 0⟩ ⟨ld.day, IntKind.i64.wrap (ld.known - 1), 1, 0, 0⟩ ⟨ld.day, ld.known, 1, r, 0⟩
              have hT2 := hT.mono ((Below.refl _ _).alloc (Nat.le_refl _) (.cells (flat [⟨d.day, d.known, d.kind, d.subj, d.value⟩, ⟨d2.day, d2.known, d2.kind, d2.subj, d2.value⟩, ⟨IntKind.i64.wrap (ld.day - 1), ld.known, 1, 0, 0⟩, ⟨ld.day, IntKind.i64.wrap (ld.known - 1), 1, 0, 0⟩, ⟨ld.day, ld.known, 1, r, 0⟩]).toArray 27))
              simp only [flat, cells5, List.flatMap_cons, List.flatMap_nil, List.cons_append, List.nil_append, List.append_nil] at hF hT2
              refine hK.out _ _ (st_cells hT2) (fun hHeld2 => ?_)
              clear hHeld hK K; have hHeld := hHeld2; clear hHeld2
              try simp only [Act.put, List.setIfInBounds_toArray, List.set_cons_zero, List.set_cons_succ]
              refine wpAnyH_take (i := 25) (oi := ?oi27) (v := ?v27) ?h27 (by kernel_rfl) (by kernel_rfl) (by kernel_rfl) ?hq27 (Or.inl ⟨?hw27, ?hy27⟩) hHeld ?rest27
              case h27 => simp only [List.getElem?_toArray, List.getElem?_cons_succ, List.getElem?_cons_zero]; rfl
              case hw27 => rfl
              case hy27 => intro w hSw; (try dsimp only at hSw); first | (go_simp; done) | (go_simp; with_reducible rfl)
              case hq27 => intro _ _ _ h; exact h
              try simp only [Act.put, List.setIfInBounds_toArray, List.set_cons_zero, List.set_cons_succ]
              refine wpAnyH_done (by kernel_rfl) ?_ _
              have HF := Lib.hid hF; clear hF hT2 hT
              go_wp2_with fail
              go_meet
              exact HF.out
            exact AllReadyH.nil
          exact AllReadyH.nil
        exact AllReadyH.nil
      refine AllReadyH.cons (o := ?o28) ?h28 (fun K hK => ?step28) ?more28
      case h28 => simp only [List.getElem?_toArray, List.getElem?_cons_succ, List.getElem?_cons_zero]; rfl
      case step28 =>
        go_simp
        obtain ⟨hT', hY⟩ := st_alloc hT
        clear hT; have hT := hT'; clear hT'
        refine hK.out _ _ (st_cells hT) (fun hHeld2 => ?_)
        clear hHeld hK K; have hHeld := hHeld2; clear hHeld2
        try simp only [Act.put, List.setIfInBounds_toArray, List.set_cons_zero, List.set_cons_succ]
        refine wpAnyH_ready (rs := [3]) (by kernel_rfl) (by simp) ?_
        refine AllReadyH.cons (o := ?o29) ?h29 (fun K hK => ?step29) ?more29
        case h29 => simp only [List.getElem?_toArray, List.getElem?_cons_succ, List.getElem?_cons_zero]; rfl
        case step29 =>
          go_simp
          go_at_call 17
          refine (CD.out _ hT).mono ?_
          rintro e w4 ⟨d2, rfl, hT', hXC⟩
          have hY' := hXC _ hY; clear hY; have hY := hY'; clear hY'
          clear hT hXC; have hT := hT'; clear hT'
          refine hK.out _ _ (st_cells hT) (fun hHeld2 => ?_)
          clear hHeld hK K; have hHeld := hHeld2; clear hHeld2
          try simp only [Act.put, List.setIfInBounds_toArray, List.set_cons_zero, List.set_cons_succ]
          refine wpAnyH_ready (rs := [22]) (by kernel_rfl) (by simp) ?_
          refine AllReadyH.cons (o := ?o30) ?h30 (fun K hK => ?step30) ?more30
          case h30 => simp only [List.getElem?_toArray, List.getElem?_cons_succ, List.getElem?_cons_zero]; rfl
          case step30 =>
            go_simp
            go_at_call 18
            refine (CO.out _ _ hT hY).mono ?_
            rintro e w5 ⟨r, rfl, hT'⟩
            clear hT hY; have hT := hT'; clear hT'
            refine hK.out _ _ (st_cells hT) (fun hHeld2 => ?_)
            clear hHeld hK K; have hHeld := hHeld2; clear hHeld2
            try simp only [Act.put, List.setIfInBounds_toArray, List.set_cons_zero, List.set_cons_succ]
            refine wpAnyH_take (i := 23) (oi := ?oi31) (v := ?v31) ?h31 (by kernel_rfl) (by kernel_rfl) (by kernel_rfl) ?hq31 (Or.inl ⟨?hw31, ?hy31⟩) hHeld ?rest31
            case h31 => simp only [List.getElem?_toArray, List.getElem?_cons_succ, List.getElem?_cons_zero]; rfl
            case hw31 => rfl
            case hy31 => intro w hSw; (try dsimp only at hSw); first | (go_simp; done) | (go_simp; with_reducible rfl)
            case hq31 => intro _ _ _ h; exact h
            try simp only [Act.put, List.setIfInBounds_toArray, List.set_cons_zero, List.set_cons_succ]
            refine wpAnyH_ready (rs := [24]) (by kernel_rfl) (by simp) ?_
            refine AllReadyH.cons (o := ?o32) ?h32 (fun K hK => ?step32) ?more32
            case h32 => simp only [List.getElem?_toArray, List.getElem?_cons_succ, List.getElem?_cons_zero]; rfl
            case step32 =>
              go_simp
              have hF := five_made hT ⟨d.day, d.known, d.kind, d.subj, d.value⟩ ⟨d2.day, d2.known, d2.kind, d2.subj, d2.value⟩ ⟨IntKind.i64.wrap (ld.day - 1), ld.known, 1, 0, 0⟩ ⟨ld.day, IntKind.i64.wrap (ld.known - 1), 1, 0, 0⟩ ⟨ld.day, ld.known, 1, r, 0⟩
              have hT2 := hT.mono ((Below.refl _ _).alloc (Nat.le_refl _) (.cells (flat [⟨d.day, d.known, d.kind, d.subj, d.value⟩, ⟨d2.day, d2.known, d2.kind, d2.subj, d2.value⟩, ⟨IntKind.i64.wrap (ld.day - 1), ld.known, 1, 0, 0⟩, ⟨ld.day, IntKind.i64.wrap (ld.known - 1), 1, 0, 0⟩, ⟨ld.day, ld.known, 1, r, 0⟩]).toArray 27))
              simp only [flat, cells5, List.flatMap_cons, List.flatMap_nil, List.cons_append, List.nil_append, List.append_nil] at hF hT2
              refine hK.out _ _ (st_cells hT2) (fun hHeld2 => ?_)
              clear hHeld hK K; have hHeld := hHeld2; clear hHeld2
              try simp only [Act.put, List.setIfInBounds_toArray, List.set_cons_zero, List.set_cons_succ]
              refine wpAnyH_take (i := 25) (oi := ?oi33) (v := ?v33) ?h33 (by kernel_rfl) (by kernel_rfl) (by kernel_rfl) ?hq33 (Or.inl ⟨?hw33, ?hy33⟩) hHeld ?rest33
              case h33 => simp only [List.getElem?_toArray, List.getElem?_cons_succ, List.getElem?_cons_zero]; rfl
              case hw33 => rfl
              case hy33 => intro w hSw; (try dsimp only at hSw); first | (go_simp; done) | (go_simp; with_reducible rfl)
              case hq33 => intro _ _ _ h; exact h
              try simp only [Act.put, List.setIfInBounds_toArray, List.set_cons_zero, List.set_cons_succ]
              refine wpAnyH_done (by kernel_rfl) ?_ _
              have HF := Lib.hid hF; clear hF hT2 hT
              go_wp2_with fail
              go_meet
              exact HF.out
            exact AllReadyH.nil
          exact AllReadyH.nil
        exact AllReadyH.nil
      exact AllReadyH.nil
    case rest =>
      have HFV := Lib.hid hcut; clear hcut HST hT CD CO
      obtain ⟨Yf, ds, rfl, rfl, rfl, hdl, hrow, hlg⟩ := HFV.out
      obtain ⟨W5, rfl⟩ : ∃ W5 : World, W5 = wc := ⟨_, rfl⟩
      have HROW := Lib.hid hrow; have HLG := Lib.hid hlg; have HDL := Lib.hid hdl
      clear hrow hlg hdl HFV
      have hll : l.length ≤ 1000 := by omega
      go_wp2_with fail
      go_loopw [87] (fun iv wr => ∃ k : Nat, k ≤ 5 ∧ iv = .int .i64 k ∧ Below W5.heap.size W5 wr) (fun iv _ => 5 - (intOf iv).toNat)
      case atStart => exact ⟨0, by omega, rfl, Below.refl _ _⟩
      case round =>
        obtain ⟨k, hk, rfl, hb⟩ := hrel
        by_cases hlt : k < 5
        · have hkb : decide ((k : Int) < 5) = true := by rw [decide_eq_true_eq]; omega
          have hrow := (HROW.out.mono hb) k (by rw [HDL.out]; exact hlt)
          obtain ⟨D, hDD⟩ : ∃ D, D = ds[k]'(by rw [HDL.out]; exact hlt) := ⟨_, rfl⟩
          rw [← hDD] at hrow
          simp only [Nat.zero_add] at hrow
          obtain ⟨c0, c1, c2, c3, c4⟩ := hrow
          obtain ⟨Yd, hYd⟩ : ∃ Yd, Yd = wr.heap.size := ⟨_, rfl⟩
          have hba : Below wr.heap.size wr (wr.alloc (.cells #[.int .i64 D.day, .int .i64 D.known, .int .i64 D.kind, .int .i64 D.subj, .int .i64 D.value] 27)) := (Below.refl _ _).alloc (Nat.le_refl _) _
          have hlga := (HLG.out.mono hb).mono hba
          have hD5 : D5 (wr.alloc (.cells #[.int .i64 D.day, .int .i64 D.known, .int .i64 D.kind, .int .i64 D.subj, .int .i64 D.value] 27)) Yd D := by rw [hYd]; exact ⟨by simp, by simp, by simp, by simp, by simp⟩
          have hb5a := below_step hb hba
          clear hDD hb hba
          go_upto_region 12 with (fail)
          rw [← hYd]
          generalize wr.alloc (.cells #[.int .i64 D.day, .int .i64 D.known, .int .i64 D.kind, .int .i64 D.subj, .int .i64 D.value] 27) = wa at *
          clear hYd c0 c1 c2 c3 c4
          have kA := hlga.a
          have kR := hlga.r
          obtain ⟨Z, hZ⟩ : ∃ Z, Z = wa.heap.size := ⟨_, rfl⟩
          have hbb : Below wa.heap.size wa (wa.alloc (.cells #[.slice p l.length q, .slice pr lr.length cr] 25)) := (Below.refl _ _).alloc (Nat.le_refl _) _
          have hz0 : (wa.alloc (.cells #[.slice p l.length q, .slice pr lr.length cr] 25)).cell? ⟨Z, 0, none⟩ = some (.slice p l.length q) := by rw [hZ]; simp
          have hz1 : (wa.alloc (.cells #[.slice p l.length q, .slice pr lr.length cr] 25)).cell? ⟨Z, 1, none⟩ = some (.slice pr lr.length cr) := by rw [hZ]; simp
          have hlgb := hlga.mono hbb
          have hD5b := hD5.grown (grown_of_below hbb (some (Yd + 1))) (by omega)
          have hb5b := below_step hb5a hbb
          have HLB := Lib.hid hlgb; have HDB := Lib.hid hD5b; have HB5 := Lib.hid hb5b; have HZ0 := Lib.hid hz0; have HZ1 := Lib.hid hz1
          clear hlga hD5 hb5a hbb hz0 hz1 hlgb hD5b hb5b
          go_upto_region 13 with (fail)
          rw [← hZ]
          generalize wa.alloc (.cells #[.slice p l.length q, .slice pr lr.length cr] 25) = wb at *
          clear hZ kA kR
          go_loopw [95] (fun iv wr => ∃ j : Nat, j ≤ 2 ∧ iv = .int .i64 j ∧ Below wb.heap.size wb wr) (fun iv _ => 2 - (intOf iv).toNat)
          case atStart => exact ⟨0, by omega, rfl, Below.refl _ _⟩
          case round =>
            obtain ⟨j, hj, rfl, hbj⟩ := hrel
            obtain ⟨wi, rfl⟩ : ∃ wi : World, wi = wr := ⟨_, rfl⟩
            by_cases hjt : j < 2
            · have hjb : decide ((j : Int) < 2) = true := by rw [decide_eq_true_eq]; omega
              have hlgi := HLB.out.mono hbj
              obtain ⟨pz, lz, cz, hzc, hrz, hczl, hlz⟩ : ∃ (pz : Option Addr) (lz : List Dec) (cz : Nat), wi.cell? ⟨Z, j, none⟩ = some (.slice pz lz.length cz) ∧ Reads wi pz lz ∧ lz.length ≤ cz ∧ lz.length ≤ 140 := by
                have : j = 0 ∨ j = 1 := by omega
                rcases this with rfl | rfl
                · exact ⟨p, l, q, cell_later hbj HZ0.out, hlgi.ra.reads, HLQ.out, by omega⟩
                · exact ⟨pr, lr, cr, cell_later hbj HZ1.out, hlgi.rr.reads, hcr, by omega⟩
              have hi0 : (0 : Int) ≤ (j : Int) := by omega
              have hi1 : (j : Int) < 2 := by omega
              obtain ⟨Bz, hBz⟩ : ∃ Bz, Bz = wi.heap.size := ⟨_, rfl⟩
              have hbz : Below wi.heap.size wi (wi.alloc (.cells #[.slice pz lz.length cz] 25)) := (Below.refl _ _).alloc (Nat.le_refl _) _
              have hzz : (wi.alloc (.cells #[.slice pz lz.length cz] 25)).cell? ⟨Bz, 0, none⟩ = some (.slice pz lz.length cz) := by rw [hBz]; simp
              have hrz2 := hrz.mono hbz
              have hlg2 := hlgi.mono hbz
              have hbb2 := below_step hbj hbz
              have hbi2 : Below wi.heap.size wi (wi.alloc (.cells #[.slice pz lz.length cz] 25)) := hbz
              have hd52 : D5 (wi.alloc (.cells #[.slice pz lz.length cz] 25)) Yd D := HDB.out.mono hbb2
              go_upto_region 15 with (fail)
              rw [← hBz]
              generalize wi.alloc (.cells #[.slice pz lz.length cz] 25) = w6 at *
              clear hBz hzc hrz hbz hbi2 hbj hlgi hi0 hi1
              obtain ⟨d0, d1, d2, d3, d4⟩ := hd52
              have cA := add_all w6 (p := pz) (c := cz) lz D (by omega) hrz2
              obtain ⟨L, hL⟩ : ∃ L, L = addL lz D := ⟨_, rfl⟩
              obtain ⟨N, hN⟩ : ∃ N, N = addR lz D := ⟨_, rfl⟩
              rw [← hL, ← hN] at cA
              have hLl : L.length ≤ 1000 := by
                rw [hL]; unfold addL
                split
                · simp; omega
                · omega
              unfold Dec.val at cA
              have CA := Lib.hid cA; have HZZ := Lib.hid hzz; have HRZ := Lib.hid hrz2; have HLG2 := Lib.hid hlg2; have HBB := Lib.hid hbb2; have HL := Lib.hid hL; have HN := Lib.hid hN
              clear cA hrz2 hlg2 hbb2 hL hN
              go_wp2_with fail
              refine CA.out.mono ?_
              rintro e w7 ⟨v, rfl, hdv, hb7⟩
              obtain ⟨px, cx, rfl, hcx, hxr⟩ := hdv
              have hrx : Reads w7 px L := by
                rcases hxr with h0 | ⟨b, hp, _, h0⟩
                · exact .inl h0
                · exact .inr ⟨b, 0, hp, h0⟩
              obtain ⟨Bx, hBx⟩ : ∃ Bx, Bx = w7.heap.size := ⟨_, rfl⟩
              have hbx : Below w7.heap.size w7 (w7.alloc (.cells #[.slice px L.length cx] 25)) := (Below.refl _ _).alloc (Nat.le_refl _) _
              have hxx : (w7.alloc (.cells #[.slice px L.length cx] 25)).cell? ⟨Bx, 0, none⟩ = some (.slice px L.length cx) := by rw [hBx]; simp
              have hb8 := below_step hb7 hbx
              have hrx8 := hrx.mono hbx
              have hrz8 := HRZ.out.mono hb8
              have hlg8 := HLG2.out.mono hb8
              have hbb8 := below_step HBB.out hb8
              have kz8 := cell_later hb8 hzz
              have d0 := cell_later hb8 d0
              have d1 := cell_later hb8 d1
              have d2 := cell_later hb8 d2
              have d3 := cell_later hb8 d3
              have d4 := cell_later hb8 d4
              clear CA hxr hrx hb7 hb8 hbx HRZ HLG2 HBB HZZ hzz
              go_upto_region 16 with (fail)
              rw [← hBx]
              generalize w7.alloc (.cells #[.slice px L.length cx] 25) = w8 at *
              clear hBx
              have cB := refadd_all w8 (p := pz) (c := cz) lz D (by omega) hrz8
              rw [← HL.out, ← HN.out] at cB
              unfold Dec.val at cB
              have CB := Lib.hid cB; have HXX := Lib.hid hxx; have HRX := Lib.hid hrx8; have HRZ := Lib.hid hrz8; have HLG2 := Lib.hid hlg8; have HBB := Lib.hid hbb8; have HZZ := Lib.hid kz8
              clear cB hxx hrx8 hrz8 hlg8 hbb8
              go_wp2_with fail
              refine CB.out.mono ?_
              rintro e w9 ⟨py, cy, rfl, hyr, -, -, hb9⟩
              obtain ⟨By, hBy⟩ : ∃ By, By = w9.heap.size := ⟨_, rfl⟩
              have hby : Below w9.heap.size w9 (w9.alloc (.cells #[.slice py L.length cy] 25)) := (Below.refl _ _).alloc (Nat.le_refl _) _
              have hb10 := below_step hb9 hby
              have hIN : IN wb (w9.alloc (.cells #[.slice py L.length cy] 25)) A Bz Bx By p pz px py q cz cx cy l lz L :=
                ⟨cell_later hb10 HLG2.out.a, cell_later hb10 HZZ.out, cell_later hb10 HXX.out, by rw [hBy]; simp, HLG2.out.ra.reads.mono hb10, HRZ.out.mono hb10, HRX.out.mono hb10, hyr.reads.mono hby, below_step HBB.out hb10⟩
              clear CB hyr hb9 hby hb10 HXX HRX HRZ HLG2 HBB HZZ kz8 d0 d1 d2 d3 d4
              go_upto_region 17 with (fail)
              rw [← hBy]
              generalize w9.alloc (.cells #[.slice py L.length cy] 25) = w10 at *
              clear hBy
              obtain ⟨r, bq, sq, hdif⟩ := in_dif hLl hll
              obtain ⟨E, hE⟩ : ∃ E, E = errN lz := ⟨_, rfl⟩
              have HDIF := Lib.hid hdif
              have HIN := Lib.hid hIN
              have hT := hIN.drew
              have C1 := Lib.hid (in_same (W0 := wb) (A := A) (Z := Bz) (X := Bx) (Y := By) (p := p) (pz := pz) (px := px) (py := py) (q := q) (cz := cz) (cx := cx) (cy := cy) (l := l) (lz := lz) hLl)
              have C2 := Lib.hid (in_check (W0 := wb) (A := A) (Z := Bz) (X := Bx) (Y := By) (p := p) (pz := pz) (px := px) (py := py) (q := q) (cz := cz) (cx := cx) (cy := cy) (l := l) (L := L) hE hczl)
              have C3 := Lib.hid (in_refcheck (W0 := wb) (A := A) (Z := Bz) (X := Bx) (Y := By) (p := p) (pz := pz) (px := px) (py := py) (q := q) (cz := cz) (cx := cx) (cy := cy) (l := l) (L := L) hE)
              have C4 := Lib.hid (fun W h => (hdif wb A Bz Bx By p pz px py q cz cx cy lz W h).1)
              have C5 := Lib.hid (fun W h => (hdif wb A Bz Bx By p pz px py q cz cx cy lz W h).2.1)
              clear hdif hIN hE
              go_cut [95, 135] from 95 to 156 (fun s95 s135 wx => s95 = .int .i64 j ∧ s135 = .bool false ∧ IN wb wx A Bz Bx By p pz px py q cz cx cy l lz L)
              case first =>
                refine wp_region_held_drew (S := fun W => W.cell? ⟨A, 0, none⟩ = some (.slice p l.length q) ∧ W.cell? ⟨Bz, 0, none⟩ = some (.slice pz lz.length cz) ∧ W.cell? ⟨Bx, 0, none⟩ = some (.slice px L.length cx) ∧ W.cell? ⟨By, 0, none⟩ = some (.slice py L.length cy)) (by kernel_rfl) (in_cells hT) (fun hHeld => ?_)
                refine wpAnyH_take (i := 0) (oi := ?oiA1) (v := ?vA1) ?hA1 (by kernel_rfl) (by kernel_rfl) (by kernel_rfl) ?hqA1 (Or.inl ⟨?hwA1, ?hyA1⟩) hHeld ?restA1
                case hA1 => simp only [List.getElem?_toArray, List.getElem?_cons_succ, List.getElem?_cons_zero]; rfl
                case hwA1 => rfl
                case hyA1 => intro w hSw; (try dsimp only at hSw); first | (go_simp; done) | (go_simp; with_reducible rfl)
                case hqA1 => intro _ _ _ h; exact h
                try simp only [Act.put, List.setIfInBounds_toArray, List.set_cons_zero, List.set_cons_succ]
                refine wpAnyH_take (i := 1) (oi := ?oiA2) (v := ?vA2) ?hA2 (by kernel_rfl) (by kernel_rfl) (by kernel_rfl) ?hqA2 (Or.inl ⟨?hwA2, ?hyA2⟩) hHeld ?restA2
                case hA2 => simp only [List.getElem?_toArray, List.getElem?_cons_succ, List.getElem?_cons_zero]; rfl
                case hwA2 => rfl
                case hyA2 => intro w hSw; (try dsimp only at hSw); first | (go_simp; done) | (go_simp; with_reducible rfl)
                case hqA2 => intro _ _ _ h; exact h
                try simp only [Act.put, List.setIfInBounds_toArray, List.set_cons_zero, List.set_cons_succ]
                refine wpAnyH_take (i := 2) (oi := ?oiA3) (v := ?vA3) ?hA3 (by kernel_rfl) (by kernel_rfl) (by kernel_rfl) ?hqA3 (Or.inl ⟨?hwA3, ?hyA3⟩) hHeld ?restA3
                case hA3 => simp only [List.getElem?_toArray, List.getElem?_cons_succ, List.getElem?_cons_zero]; rfl
                case hwA3 => rfl
                case hyA3 => intro w hSw; (try dsimp only at hSw); first | (go_simp; done) | (go_simp; with_reducible rfl)
                case hqA3 => intro _ _ _ h; exact h
                try simp only [Act.put, List.setIfInBounds_toArray, List.set_cons_zero, List.set_cons_succ]
                refine wpAnyH_take (i := 3) (oi := ?oiA4) (v := ?vA4) ?hA4 (by kernel_rfl) (by kernel_rfl) (by kernel_rfl) ?hqA4 (Or.inl ⟨?hwA4, ?hyA4⟩) hHeld ?restA4
                case hA4 => simp only [List.getElem?_toArray, List.getElem?_cons_succ, List.getElem?_cons_zero]; rfl
                case hwA4 => rfl
                case hyA4 => intro w hSw; (try dsimp only at hSw); first | (go_simp; done) | (go_simp; with_reducible rfl)
                case hqA4 => intro _ _ _ h; exact h
                try simp only [Act.put, List.setIfInBounds_toArray, List.set_cons_zero, List.set_cons_succ]
                refine wpAnyH_take (i := 4) (oi := ?oiA5) (v := ?vA5) ?hA5 (by kernel_rfl) (by kernel_rfl) (by kernel_rfl) ?hqA5 (Or.inl ⟨?hwA5, ?hyA5⟩) hHeld ?restA5
                case hA5 => simp only [List.getElem?_toArray, List.getElem?_cons_succ, List.getElem?_cons_zero]; rfl
                case hwA5 => rfl
                case hyA5 => intro w hSw; (try dsimp only at hSw); first | (go_simp; done) | (go_simp; with_reducible rfl)
                case hqA5 => intro _ _ _ h; exact h
                try simp only [Act.put, List.setIfInBounds_toArray, List.set_cons_zero, List.set_cons_succ]
                refine wpAnyH_take (i := 5) (oi := ?oiA6) (v := ?vA6) ?hA6 (by kernel_rfl) (by kernel_rfl) (by kernel_rfl) ?hqA6 (Or.inl ⟨?hwA6, ?hyA6⟩) hHeld ?restA6
                case hA6 => simp only [List.getElem?_toArray, List.getElem?_cons_succ, List.getElem?_cons_zero]; rfl
                case hwA6 => rfl
                case hyA6 => intro w hSw; (try dsimp only at hSw); first | (go_simp; done) | (go_simp; with_reducible rfl)
                case hqA6 => intro _ _ _ h; exact h
                try simp only [Act.put, List.setIfInBounds_toArray, List.set_cons_zero, List.set_cons_succ]
                refine wpAnyH_ready (rs := [6]) (by kernel_rfl) (by simp) ?_
                refine AllReadyH.cons (o := ?oA7) ?hA7 (fun K hK => ?stepA7) ?moreA7
                case hA7 => simp only [List.getElem?_toArray, List.getElem?_cons_succ, List.getElem?_cons_zero]; rfl
                case stepA7 =>
                  go_simp
                  go_at_call 21
                  refine (C1.out _ hT).mono ?_
                  rintro e w9 ⟨rfl, hT'⟩
                  clear hT; have hT := hT'; clear hT'
                  refine hK.out _ _ (in_cells hT) (fun hHeld2 => ?_)
                  clear hHeld hK K; have hHeld := hHeld2; clear hHeld2
                  try simp only [Act.put, List.setIfInBounds_toArray, List.set_cons_zero, List.set_cons_succ]
                  refine wpAnyH_take (i := 7) (oi := ?oiA8) (v := ?vA8) ?hA8 (by kernel_rfl) (by kernel_rfl) (by kernel_rfl) ?hqA8 (Or.inl ⟨?hwA8, ?hyA8⟩) hHeld ?restA8
                  case hA8 => simp only [List.getElem?_toArray, List.getElem?_cons_succ, List.getElem?_cons_zero]; rfl
                  case hwA8 => rfl
                  case hyA8 => intro w hSw; (try dsimp only at hSw); first | (go_simp; done) | (go_simp; with_reducible rfl)
                  case hqA8 => intro _ _ _ h; exact h
                  try simp only [Act.put, List.setIfInBounds_toArray, List.set_cons_zero, List.set_cons_succ]
                  refine wpAnyH_take (i := 8) (oi := ?oiA9) (v := ?vA9) ?hA9 (by kernel_rfl) (by kernel_rfl) (by kernel_rfl) ?hqA9 (Or.inl ⟨?hwA9, ?hyA9⟩) hHeld ?restA9
                  case hA9 => simp only [List.getElem?_toArray, List.getElem?_cons_succ, List.getElem?_cons_zero]; rfl
                  case hwA9 => rfl
                  case hyA9 => intro w hSw; (try dsimp only at hSw); first | (go_simp; done) | (go_simp; with_reducible rfl)
                  case hqA9 => intro _ _ _ h; exact h
                  try simp only [Act.put, List.setIfInBounds_toArray, List.set_cons_zero, List.set_cons_succ]
                  refine wpAnyH_take (i := 9) (oi := ?oiA10) (v := ?vA10) ?hA10 (by kernel_rfl) (by kernel_rfl) (by kernel_rfl) ?hqA10 (Or.inl ⟨?hwA10, ?hyA10⟩) hHeld ?restA10
                  case hA10 => simp only [List.getElem?_toArray, List.getElem?_cons_succ, List.getElem?_cons_zero]; rfl
                  case hwA10 => rfl
                  case hyA10 => intro w hSw; (try dsimp only at hSw); first | (go_simp; done) | (go_simp; with_reducible rfl)
                  case hqA10 => intro _ _ _ h; exact h
                  try simp only [Act.put, List.setIfInBounds_toArray, List.set_cons_zero, List.set_cons_succ]
                  refine wpAnyH_take (i := 10) (oi := ?oiA11) (v := ?vA11) ?hA11 (by kernel_rfl) (by kernel_rfl) (by kernel_rfl) ?hqA11 (Or.inl ⟨?hwA11, ?hyA11⟩) hHeld ?restA11
                  case hA11 => simp only [List.getElem?_toArray, List.getElem?_cons_succ, List.getElem?_cons_zero]; rfl
                  case hwA11 => rfl
                  case hyA11 => intro w hSw; (try dsimp only at hSw); first | (go_simp; done) | (go_simp; with_reducible rfl)
                  case hqA11 => intro _ _ _ h; exact h
                  try simp only [Act.put, List.setIfInBounds_toArray, List.set_cons_zero, List.set_cons_succ]
                  refine wpAnyH_take (i := 12) (oi := ?oiA12) (v := ?vA12) ?hA12 (by kernel_rfl) (by kernel_rfl) (by kernel_rfl) ?hqA12 (Or.inl ⟨?hwA12, ?hyA12⟩) hHeld ?restA12
                  case hA12 => simp only [List.getElem?_toArray, List.getElem?_cons_succ, List.getElem?_cons_zero]; rfl
                  case hwA12 => rfl
                  case hyA12 => intro w hSw; (try dsimp only at hSw); first | (go_simp; done) | (go_simp; with_reducible rfl)
                  case hqA12 => intro _ _ _ h; exact h
                  try simp only [Act.put, List.setIfInBounds_toArray, List.set_cons_zero, List.set_cons_succ]
                  refine wpAnyH_ready (rs := [11]) (by kernel_rfl) (by simp) ?_
                  refine AllReadyH.cons (o := ?oA13) ?hA13 (fun K hK => ?stepA13) ?moreA13
                  case hA13 => simp only [List.getElem?_toArray, List.getElem?_cons_succ, List.getElem?_cons_zero]; rfl
                  case stepA13 =>
                    go_simp
                    go_at_call 22
                    refine (C2.out _ hT).mono ?_
                    rintro e w9 ⟨rfl, hT'⟩
                    clear hT; have hT := hT'; clear hT'
                    refine hK.out _ _ (in_cells hT) (fun hHeld2 => ?_)
                    clear hHeld hK K; have hHeld := hHeld2; clear hHeld2
                    try simp only [Act.put, List.setIfInBounds_toArray, List.set_cons_zero, List.set_cons_succ]
                    refine wpAnyH_ready (rs := [13]) (by kernel_rfl) (by simp) ?_
                    refine AllReadyH.cons (o := ?oA14) ?hA14 (fun K hK => ?stepA14) ?moreA14
                    case hA14 => simp only [List.getElem?_toArray, List.getElem?_cons_succ, List.getElem?_cons_zero]; rfl
                    case stepA14 =>
                      go_simp
                      go_at_call 23
                      refine (C3.out _ hT).mono ?_
                      rintro e w9 ⟨rfl, hT'⟩
                      clear hT; have hT := hT'; clear hT'
                      refine hK.out _ _ (in_cells hT) (fun hHeld2 => ?_)
                      clear hHeld hK K; have hHeld := hHeld2; clear hHeld2
                      try simp only [Act.put, List.setIfInBounds_toArray, List.set_cons_zero, List.set_cons_succ]
                      refine wpAnyH_take (i := 14) (oi := ?oiA15) (v := ?vA15) ?hA15 (by kernel_rfl) (by kernel_rfl) (by kernel_rfl) ?hqA15 (Or.inl ⟨?hwA15, ?hyA15⟩) hHeld ?restA15
                      case hA15 => simp only [List.getElem?_toArray, List.getElem?_cons_succ, List.getElem?_cons_zero]; rfl
                      case hwA15 => rfl
                      case hyA15 => intro w hSw; (try dsimp only at hSw); first | (go_simp; done) | (go_simp; with_reducible rfl)
                      case hqA15 => intro _ _ _ h; exact h
                      try simp only [Act.put, List.setIfInBounds_toArray, List.set_cons_zero, List.set_cons_succ]
                      refine wpAnyH_take (i := 15) (oi := ?oiA16) (v := ?vA16) ?hA16 (by kernel_rfl) (by kernel_rfl) (by kernel_rfl) ?hqA16 (Or.inl ⟨?hwA16, ?hyA16⟩) hHeld ?restA16
                      case hA16 => simp only [List.getElem?_toArray, List.getElem?_cons_succ, List.getElem?_cons_zero]; rfl
                      case hwA16 => rfl
                      case hyA16 => intro w hSw; (try dsimp only at hSw); first | (go_simp; done) | (go_simp; with_reducible rfl)
                      case hqA16 => intro _ _ _ h; exact h
                      try simp only [Act.put, List.setIfInBounds_toArray, List.set_cons_zero, List.set_cons_succ]
                      refine wpAnyH_take (i := 16) (oi := ?oiA17) (v := ?vA17) ?hA17 (by kernel_rfl) (by kernel_rfl) (by kernel_rfl) ?hqA17 (Or.inl ⟨?hwA17, ?hyA17⟩) hHeld ?restA17
                      case hA17 => simp only [List.getElem?_toArray, List.getElem?_cons_succ, List.getElem?_cons_zero]; rfl
                      case hwA17 => rfl
                      case hyA17 => intro w hSw; (try dsimp only at hSw); first | (go_simp; done) | (go_simp; with_reducible rfl)
                      case hqA17 => intro _ _ _ h; exact h
                      try simp only [Act.put, List.setIfInBounds_toArray, List.set_cons_zero, List.set_cons_succ]
                      refine wpAnyH_take (i := 17) (oi := ?oiA18) (v := ?vA18) ?hA18 (by kernel_rfl) (by kernel_rfl) (by kernel_rfl) ?hqA18 (Or.inl ⟨?hwA18, ?hyA18⟩) hHeld ?restA18
                      case hA18 => simp only [List.getElem?_toArray, List.getElem?_cons_succ, List.getElem?_cons_zero]; rfl
                      case hwA18 => rfl
                      case hyA18 => intro w hSw; (try dsimp only at hSw); first | (go_simp; done) | (go_simp; with_reducible rfl)
                      case hqA18 => intro _ _ _ h; exact h
                      try simp only [Act.put, List.setIfInBounds_toArray, List.set_cons_zero, List.set_cons_succ]
                      refine wpAnyH_take (i := 18) (oi := ?oiA19) (v := ?vA19) ?hA19 (by kernel_rfl) (by kernel_rfl) (by kernel_rfl) ?hqA19 (Or.inl ⟨?hwA19, ?hyA19⟩) hHeld ?restA19
                      case hA19 => simp only [List.getElem?_toArray, List.getElem?_cons_succ, List.getElem?_cons_zero]; rfl
                      case hwA19 => rfl
                      case hyA19 => intro w hSw; (try dsimp only at hSw); first | (go_simp; done) | (go_simp; with_reducible rfl)
                      case hqA19 => intro _ _ _ h; exact h
                      try simp only [Act.put, List.setIfInBounds_toArray, List.set_cons_zero, List.set_cons_succ]
                      refine wpAnyH_take (i := 20) (oi := ?oiA20) (v := ?vA20) ?hA20 (by kernel_rfl) (by kernel_rfl) (by kernel_rfl) ?hqA20 (Or.inl ⟨?hwA20, ?hyA20⟩) hHeld ?restA20
                      case hA20 => simp only [List.getElem?_toArray, List.getElem?_cons_succ, List.getElem?_cons_zero]; rfl
                      case hwA20 => rfl
                      case hyA20 => intro w hSw; (try dsimp only at hSw); first | (go_simp; done) | (go_simp; with_reducible rfl)
                      case hqA20 => intro _ _ _ h; exact h
                      try simp only [Act.put, List.setIfInBounds_toArray, List.set_cons_zero, List.set_cons_succ]
                      refine wpAnyH_take (i := 21) (oi := ?oiA21) (v := ?vA21) ?hA21 (by kernel_rfl) (by kernel_rfl) (by kernel_rfl) ?hqA21 (Or.inl ⟨?hwA21, ?hyA21⟩) hHeld ?restA21
                      case hA21 => simp only [List.getElem?_toArray, List.getElem?_cons_succ, List.getElem?_cons_zero]; rfl
                      case hwA21 => rfl
                      case hyA21 => intro w hSw; (try dsimp only at hSw); first | (go_simp; done) | (go_simp; with_reducible rfl)
                      case hqA21 => intro _ _ _ h; exact h
                      try simp only [Act.put, List.setIfInBounds_toArray, List.set_cons_zero, List.set_cons_succ]
                      refine wpAnyH_ready (rs := [19]) (by kernel_rfl) (by simp) ?_
                      refine AllReadyH.cons (o := ?oA22) ?hA22 (fun K hK => ?stepA22) ?moreA22
                      case hA22 => simp only [List.getElem?_toArray, List.getElem?_cons_succ, List.getElem?_cons_zero]; rfl
                      case stepA22 =>
                        go_simp
                        go_at_call 24
                        refine (C4.out _ hT).mono ?_
                        rintro e w9 ⟨rfl, hT'⟩
                        clear hT; have hT := hT'; clear hT'
                        refine hK.out _ _ (in_cells hT) (fun hHeld2 => ?_)
                        clear hHeld hK K; have hHeld := hHeld2; clear hHeld2
                        try simp only [Act.put, List.setIfInBounds_toArray, List.set_cons_zero, List.set_cons_succ]
                        refine wpAnyH_ready (rs := [22]) (by kernel_rfl) (by simp) ?_
                        refine AllReadyH.cons (o := ?oA23) ?hA23 (fun K hK => ?stepA23) ?moreA23
                        case hA23 => simp only [List.getElem?_toArray, List.getElem?_cons_succ, List.getElem?_cons_zero]; rfl
                        case stepA23 =>
                          go_simp
                          go_at_call 21
                          refine (C5.out _ hT).mono ?_
                          rintro e w9 ⟨rfl, hT'⟩
                          clear hT; have hT := hT'; clear hT'
                          refine hK.out _ _ (in_cells hT) (fun hHeld2 => ?_)
                          clear hHeld hK K; have hHeld := hHeld2; clear hHeld2
                          try simp only [Act.put, List.setIfInBounds_toArray, List.set_cons_zero, List.set_cons_succ]
                          refine wpAnyH_take (i := 23) (oi := ?oiA24) (v := ?vA24) ?hA24 (by kernel_rfl) (by kernel_rfl) (by kernel_rfl) ?hqA24 (Or.inl ⟨?hwA24, ?hyA24⟩) hHeld ?restA24
                          case hA24 => simp only [List.getElem?_toArray, List.getElem?_cons_succ, List.getElem?_cons_zero]; rfl
                          case hwA24 => rfl
                          case hyA24 => intro w hSw; (try dsimp only at hSw); first | (go_simp; done) | (go_simp; with_reducible rfl)
                          case hqA24 => intro _ _ _ h; exact h
                          try simp only [Act.put, List.setIfInBounds_toArray, List.set_cons_zero, List.set_cons_succ]
                          refine wpAnyH_take (i := 24) (oi := ?oiA25) (v := ?vA25) ?hA25 (by kernel_rfl) (by kernel_rfl) (by kernel_rfl) ?hqA25 (Or.inl ⟨?hwA25, ?hyA25⟩) hHeld ?restA25
                          case hA25 => simp only [List.getElem?_toArray, List.getElem?_cons_succ, List.getElem?_cons_zero]; rfl
                          case hwA25 => rfl
                          case hyA25 => intro w hSw; (try dsimp only at hSw); first | (go_simp; done) | (go_simp; with_reducible rfl)
                          case hqA25 => intro _ _ _ h; exact h
                          try simp only [Act.put, List.setIfInBounds_toArray, List.set_cons_zero, List.set_cons_succ]
                          refine wpAnyH_done (by kernel_rfl) ?_ _
                          have HF := Lib.hid hT; clear hT
                          go_wp2_with fail
                          go_meet
                          exact ⟨rfl, rfl, HF.out⟩
                        exact AllReadyH.nil
                      exact AllReadyH.nil
                    exact AllReadyH.nil
                  exact AllReadyH.nil
                exact AllReadyH.nil
              case rest =>
                obtain ⟨rfl, rfl, hIN⟩ := hcut
                obtain ⟨W11, rfl⟩ : ∃ W11 : World, W11 = wc := ⟨_, rfl⟩
                have C6 := fun W h => (HDIF.out wb A Bz Bx By p pz px py q cz cx cy lz W h).2.2.1
                have C7 := fun W h => (HDIF.out wb A Bz Bx By p pz px py q cz cx cy lz W h).2.2.2
                have C6 := Lib.hid C6; have C7 := Lib.hid C7
                have ka := hIN.a
                have kx := hIN.x
                have H11 := Lib.hid hIN; clear hIN HDIF HIN C1 C2 C3 C4 C5
                go_wp2_with fail
                refine (C6.out _ H11.out).mono ?_
                rintro e W12 ⟨rfl, hIN⟩
                have ka := hIN.a
                have ky := hIN.y
                have H12 := Lib.hid hIN; clear hIN H11 C6 kx
                go_wp2_with fail
                refine (C7.out _ H12.out).mono ?_
                rintro e W13 ⟨rfl, hIN⟩
                have hb13 := hIN.below
                have HB13 := Lib.hid hb13
                clear hIN H12 C7 ka ky hb13
                go_wp2_with fail
                go_roundw
                case rel => exact ⟨j + 1, by omega, by go_num, HB13.out⟩
                case measure => simp [intOf]; omega
            · have HBJ := Lib.hid hbj; clear hbj
              go_wp2_with fail
              go_roundw
              case rel => exact ⟨k + 1, by omega, by go_num, below_step HB5.out HBJ.out⟩
              case measure => simp [intOf]; omega
        · have HBE := Lib.hid hb; clear hb
          have hm5 := Int.emod_nonneg x (show (5 : Int) ≠ 0 by omega)
          have hm5' := Int.emod_lt_of_pos x (show (0 : Int) < 5 by omega)
          have M1 := Lib.hid (fun W => mod_any x 5 W hx0 hx1 (by omega) (by omega))
          have M2 := Lib.hid (fun W => mod_any y 3 W hy0 hy1 (by omega) (by omega))
          have M3 := Lib.hid (fun W => mod_any z 25 W hz0 hz1 (by omega) (by omega))
          obtain ⟨m1, hm1⟩ : ∃ m1, m1 = x % 5 := ⟨_, rfl⟩
          obtain ⟨m2, hm2⟩ : ∃ m2, m2 = y % 3 := ⟨_, rfl⟩
          obtain ⟨m3, hm3⟩ : ∃ m3, m3 = z % 25 := ⟨_, rfl⟩
          rw [← hm1] at M1 hm5 hm5'
          rw [← hm2] at M2
          rw [← hm3] at M3
          clear hm1 hm2 hm3
          go_wp2_with fail
          refine (M1.out _).mono ?_
          rintro e w' ⟨rfl, rfl⟩
          go_wp2_with fail
          refine (M2.out _).mono ?_
          rintro e w' ⟨rfl, rfl⟩
          go_wp2_with fail
          refine (M3.out _).mono ?_
          rintro e w' ⟨rfl, rfl⟩
          clear M1 M2 M3
          go_wp2_with fail
          obtain ⟨Qb, hQb⟩ : ∃ Qb, Qb = w'.heap.size := ⟨_, rfl⟩
          have hqb : Below w'.heap.size w' (w'.alloc (.cells #[.int .i64 x, .int .i64 y, .int .i64 z, .int .i64 (1 + m1), .int .i64 m2, .int .i64 m3] 43)) := (Below.refl _ _).alloc (Nat.le_refl _) _
          have hel : ∀ k : Nat, k < 2 → ∃ k0 k1 k2 : Int, (w'.alloc (.cells #[.int .i64 x, .int .i64 y, .int .i64 z, .int .i64 (1 + m1), .int .i64 m2, .int .i64 m3] 43)).cell? ⟨Qb, k * 3, none⟩ = some (.int .i64 k0) ∧
              (w'.alloc (.cells #[.int .i64 x, .int .i64 y, .int .i64 z, .int .i64 (1 + m1), .int .i64 m2, .int .i64 m3] 43)).cell? ⟨Qb, k * 3 + 1, none⟩ = some (.int .i64 k1) ∧
              (w'.alloc (.cells #[.int .i64 x, .int .i64 y, .int .i64 z, .int .i64 (1 + m1), .int .i64 m2, .int .i64 m3] 43)).cell? ⟨Qb, k * 3 + 2, none⟩ = some (.int .i64 k2) := by
            intro k hk
            rw [hQb]
            have : k = 0 ∨ k = 1 := by omega
            rcases this with rfl | rfl
            · exact ⟨x, y, z, by simp, by simp, by simp⟩
            · exact ⟨1 + m1, m2, m3, by simp, by simp, by simp⟩
          have hb5q := below_step HBE.out hqb
          have hlgq := HLG.out.mono hb5q
          have HEL := Lib.hid hel; have HLQ2 := Lib.hid hlgq
          clear hel hqb hb5q hlgq HBE HROW HLG HDL hm5 hm5'
          rw [← hQb]
          generalize w'.alloc (.cells #[.int .i64 x, .int .i64 y, .int .i64 z, .int .i64 (1 + m1), .int .i64 m2, .int .i64 m3] 43) = W6 at *
          clear hQb
          go_loopw [172] (fun iv wr => ∃ k : Nat, k ≤ 2 ∧ iv = .int .i64 k ∧ Below W6.heap.size W6 wr) (fun iv _ => 2 - (intOf iv).toNat)
          case atStart => exact ⟨0, by omega, rfl, Below.refl _ _⟩
          case round =>
            obtain ⟨k, hk, rfl, hb⟩ := hrel
            obtain ⟨wi, rfl⟩ : ∃ wi : World, wi = wr := ⟨_, rfl⟩
            by_cases hlt : k < 2
            · have hkb : decide ((k : Int) < 2) = true := by rw [decide_eq_true_eq]; omega
              obtain ⟨k0, k1, k2, e0, e1, e2⟩ := HEL.out k hlt
              have e0 := cell_later hb e0
              have e1 := cell_later hb e1
              have e2 := cell_later hb e2
              have hi0 : (0 : Int) ≤ (k : Int) := by omega
              have hi1 : (k : Int) < 2 := by omega
              obtain ⟨Bk, hBk⟩ : ∃ Bk, Bk = wi.heap.size := ⟨_, rfl⟩
              have hbk : Below wi.heap.size wi (wi.alloc (.cells #[.int .i64 k0, .int .i64 k1, .int .i64 k2] 43)) := (Below.refl _ _).alloc (Nat.le_refl _) _
              have y0 : (wi.alloc (.cells #[.int .i64 k0, .int .i64 k1, .int .i64 k2] 43)).cell? ⟨Bk, 0, none⟩ = some (.int .i64 k0) := by rw [hBk]; simp
              have y1 : (wi.alloc (.cells #[.int .i64 k0, .int .i64 k1, .int .i64 k2] 43)).cell? ⟨Bk, 1, none⟩ = some (.int .i64 k1) := by rw [hBk]; simp
              have y2 : (wi.alloc (.cells #[.int .i64 k0, .int .i64 k1, .int .i64 k2] 43)).cell? ⟨Bk, 2, none⟩ = some (.int .i64 k2) := by rw [hBk]; simp
              have hbk6 := below_step hb hbk
              have hlgk := HLQ2.out.mono hbk6
              clear hb hbk
              go_upto_region 28 with (fail)
              rw [← hBk]
              generalize wi.alloc (.cells #[.int .i64 k0, .int .i64 k1, .int .i64 k2] 43) = w6 at *
              clear hBk e0 e1 e2 hi0 hi1
              have kA := hlgk.a
              have cL := latest_any w6 (p := p) (c := q) k0 k1 k2 l HGD.out hll HLQ.out hlgk.ra.reads
              obtain ⟨rd, hrd⟩ : ∃ rd, rd = (latestK l k0 k1 (cutN l k2)).getD dz := ⟨_, rfl⟩
              obtain ⟨rb, hrb⟩ : ∃ rb, rb = (latestK l k0 k1 (cutN l k2)).isSome := ⟨_, rfl⟩
              unfold LatestPost at cL
              rw [← hrd, ← hrb] at cL
              unfold Dec.val at cL
              have CL := Lib.hid cL; have HRD := Lib.hid hrd; have HRB := Lib.hid hrb; have HLK := Lib.hid hlgk; have HBK := Lib.hid hbk6
              clear cL hrd hrb hlgk hbk6
              go_wp2_with fail
              refine CL.out.mono ?_
              rintro e w7 ⟨rfl, hb7⟩
              obtain ⟨Bx, hBx⟩ : ∃ Bx, Bx = w7.heap.size := ⟨_, rfl⟩
              have hbx : Below w7.heap.size w7 (w7.alloc (.cells #[.int .i64 rd.day, .int .i64 rd.known, .int .i64 rd.kind, .int .i64 rd.subj, .int .i64 rd.value] 27)) := (Below.refl _ _).alloc (Nat.le_refl _) _
              have hx5 : D5 (w7.alloc (.cells #[.int .i64 rd.day, .int .i64 rd.known, .int .i64 rd.kind, .int .i64 rd.subj, .int .i64 rd.value] 27)) Bx rd := by rw [hBx]; exact ⟨by simp, by simp, by simp, by simp, by simp⟩
              have hb8 := below_step hb7 hbx
              have y0 := cell_later hb8 y0
              have y1 := cell_later hb8 y1
              have y2 := cell_later hb8 y2
              have kA := cell_later hb8 kA
              have hlg8 := HLK.out.mono hb8
              have hb68 := below_step HBK.out hb8
              clear hb7 hbx hb8 CL HLK HBK
              go_upto_region 29 with (fail)
              rw [← hBx]
              generalize w7.alloc (.cells #[.int .i64 rd.day, .int .i64 rd.known, .int .i64 rd.kind, .int .i64 rd.subj, .int .i64 rd.value] 27) = w8 at *
              clear hBx
              have cL := reflatest_any w8 (p := p) (c := q) k0 k1 k2 l HGD.out hll hlg8.ra.reads
              unfold LatestPost at cL
              rw [← HRD.out, ← HRB.out] at cL
              unfold Dec.val at cL
              have CL := Lib.hid cL; have HX5 := Lib.hid hx5; have HLK := Lib.hid hlg8; have HBK := Lib.hid hb68
              clear cL hx5 hlg8 hb68
              go_wp2_with fail
              refine CL.out.mono ?_
              rintro e w9 ⟨rfl, hb9⟩
              obtain ⟨By, hBy⟩ : ∃ By, By = w9.heap.size := ⟨_, rfl⟩
              have hby : Below w9.heap.size w9 (w9.alloc (.cells #[.int .i64 rd.day, .int .i64 rd.known, .int .i64 rd.kind, .int .i64 rd.subj, .int .i64 rd.value] 27)) := (Below.refl _ _).alloc (Nat.le_refl _) _
              have hb10 := below_step hb9 hby
              have hQN : QN W6 (w9.alloc (.cells #[.int .i64 rd.day, .int .i64 rd.known, .int .i64 rd.kind, .int .i64 rd.subj, .int .i64 rd.value] 27)) A Bk Bx By p q l k0 k1 k2 rd :=
                ⟨cell_later hb10 kA, ⟨cell_later hb10 y0, cell_later hb10 y1, cell_later hb10 y2⟩, HX5.out.mono hb10, by rw [hBy]; exact ⟨by simp, by simp, by simp, by simp, by simp⟩, HLK.out.ra.reads.mono hb10, below_step HBK.out hb10⟩
              clear hb9 hby hb10 CL HX5 HLK HBK y0 y1 y2 kA
              go_upto_region 30 with (fail)
              rw [← hBy]
              generalize w9.alloc (.cells #[.int .i64 rd.day, .int .i64 rd.known, .int .i64 rd.kind, .int .i64 rd.subj, .int .i64 rd.value] 27) = w10 at *
              clear hBy
              obtain ⟨N, hN⟩ : ∃ N, N = knownK l (cutN l k2) := ⟨_, rfl⟩
              obtain ⟨M, hM⟩ : ∃ M, M = l.take (cutN l k2) := ⟨_, rfl⟩
              obtain ⟨cs, hcs⟩ : ∃ cs, cs = chg l k0 k1 l.length := ⟨_, rfl⟩
              have hMl : M.length ≤ 1000 := by rw [hM, List.length_take]; omega
              have hcl : cs.length ≤ 1000 := by rw [hcs]; have := chg_len l k0 k1 l.length; omega
              have C1 := Lib.hid (qn_known (W0 := W6) (A := A) (K := Bk) (X := Bx) (Y := By) (p := p) (q := q) (l := l) (k0 := k0) (k1 := k1) (k2 := k2) (rd := rd) HGD.out hll HLQ.out hN)
              have C2 := Lib.hid (qn_refknown (W0 := W6) (A := A) (K := Bk) (X := Bx) (Y := By) (p := p) (q := q) (l := l) (k0 := k0) (k1 := k1) (k2 := k2) (rd := rd) HGD.out hll hN)
              have C3 := Lib.hid (qn_then (W0 := W6) (A := A) (K := Bk) (X := Bx) (Y := By) (p := p) (q := q) (l := l) (k0 := k0) (k1 := k1) (k2 := k2) (rd := rd) HGD.out hll HLQ.out hM)
              have C4 := Lib.hid (qn_refthen (W0 := W6) (A := A) (K := Bk) (X := Bx) (Y := By) (p := p) (q := q) (l := l) (k0 := k0) (k1 := k1) (k2 := k2) (rd := rd) HGD.out hll hM)
              have C5 := Lib.hid (qn_same (W0 := W6) (A := A) (K := Bk) (X := Bx) (Y := By) (p := p) (q := q) (l := l) (k0 := k0) (k1 := k1) (k2 := k2) (rd := rd) (M := M) hMl)
              have C6 := Lib.hid (qn_changed (W0 := W6) (A := A) (K := Bk) (X := Bx) (Y := By) (p := p) (q := q) (l := l) (k0 := k0) (k1 := k1) (k2 := k2) (rd := rd) hll HLQ.out hcs)
              have C7 := Lib.hid (qn_refchanged (W0 := W6) (A := A) (K := Bk) (X := Bx) (Y := By) (p := p) (q := q) (l := l) (k0 := k0) (k1 := k1) (k2 := k2) (rd := rd) hll hcs)
              have C8 := Lib.hid (qn_sameints (W0 := W6) (A := A) (K := Bk) (X := Bx) (Y := By) (p := p) (q := q) (l := l) (k0 := k0) (k1 := k1) (k2 := k2) (rd := rd) (cs := cs) hcl)
              have hT := hQN.drew
              clear hQN hN hM hcs hMl hcl HRD HRB
              go_cut [172, 244] from 172 to 245 (fun s172 s244 wx => s172 = .int .i64 k ∧ s244 = .bool false ∧ Below W6.heap.size W6 wx)
              case first =>
                refine wp_region_held_drew (S := fun W => W.cell? ⟨A, 0, none⟩ = some (.slice p l.length q) ∧ (W.cell? ⟨Bk, 0, none⟩ = some (.int .i64 k0) ∧ W.cell? ⟨Bk, 1, none⟩ = some (.int .i64 k1) ∧ W.cell? ⟨Bk, 2, none⟩ = some (.int .i64 k2)) ∧ (W.cell? ⟨Bx, 0, none⟩ = some (.int .i64 rd.day) ∧ W.cell? ⟨Bx, 1, none⟩ = some (.int .i64 rd.known) ∧ W.cell? ⟨Bx, 2, none⟩ = some (.int .i64 rd.kind) ∧ W.cell? ⟨Bx, 3, none⟩ = some (.int .i64 rd.subj) ∧ W.cell? ⟨Bx, 4, none⟩ = some (.int .i64 rd.value)) ∧ (W.cell? ⟨By, 0, none⟩ = some (.int .i64 rd.day) ∧ W.cell? ⟨By, 1, none⟩ = some (.int .i64 rd.known) ∧ W.cell? ⟨By, 2, none⟩ = some (.int .i64 rd.kind) ∧ W.cell? ⟨By, 3, none⟩ = some (.int .i64 rd.subj) ∧ W.cell? ⟨By, 4, none⟩ = some (.int .i64 rd.value))) (by kernel_rfl) (qn_cells hT) (fun hHeld => ?_)
                refine wpAnyH_take (i := 0) (oi := ?oiB1) (v := ?vB1) ?hB1 (by kernel_rfl) (by kernel_rfl) (by kernel_rfl) ?hqB1 (Or.inl ⟨?hwB1, ?hyB1⟩) hHeld ?restB1
                case hB1 => simp only [List.getElem?_toArray, List.getElem?_cons_succ, List.getElem?_cons_zero]; rfl
                case hwB1 => rfl
                case hyB1 => intro w hSw; (try dsimp only at hSw); first | (go_simp; done) | (go_simp; with_reducible rfl)
                case hqB1 => intro _ _ _ h; exact h
                try simp only [Act.put, List.setIfInBounds_toArray, List.set_cons_zero, List.set_cons_succ]
                refine wpAnyH_take (i := 1) (oi := ?oiB2) (v := ?vB2) ?hB2 (by kernel_rfl) (by kernel_rfl) (by kernel_rfl) ?hqB2 (Or.inl ⟨?hwB2, ?hyB2⟩) hHeld ?restB2
                case hB2 => simp only [List.getElem?_toArray, List.getElem?_cons_succ, List.getElem?_cons_zero]; rfl
                case hwB2 => rfl
                case hyB2 => intro w hSw; (try dsimp only at hSw); first | (go_simp; done) | (go_simp; with_reducible rfl)
                case hqB2 => intro _ _ _ h; exact h
                try simp only [Act.put, List.setIfInBounds_toArray, List.set_cons_zero, List.set_cons_succ]
                refine wpAnyH_take (i := 2) (oi := ?oiB3) (v := ?vB3) ?hB3 (by kernel_rfl) (by kernel_rfl) (by kernel_rfl) ?hqB3 (Or.inl ⟨?hwB3, ?hyB3⟩) hHeld ?restB3
                case hB3 => simp only [List.getElem?_toArray, List.getElem?_cons_succ, List.getElem?_cons_zero]; rfl
                case hwB3 => rfl
                case hyB3 => intro w hSw; (try dsimp only at hSw); first | (go_simp; done) | (go_simp; with_reducible rfl)
                case hqB3 => intro _ _ _ h; exact h
                try simp only [Act.put, List.setIfInBounds_toArray, List.set_cons_zero, List.set_cons_succ]
                refine wpAnyH_take (i := 3) (oi := ?oiB4) (v := ?vB4) ?hB4 (by kernel_rfl) (by kernel_rfl) (by kernel_rfl) ?hqB4 (Or.inl ⟨?hwB4, ?hyB4⟩) hHeld ?restB4
                case hB4 => simp only [List.getElem?_toArray, List.getElem?_cons_succ, List.getElem?_cons_zero]; rfl
                case hwB4 => rfl
                case hyB4 => intro w hSw; (try dsimp only at hSw); first | (go_simp; done) | (go_simp; with_reducible rfl)
                case hqB4 => intro _ _ _ h; exact h
                try simp only [Act.put, List.setIfInBounds_toArray, List.set_cons_zero, List.set_cons_succ]
                refine wpAnyH_take (i := 4) (oi := ?oiB5) (v := ?vB5) ?hB5 (by kernel_rfl) (by kernel_rfl) (by kernel_rfl) ?hqB5 (Or.inl ⟨?hwB5, ?hyB5⟩) hHeld ?restB5
                case hB5 => simp only [List.getElem?_toArray, List.getElem?_cons_succ, List.getElem?_cons_zero]; rfl
                case hwB5 => rfl
                case hyB5 => intro w hSw; (try dsimp only at hSw); first | (go_simp; done) | (go_simp; with_reducible rfl)
                case hqB5 => intro _ _ _ h; exact h
                try simp only [Act.put, List.setIfInBounds_toArray, List.set_cons_zero, List.set_cons_succ]
                refine wpAnyH_take (i := 5) (oi := ?oiB6) (v := ?vB6) ?hB6 (by kernel_rfl) (by kernel_rfl) (by kernel_rfl) ?hqB6 (Or.inl ⟨?hwB6, ?hyB6⟩) hHeld ?restB6
                case hB6 => simp only [List.getElem?_toArray, List.getElem?_cons_succ, List.getElem?_cons_zero]; rfl
                case hwB6 => rfl
                case hyB6 => intro w hSw; (try dsimp only at hSw); first | (go_simp; done) | (go_simp; with_reducible rfl)
                case hqB6 => intro _ _ _ h; exact h
                try simp only [Act.put, List.setIfInBounds_toArray, List.set_cons_zero, List.set_cons_succ]
                refine wpAnyH_take (i := 6) (oi := ?oiB7) (v := ?vB7) ?hB7 (by kernel_rfl) (by kernel_rfl) (by kernel_rfl) ?hqB7 (Or.inl ⟨?hwB7, ?hyB7⟩) hHeld ?restB7
                case hB7 => simp only [List.getElem?_toArray, List.getElem?_cons_succ, List.getElem?_cons_zero]; rfl
                case hwB7 => rfl
                case hyB7 => intro w hSw; (try dsimp only at hSw); first | (go_simp; done) | (go_simp; with_reducible rfl)
                case hqB7 => intro _ _ _ h; exact h
                try simp only [Act.put, List.setIfInBounds_toArray, List.set_cons_zero, List.set_cons_succ]
                refine wpAnyH_take (i := 7) (oi := ?oiB8) (v := ?vB8) ?hB8 (by kernel_rfl) (by kernel_rfl) (by kernel_rfl) ?hqB8 (Or.inl ⟨?hwB8, ?hyB8⟩) hHeld ?restB8
                case hB8 => simp only [List.getElem?_toArray, List.getElem?_cons_succ, List.getElem?_cons_zero]; rfl
                case hwB8 => rfl
                case hyB8 => intro w hSw; (try dsimp only at hSw); first | (go_simp; done) | (go_simp; with_reducible rfl)
                case hqB8 => intro _ _ _ h; exact h
                try simp only [Act.put, List.setIfInBounds_toArray, List.set_cons_zero, List.set_cons_succ]
                refine wpAnyH_take (i := 8) (oi := ?oiB9) (v := ?vB9) ?hB9 (by kernel_rfl) (by kernel_rfl) (by kernel_rfl) ?hqB9 (Or.inl ⟨?hwB9, ?hyB9⟩) hHeld ?restB9
                case hB9 => simp only [List.getElem?_toArray, List.getElem?_cons_succ, List.getElem?_cons_zero]; rfl
                case hwB9 => rfl
                case hyB9 => intro w hSw; (try dsimp only at hSw); first | (go_simp; done) | (go_simp; with_reducible rfl)
                case hqB9 => intro _ _ _ h; exact h
                try simp only [Act.put, List.setIfInBounds_toArray, List.set_cons_zero, List.set_cons_succ]
                refine wpAnyH_take (i := 9) (oi := ?oiB10) (v := ?vB10) ?hB10 (by kernel_rfl) (by kernel_rfl) (by kernel_rfl) ?hqB10 (Or.inl ⟨?hwB10, ?hyB10⟩) hHeld ?restB10
                case hB10 => simp only [List.getElem?_toArray, List.getElem?_cons_succ, List.getElem?_cons_zero]; rfl
                case hwB10 => rfl
                case hyB10 => intro w hSw; (try dsimp only at hSw); first | (go_simp; done) | (go_simp; with_reducible rfl)
                case hqB10 => intro _ _ _ h; exact h
                try simp only [Act.put, List.setIfInBounds_toArray, List.set_cons_zero, List.set_cons_succ]
                refine wpAnyH_take (i := 10) (oi := ?oiB11) (v := ?vB11) ?hB11 (by kernel_rfl) (by kernel_rfl) (by kernel_rfl) ?hqB11 (Or.inl ⟨?hwB11, ?hyB11⟩) hHeld ?restB11
                case hB11 => simp only [List.getElem?_toArray, List.getElem?_cons_succ, List.getElem?_cons_zero]; rfl
                case hwB11 => rfl
                case hyB11 => intro w hSw; (try dsimp only at hSw); first | (go_simp; done) | (go_simp; with_reducible rfl)
                case hqB11 => intro _ _ _ h; exact h
                try simp only [Act.put, List.setIfInBounds_toArray, List.set_cons_zero, List.set_cons_succ]
                refine wpAnyH_take (i := 11) (oi := ?oiB12) (v := ?vB12) ?hB12 (by kernel_rfl) (by kernel_rfl) (by kernel_rfl) ?hqB12 (Or.inl ⟨?hwB12, ?hyB12⟩) hHeld ?restB12
                case hB12 => simp only [List.getElem?_toArray, List.getElem?_cons_succ, List.getElem?_cons_zero]; rfl
                case hwB12 => rfl
                case hyB12 => intro w hSw; (try dsimp only at hSw); first | (go_simp; done) | (go_simp; with_reducible rfl)
                case hqB12 => intro _ _ _ h; exact h
                try simp only [Act.put, List.setIfInBounds_toArray, List.set_cons_zero, List.set_cons_succ]
                refine wpAnyH_take (i := 13) (oi := ?oiB13) (v := ?vB13) ?hB13 (by kernel_rfl) (by kernel_rfl) (by kernel_rfl) ?hqB13 (Or.inl ⟨?hwB13, ?hyB13⟩) hHeld ?restB13
                case hB13 => simp only [List.getElem?_toArray, List.getElem?_cons_succ, List.getElem?_cons_zero]; rfl
                case hwB13 => rfl
                case hyB13 => intro w hSw; (try dsimp only at hSw); first | (go_simp; done) | (go_simp; with_reducible rfl)
                case hqB13 => intro _ _ _ h; exact h
                try simp only [Act.put, List.setIfInBounds_toArray, List.set_cons_zero, List.set_cons_succ]
                refine wpAnyH_take (i := 14) (oi := ?oiB14) (v := ?vB14) ?hB14 (by kernel_rfl) (by kernel_rfl) (by kernel_rfl) ?hqB14 (Or.inl ⟨?hwB14, ?hyB14⟩) hHeld ?restB14
                case hB14 => simp only [List.getElem?_toArray, List.getElem?_cons_succ, List.getElem?_cons_zero]; rfl
                case hwB14 => rfl
                case hyB14 => intro w hSw; (try dsimp only at hSw); first | (go_simp; done) | (go_simp; with_reducible rfl)
                case hqB14 => intro _ _ _ h; exact h
                try simp only [Act.put, List.setIfInBounds_toArray, List.set_cons_zero, List.set_cons_succ]
                refine wpAnyH_take (i := 15) (oi := ?oiB15) (v := ?vB15) ?hB15 (by kernel_rfl) (by kernel_rfl) (by kernel_rfl) ?hqB15 (Or.inl ⟨?hwB15, ?hyB15⟩) hHeld ?restB15
                case hB15 => simp only [List.getElem?_toArray, List.getElem?_cons_succ, List.getElem?_cons_zero]; rfl
                case hwB15 => rfl
                case hyB15 => intro w hSw; (try dsimp only at hSw); first | (go_simp; done) | (go_simp; with_reducible rfl)
                case hqB15 => intro _ _ _ h; exact h
                try simp only [Act.put, List.setIfInBounds_toArray, List.set_cons_zero, List.set_cons_succ]
                refine wpAnyH_ready (rs := [12]) (by kernel_rfl) (by simp) ?_
                refine AllReadyH.cons (o := ?oB16) ?hB16 (fun K hK => ?stepB16) ?moreB16
                case hB16 => simp only [List.getElem?_toArray, List.getElem?_cons_succ, List.getElem?_cons_zero]; rfl
                case stepB16 =>
                  go_simp
                  go_at_call 30
                  refine (C1.out _ hT).mono ?_
                  rintro e w9 ⟨rfl, hT'⟩
                  clear hT; have hT := hT'; clear hT'
                  refine hK.out _ _ (qn_cells hT) (fun hHeld2 => ?_)
                  clear hHeld hK K; have hHeld := hHeld2; clear hHeld2
                  try simp only [Act.put, List.setIfInBounds_toArray, List.set_cons_zero, List.set_cons_succ]
                  refine wpAnyH_ready (rs := [16]) (by kernel_rfl) (by simp) ?_
                  refine AllReadyH.cons (o := ?oB17) ?hB17 (fun K hK => ?stepB17) ?moreB17
                  case hB17 => simp only [List.getElem?_toArray, List.getElem?_cons_succ, List.getElem?_cons_zero]; rfl
                  case stepB17 =>
                    go_simp
                    go_at_call 31
                    refine (C2.out _ hT).mono ?_
                    rintro e w9 ⟨rfl, hT'⟩
                    clear hT; have hT := hT'; clear hT'
                    refine hK.out _ _ (qn_cells hT) (fun hHeld2 => ?_)
                    clear hHeld hK K; have hHeld := hHeld2; clear hHeld2
                    try simp only [Act.put, List.setIfInBounds_toArray, List.set_cons_zero, List.set_cons_succ]
                    refine wpAnyH_take (i := 17) (oi := ?oiB18) (v := ?vB18) ?hB18 (by kernel_rfl) (by kernel_rfl) (by kernel_rfl) ?hqB18 (Or.inl ⟨?hwB18, ?hyB18⟩) hHeld ?restB18
                    case hB18 => simp only [List.getElem?_toArray, List.getElem?_cons_succ, List.getElem?_cons_zero]; rfl
                    case hwB18 => rfl
                    case hyB18 => intro w hSw; (try dsimp only at hSw); first | (go_simp; done) | (go_simp; with_reducible rfl)
                    case hqB18 => intro _ _ _ h; exact h
                    try simp only [Act.put, List.setIfInBounds_toArray, List.set_cons_zero, List.set_cons_succ]
                    refine wpAnyH_take (i := 18) (oi := ?oiB19) (v := ?vB19) ?hB19 (by kernel_rfl) (by kernel_rfl) (by kernel_rfl) ?hqB19 (Or.inl ⟨?hwB19, ?hyB19⟩) hHeld ?restB19
                    case hB19 => simp only [List.getElem?_toArray, List.getElem?_cons_succ, List.getElem?_cons_zero]; rfl
                    case hwB19 => rfl
                    case hyB19 => intro w hSw; (try dsimp only at hSw); first | (go_simp; done) | (go_simp; with_reducible rfl)
                    case hqB19 => intro _ _ _ h; exact h
                    try simp only [Act.put, List.setIfInBounds_toArray, List.set_cons_zero, List.set_cons_succ]
                    refine wpAnyH_take (i := 19) (oi := ?oiB20) (v := ?vB20) ?hB20 (by kernel_rfl) (by kernel_rfl) (by kernel_rfl) ?hqB20 (Or.inl ⟨?hwB20, ?hyB20⟩) hHeld ?restB20
                    case hB20 => simp only [List.getElem?_toArray, List.getElem?_cons_succ, List.getElem?_cons_zero]; rfl
                    case hwB20 => rfl
                    case hyB20 => intro w hSw; (try dsimp only at hSw); first | (go_simp; done) | (go_simp; with_reducible rfl)
                    case hqB20 => intro _ _ _ h; exact h
                    try simp only [Act.put, List.setIfInBounds_toArray, List.set_cons_zero, List.set_cons_succ]
                    refine wpAnyH_take (i := 20) (oi := ?oiB21) (v := ?vB21) ?hB21 (by kernel_rfl) (by kernel_rfl) (by kernel_rfl) ?hqB21 (Or.inl ⟨?hwB21, ?hyB21⟩) hHeld ?restB21
                    case hB21 => simp only [List.getElem?_toArray, List.getElem?_cons_succ, List.getElem?_cons_zero]; rfl
                    case hwB21 => rfl
                    case hyB21 => intro w hSw; (try dsimp only at hSw); first | (go_simp; done) | (go_simp; with_reducible rfl)
                    case hqB21 => intro _ _ _ h; exact h
                    try simp only [Act.put, List.setIfInBounds_toArray, List.set_cons_zero, List.set_cons_succ]
                    refine wpAnyH_take (i := 21) (oi := ?oiB22) (v := ?vB22) ?hB22 (by kernel_rfl) (by kernel_rfl) (by kernel_rfl) ?hqB22 (Or.inl ⟨?hwB22, ?hyB22⟩) hHeld ?restB22
                    case hB22 => simp only [List.getElem?_toArray, List.getElem?_cons_succ, List.getElem?_cons_zero]; rfl
                    case hwB22 => rfl
                    case hyB22 => intro w hSw; (try dsimp only at hSw); first | (go_simp; done) | (go_simp; with_reducible rfl)
                    case hqB22 => intro _ _ _ h; exact h
                    try simp only [Act.put, List.setIfInBounds_toArray, List.set_cons_zero, List.set_cons_succ]
                    refine wpAnyH_take (i := 22) (oi := ?oiB23) (v := ?vB23) ?hB23 (by kernel_rfl) (by kernel_rfl) (by kernel_rfl) ?hqB23 (Or.inl ⟨?hwB23, ?hyB23⟩) hHeld ?restB23
                    case hB23 => simp only [List.getElem?_toArray, List.getElem?_cons_succ, List.getElem?_cons_zero]; rfl
                    case hwB23 => rfl
                    case hyB23 => intro w hSw; (try dsimp only at hSw); first | (go_simp; done) | (go_simp; with_reducible rfl)
                    case hqB23 => intro _ _ _ h; exact h
                    try simp only [Act.put, List.setIfInBounds_toArray, List.set_cons_zero, List.set_cons_succ]
                    refine wpAnyH_take (i := 24) (oi := ?oiB24) (v := ?vB24) ?hB24 (by kernel_rfl) (by kernel_rfl) (by kernel_rfl) ?hqB24 (Or.inl ⟨?hwB24, ?hyB24⟩) hHeld ?restB24
                    case hB24 => simp only [List.getElem?_toArray, List.getElem?_cons_succ, List.getElem?_cons_zero]; rfl
                    case hwB24 => rfl
                    case hyB24 => intro w hSw; (try dsimp only at hSw); first | (go_simp; done) | (go_simp; with_reducible rfl)
                    case hqB24 => intro _ _ _ h; exact h
                    try simp only [Act.put, List.setIfInBounds_toArray, List.set_cons_zero, List.set_cons_succ]
                    refine wpAnyH_take (i := 25) (oi := ?oiB25) (v := ?vB25) ?hB25 (by kernel_rfl) (by kernel_rfl) (by kernel_rfl) ?hqB25 (Or.inl ⟨?hwB25, ?hyB25⟩) hHeld ?restB25
                    case hB25 => simp only [List.getElem?_toArray, List.getElem?_cons_succ, List.getElem?_cons_zero]; rfl
                    case hwB25 => rfl
                    case hyB25 => intro w hSw; (try dsimp only at hSw); first | (go_simp; done) | (go_simp; with_reducible rfl)
                    case hqB25 => intro _ _ _ h; exact h
                    try simp only [Act.put, List.setIfInBounds_toArray, List.set_cons_zero, List.set_cons_succ]
                    refine wpAnyH_take (i := 26) (oi := ?oiB26) (v := ?vB26) ?hB26 (by kernel_rfl) (by kernel_rfl) (by kernel_rfl) ?hqB26 (Or.inl ⟨?hwB26, ?hyB26⟩) hHeld ?restB26
                    case hB26 => simp only [List.getElem?_toArray, List.getElem?_cons_succ, List.getElem?_cons_zero]; rfl
                    case hwB26 => rfl
                    case hyB26 => intro w hSw; (try dsimp only at hSw); first | (go_simp; done) | (go_simp; with_reducible rfl)
                    case hqB26 => intro _ _ _ h; exact h
                    try simp only [Act.put, List.setIfInBounds_toArray, List.set_cons_zero, List.set_cons_succ]
                    refine wpAnyH_ready (rs := [23]) (by kernel_rfl) (by simp) ?_
                    refine AllReadyH.cons (o := ?oB27) ?hB27 (fun K hK => ?stepB27) ?moreB27
                    case hB27 => simp only [List.getElem?_toArray, List.getElem?_cons_succ, List.getElem?_cons_zero]; rfl
                    case stepB27 =>
                      go_simp
                      go_at_call 32
                      refine (C3.out _ hT).mono ?_
                      rintro e w9 ⟨p1, c1, rfl, h1, hT'⟩
                      clear hT; have hT := hT'; clear hT'
                      refine hK.out _ _ (qn_cells hT) (fun hHeld2 => ?_)
                      clear hHeld hK K; have hHeld := hHeld2; clear hHeld2
                      try simp only [Act.put, List.setIfInBounds_toArray, List.set_cons_zero, List.set_cons_succ]
                      refine wpAnyH_ready (rs := [27]) (by kernel_rfl) (by simp) ?_
                      refine AllReadyH.cons (o := ?oB28) ?hB28 (fun K hK => ?stepB28) ?moreB28
                      case hB28 => simp only [List.getElem?_toArray, List.getElem?_cons_succ, List.getElem?_cons_zero]; rfl
                      case stepB28 =>
                        go_simp
                        go_at_call 33
                        refine (C4.out _ hT p1 h1).mono ?_
                        rintro e w9 ⟨p2, c2, rfl, h2, h1', hT'⟩
                        clear h1
                        clear hT; have hT := hT'; clear hT'
                        refine hK.out _ _ (qn_cells hT) (fun hHeld2 => ?_)
                        clear hHeld hK K; have hHeld := hHeld2; clear hHeld2
                        try simp only [Act.put, List.setIfInBounds_toArray, List.set_cons_zero, List.set_cons_succ]
                        refine wpAnyH_ready (rs := [28]) (by kernel_rfl) (by simp) ?_
                        refine AllReadyH.cons (o := ?oB29) ?hB29 (fun K hK => ?stepB29) ?moreB29
                        case hB29 => simp only [List.getElem?_toArray, List.getElem?_cons_succ, List.getElem?_cons_zero]; rfl
                        case stepB29 =>
                          go_simp
                          go_at_call 21
                          refine (C5.out _ hT p1 p2 c1 c2 h1' h2).mono ?_
                          rintro e w9 ⟨rfl, hT'⟩
                          clear h1' h2
                          clear hT; have hT := hT'; clear hT'
                          refine hK.out _ _ (qn_cells hT) (fun hHeld2 => ?_)
                          clear hHeld hK K; have hHeld := hHeld2; clear hHeld2
                          try simp only [Act.put, List.setIfInBounds_toArray, List.set_cons_zero, List.set_cons_succ]
                          refine wpAnyH_take (i := 29) (oi := ?oiB30) (v := ?vB30) ?hB30 (by kernel_rfl) (by kernel_rfl) (by kernel_rfl) ?hqB30 (Or.inl ⟨?hwB30, ?hyB30⟩) hHeld ?restB30
                          case hB30 => simp only [List.getElem?_toArray, List.getElem?_cons_succ, List.getElem?_cons_zero]; rfl
                          case hwB30 => rfl
                          case hyB30 => intro w hSw; (try dsimp only at hSw); first | (go_simp; done) | (go_simp; with_reducible rfl)
                          case hqB30 => intro _ _ _ h; exact h
                          try simp only [Act.put, List.setIfInBounds_toArray, List.set_cons_zero, List.set_cons_succ]
                          refine wpAnyH_take (i := 30) (oi := ?oiB31) (v := ?vB31) ?hB31 (by kernel_rfl) (by kernel_rfl) (by kernel_rfl) ?hqB31 (Or.inl ⟨?hwB31, ?hyB31⟩) hHeld ?restB31
                          case hB31 => simp only [List.getElem?_toArray, List.getElem?_cons_succ, List.getElem?_cons_zero]; rfl
                          case hwB31 => rfl
                          case hyB31 => intro w hSw; (try dsimp only at hSw); first | (go_simp; done) | (go_simp; with_reducible rfl)
                          case hqB31 => intro _ _ _ h; exact h
                          try simp only [Act.put, List.setIfInBounds_toArray, List.set_cons_zero, List.set_cons_succ]
                          refine wpAnyH_take (i := 31) (oi := ?oiB32) (v := ?vB32) ?hB32 (by kernel_rfl) (by kernel_rfl) (by kernel_rfl) ?hqB32 (Or.inl ⟨?hwB32, ?hyB32⟩) hHeld ?restB32
                          case hB32 => simp only [List.getElem?_toArray, List.getElem?_cons_succ, List.getElem?_cons_zero]; rfl
                          case hwB32 => rfl
                          case hyB32 => intro w hSw; (try dsimp only at hSw); first | (go_simp; done) | (go_simp; with_reducible rfl)
                          case hqB32 => intro _ _ _ h; exact h
                          try simp only [Act.put, List.setIfInBounds_toArray, List.set_cons_zero, List.set_cons_succ]
                          refine wpAnyH_take (i := 32) (oi := ?oiB33) (v := ?vB33) ?hB33 (by kernel_rfl) (by kernel_rfl) (by kernel_rfl) ?hqB33 (Or.inl ⟨?hwB33, ?hyB33⟩) hHeld ?restB33
                          case hB33 => simp only [List.getElem?_toArray, List.getElem?_cons_succ, List.getElem?_cons_zero]; rfl
                          case hwB33 => rfl
                          case hyB33 => intro w hSw; (try dsimp only at hSw); first | (go_simp; done) | (go_simp; with_reducible rfl)
                          case hqB33 => intro _ _ _ h; exact h
                          try simp only [Act.put, List.setIfInBounds_toArray, List.set_cons_zero, List.set_cons_succ]
                          refine wpAnyH_take (i := 33) (oi := ?oiB34) (v := ?vB34) ?hB34 (by kernel_rfl) (by kernel_rfl) (by kernel_rfl) ?hqB34 (Or.inl ⟨?hwB34, ?hyB34⟩) hHeld ?restB34
                          case hB34 => simp only [List.getElem?_toArray, List.getElem?_cons_succ, List.getElem?_cons_zero]; rfl
                          case hwB34 => rfl
                          case hyB34 => intro w hSw; (try dsimp only at hSw); first | (go_simp; done) | (go_simp; with_reducible rfl)
                          case hqB34 => intro _ _ _ h; exact h
                          try simp only [Act.put, List.setIfInBounds_toArray, List.set_cons_zero, List.set_cons_succ]
                          refine wpAnyH_take (i := 34) (oi := ?oiB35) (v := ?vB35) ?hB35 (by kernel_rfl) (by kernel_rfl) (by kernel_rfl) ?hqB35 (Or.inl ⟨?hwB35, ?hyB35⟩) hHeld ?restB35
                          case hB35 => simp only [List.getElem?_toArray, List.getElem?_cons_succ, List.getElem?_cons_zero]; rfl
                          case hwB35 => rfl
                          case hyB35 => intro w hSw; (try dsimp only at hSw); first | (go_simp; done) | (go_simp; with_reducible rfl)
                          case hqB35 => intro _ _ _ h; exact h
                          try simp only [Act.put, List.setIfInBounds_toArray, List.set_cons_zero, List.set_cons_succ]
                          refine wpAnyH_take (i := 35) (oi := ?oiB36) (v := ?vB36) ?hB36 (by kernel_rfl) (by kernel_rfl) (by kernel_rfl) ?hqB36 (Or.inl ⟨?hwB36, ?hyB36⟩) hHeld ?restB36
                          case hB36 => simp only [List.getElem?_toArray, List.getElem?_cons_succ, List.getElem?_cons_zero]; rfl
                          case hwB36 => rfl
                          case hyB36 => intro w hSw; (try dsimp only at hSw); first | (go_simp; done) | (go_simp; with_reducible rfl)
                          case hqB36 => intro _ _ _ h; exact h
                          try simp only [Act.put, List.setIfInBounds_toArray, List.set_cons_zero, List.set_cons_succ]
                          refine wpAnyH_take (i := 36) (oi := ?oiB37) (v := ?vB37) ?hB37 (by kernel_rfl) (by kernel_rfl) (by kernel_rfl) ?hqB37 (Or.inl ⟨?hwB37, ?hyB37⟩) hHeld ?restB37
                          case hB37 => simp only [List.getElem?_toArray, List.getElem?_cons_succ, List.getElem?_cons_zero]; rfl
                          case hwB37 => rfl
                          case hyB37 => intro w hSw; (try dsimp only at hSw); first | (go_simp; done) | (go_simp; with_reducible rfl)
                          case hqB37 => intro _ _ _ h; exact h
                          try simp only [Act.put, List.setIfInBounds_toArray, List.set_cons_zero, List.set_cons_succ]
                          refine wpAnyH_take (i := 38) (oi := ?oiB38) (v := ?vB38) ?hB38 (by kernel_rfl) (by kernel_rfl) (by kernel_rfl) ?hqB38 (Or.inl ⟨?hwB38, ?hyB38⟩) hHeld ?restB38
                          case hB38 => simp only [List.getElem?_toArray, List.getElem?_cons_succ, List.getElem?_cons_zero]; rfl
                          case hwB38 => rfl
                          case hyB38 => intro w hSw; (try dsimp only at hSw); first | (go_simp; done) | (go_simp; with_reducible rfl)
                          case hqB38 => intro _ _ _ h; exact h
                          try simp only [Act.put, List.setIfInBounds_toArray, List.set_cons_zero, List.set_cons_succ]
                          refine wpAnyH_take (i := 39) (oi := ?oiB39) (v := ?vB39) ?hB39 (by kernel_rfl) (by kernel_rfl) (by kernel_rfl) ?hqB39 (Or.inl ⟨?hwB39, ?hyB39⟩) hHeld ?restB39
                          case hB39 => simp only [List.getElem?_toArray, List.getElem?_cons_succ, List.getElem?_cons_zero]; rfl
                          case hwB39 => rfl
                          case hyB39 => intro w hSw; (try dsimp only at hSw); first | (go_simp; done) | (go_simp; with_reducible rfl)
                          case hqB39 => intro _ _ _ h; exact h
                          try simp only [Act.put, List.setIfInBounds_toArray, List.set_cons_zero, List.set_cons_succ]
                          refine wpAnyH_take (i := 40) (oi := ?oiB40) (v := ?vB40) ?hB40 (by kernel_rfl) (by kernel_rfl) (by kernel_rfl) ?hqB40 (Or.inl ⟨?hwB40, ?hyB40⟩) hHeld ?restB40
                          case hB40 => simp only [List.getElem?_toArray, List.getElem?_cons_succ, List.getElem?_cons_zero]; rfl
                          case hwB40 => rfl
                          case hyB40 => intro w hSw; (try dsimp only at hSw); first | (go_simp; done) | (go_simp; with_reducible rfl)
                          case hqB40 => intro _ _ _ h; exact h
                          try simp only [Act.put, List.setIfInBounds_toArray, List.set_cons_zero, List.set_cons_succ]
                          refine wpAnyH_take (i := 41) (oi := ?oiB41) (v := ?vB41) ?hB41 (by kernel_rfl) (by kernel_rfl) (by kernel_rfl) ?hqB41 (Or.inl ⟨?hwB41, ?hyB41⟩) hHeld ?restB41
                          case hB41 => simp only [List.getElem?_toArray, List.getElem?_cons_succ, List.getElem?_cons_zero]; rfl
                          case hwB41 => rfl
                          case hyB41 => intro w hSw; (try dsimp only at hSw); first | (go_simp; done) | (go_simp; with_reducible rfl)
                          case hqB41 => intro _ _ _ h; exact h
                          try simp only [Act.put, List.setIfInBounds_toArray, List.set_cons_zero, List.set_cons_succ]
                          refine wpAnyH_take (i := 42) (oi := ?oiB42) (v := ?vB42) ?hB42 (by kernel_rfl) (by kernel_rfl) (by kernel_rfl) ?hqB42 (Or.inl ⟨?hwB42, ?hyB42⟩) hHeld ?restB42
                          case hB42 => simp only [List.getElem?_toArray, List.getElem?_cons_succ, List.getElem?_cons_zero]; rfl
                          case hwB42 => rfl
                          case hyB42 => intro w hSw; (try dsimp only at hSw); first | (go_simp; done) | (go_simp; with_reducible rfl)
                          case hqB42 => intro _ _ _ h; exact h
                          try simp only [Act.put, List.setIfInBounds_toArray, List.set_cons_zero, List.set_cons_succ]
                          refine wpAnyH_ready (rs := [37]) (by kernel_rfl) (by simp) ?_
                          refine AllReadyH.cons (o := ?oB43) ?hB43 (fun K hK => ?stepB43) ?moreB43
                          case hB43 => simp only [List.getElem?_toArray, List.getElem?_cons_succ, List.getElem?_cons_zero]; rfl
                          case stepB43 =>
                            go_simp
                            go_at_call 35
                            refine (C6.out _ hT).mono ?_
                            rintro e w9 ⟨v1, rfl, h1, hT'⟩
                            clear hT; have hT := hT'; clear hT'
                            refine hK.out _ _ (qn_cells hT) (fun hHeld2 => ?_)
                            clear hHeld hK K; have hHeld := hHeld2; clear hHeld2
                            try simp only [Act.put, List.setIfInBounds_toArray, List.set_cons_zero, List.set_cons_succ]
                            refine wpAnyH_ready (rs := [43]) (by kernel_rfl) (by simp) ?_
                            refine AllReadyH.cons (o := ?oB44) ?hB44 (fun K hK => ?stepB44) ?moreB44
                            case hB44 => simp only [List.getElem?_toArray, List.getElem?_cons_succ, List.getElem?_cons_zero]; rfl
                            case stepB44 =>
                              go_simp
                              go_at_call 36
                              refine (C7.out _ hT v1 h1).mono ?_
                              rintro e w9 ⟨v2, rfl, h2, h1', hT'⟩
                              clear h1
                              clear hT; have hT := hT'; clear hT'
                              refine hK.out _ _ (qn_cells hT) (fun hHeld2 => ?_)
                              clear hHeld hK K; have hHeld := hHeld2; clear hHeld2
                              try simp only [Act.put, List.setIfInBounds_toArray, List.set_cons_zero, List.set_cons_succ]
                              refine wpAnyH_ready (rs := [44]) (by kernel_rfl) (by simp) ?_
                              refine AllReadyH.cons (o := ?oB45) ?hB45 (fun K hK => ?stepB45) ?moreB45
                              case hB45 => simp only [List.getElem?_toArray, List.getElem?_cons_succ, List.getElem?_cons_zero]; rfl
                              case stepB45 =>
                                go_simp
                                go_at_call 34
                                refine (C8.out _ hT v1 v2 h1' h2).mono ?_
                                rintro e w9 ⟨rfl, hT'⟩
                                clear h1' h2
                                clear hT; have hT := hT'; clear hT'
                                refine hK.out _ _ (qn_cells hT) (fun hHeld2 => ?_)
                                clear hHeld hK K; have hHeld := hHeld2; clear hHeld2
                                try simp only [Act.put, List.setIfInBounds_toArray, List.set_cons_zero, List.set_cons_succ]
                                refine wpAnyH_take (i := 45) (oi := ?oiB46) (v := ?vB46) ?hB46 (by kernel_rfl) (by kernel_rfl) (by kernel_rfl) ?hqB46 (Or.inl ⟨?hwB46, ?hyB46⟩) hHeld ?restB46
                                case hB46 => simp only [List.getElem?_toArray, List.getElem?_cons_succ, List.getElem?_cons_zero]; rfl
                                case hwB46 => rfl
                                case hyB46 => intro w hSw; (try dsimp only at hSw); first | (go_simp; done) | (go_simp; with_reducible rfl)
                                case hqB46 => intro _ _ _ h; exact h
                                try simp only [Act.put, List.setIfInBounds_toArray, List.set_cons_zero, List.set_cons_succ]
                                refine wpAnyH_take (i := 46) (oi := ?oiB47) (v := ?vB47) ?hB47 (by kernel_rfl) (by kernel_rfl) (by kernel_rfl) ?hqB47 (Or.inl ⟨?hwB47, ?hyB47⟩) hHeld ?restB47
                                case hB47 => simp only [List.getElem?_toArray, List.getElem?_cons_succ, List.getElem?_cons_zero]; rfl
                                case hwB47 => rfl
                                case hyB47 => intro w hSw; (try dsimp only at hSw); first | (go_simp; done) | (go_simp; with_reducible rfl)
                                case hqB47 => intro _ _ _ h; exact h
                                try simp only [Act.put, List.setIfInBounds_toArray, List.set_cons_zero, List.set_cons_succ]
                                refine wpAnyH_done (by kernel_rfl) ?_ _
                                have HF := Lib.hid hT; clear hT
                                go_wp2_with fail
                                go_meet
                                exact ⟨rfl, rfl, HF.out.below⟩
                              exact AllReadyH.nil
                            exact AllReadyH.nil
                          exact AllReadyH.nil
                        exact AllReadyH.nil
                      exact AllReadyH.nil
                    exact AllReadyH.nil
                  exact AllReadyH.nil
                exact AllReadyH.nil
              case rest =>
                obtain ⟨rfl, rfl, hb11⟩ := hcut
                have HB11 := Lib.hid hb11; clear hb11 C1 C2 C3 C4 C5 C6 C7 C8
                go_wp2_with fail
                go_roundw
                case rel => exact ⟨k + 1, by omega, by go_num, HB11.out⟩
                case measure => simp [intOf]; omega
            · have hlge := HLQ2.out.mono hb
              have HLE := Lib.hid hlge.below
              clear hb hlge HLQ2 HEL
              go_wp2_with fail
              refine (lawake_any _).mono ?_
              rintro e w' ⟨rfl, hbz⟩
              go_wp2_with fail
              go_ret
              exact ⟨rfl, below_step HLE.out hbz⟩

theorem llall_any (w : World) (a : Option Addr) (n c : Nat) (pr : Option Addr) (cr : Nat) (lr : List Dec) (d : Dec) (x y z : Int) (hx : -9223372036854775808 ≤ x ∧ x ≤ 9223372036854775807) (hy : -9223372036854775808 ≤ y ∧ y ≤ 9223372036854775807) (hz : -9223372036854775808 ≤ z ∧ z ≤ 9223372036854775807)
    (hi : Ints w w.heap.size a n) (hcr : lr.length ≤ cr) (hrr : Reads w pr lr) :
    Calls Try.prog 3 #[.slice a n c, .agg #[.slice pr lr.length cr], d.val, .int .i64 x, .int .i64 y, .int .i64 z] w fun e w' => e = .returned (.bool true) ∧ Below w.heap.size w w' := by
  by_cases h : decide (n ≤ 400) = true
  · by_cases h2 : lr.length ≤ 140
    · exact llall_light w a n c pr cr lr d x y z hx hy hz h hi h2 hcr hrr
    · exact llall_torn w a n c pr lr.length cr d x y z h (by rw [decide_eq_true_eq]; omega)
  · exact llall_heavy w a n c pr lr.length cr d x y z (by simpa using h)
end Go.Proofs.Ytogcpjkgliijmaa
