/- The reference's Check of a good list, and Copy. -/
import Derived.Test.YtogcpjkgliijmaaRefV
namespace Go.Proofs.Ytogcpjkgliijmaa
open Go.RowKit

set_option maxHeartbeats 8000000 in
theorem refcheck_good (w : World) {p : Option Addr} {c : Nat} (l : List Dec) (hg : Good l) (hl : l.length ≤ 128) (hr : Reads w p l) :
    Calls Try.prog 23 #[.agg #[.slice p l.length c]] w fun r w' => r = .returned (.int .i64 0) ∧ Below w.heap.size w w' := by
  have h128 : decide ((128 : Int) < (l.length : Int)) = false := by rw [decide_eq_false_iff_not]; omega
  obtain ⟨B, hB⟩ : ∃ B, B = w.heap.size := ⟨_, rfl⟩
  have hbx : Below B w (w.alloc (.cells #[.slice p l.length c] 25)) := by rw [hB]; exact (Below.refl _ _).alloc (Nat.le_refl _) _
  have hbo : (w.alloc (.cells #[.slice p l.length c] 25)).cell? ⟨B, 0, none⟩ = some (.slice p l.length c) := by rw [hB]; simp
  have hbs : (w.alloc (.cells #[.slice p l.length c] 25)).heap.size = B + 1 := by rw [hB]; simp
  have hr1 : Reads (w.alloc (.cells #[.slice p l.length c] 25)) p l := hr.mono (by rw [← hB]; exact hbx)
  go_enter Try.func23, Try.ntmps23
  go_wp2_with fail
  rw [← hB]
  generalize w.alloc (.cells #[.slice p l.length c] 25) = W0 at *
  have HB := Lib.hid hB; have HBX := Lib.hid hbx; have HBO := Lib.hid hbo; have HR := Lib.hid hr1; have HG := Lib.hid hg; have HBS := Lib.hid hbs
  clear hB hbx hbo hr hr1 hg hbs
  go_loopw [12] (fun i wr => ∃ k : Nat, k ≤ l.length ∧ i = .int .i64 k ∧ Below W0.heap.size W0 wr) (fun i _ => l.length - (intOf i).toNat)
  case atStart => exact ⟨0, Nat.zero_le _, rfl, Below.refl _ _⟩
  case round =>
    obtain ⟨k, hk, rfl, hb⟩ := hrel
    have hbox := cell_later hb HBO.out
    by_cases hlt : k < l.length
    · rcases HR.out with h | ⟨b, o, hp, hrow⟩
      · subst h; simp at hlt
      subst hp
      obtain ⟨c0, c1, c2, c3, c4⟩ := (hrow.mono hb) k hlt
      have hok := HG.out.1 k hlt
      have cV := fun W => refvalid_ok l[k] W hok
      unfold Dec.val at cV
      have CV := Lib.hid cV
      have hba : Below wr.heap.size wr (wr.alloc (.cells #[.int .i64 l[k].day, .int .i64 l[k].known, .int .i64 l[k].kind, .int .i64 l[k].subj, .int .i64 l[k].value] 27)) := (Below.refl _ _).alloc (Nat.le_refl _) _
      obtain ⟨X, hX⟩ : ∃ X, X = wr.heap.size := ⟨_, rfl⟩
      have x0 : (wr.alloc (.cells #[.int .i64 l[k].day, .int .i64 l[k].known, .int .i64 l[k].kind, .int .i64 l[k].subj, .int .i64 l[k].value] 27)).cell? ⟨X, 0, none⟩ = some (.int .i64 l[k].day) := by rw [hX]; simp
      have x1 : (wr.alloc (.cells #[.int .i64 l[k].day, .int .i64 l[k].known, .int .i64 l[k].kind, .int .i64 l[k].subj, .int .i64 l[k].value] 27)).cell? ⟨X, 1, none⟩ = some (.int .i64 l[k].known) := by rw [hX]; simp
      have HB1 := Lib.hid (below_step hb hba)
      have hbox1 := cell_later hba hbox
      have HX0 := Lib.hid x0; have HX1 := Lib.hid x1; have HBX1 := Lib.hid hbox1
      clear cV hok hb hba x0 x1 hbox1
      go_wp2_with fail
      rw [← hX]
      refine (CV.out _).mono ?_; rintro r W1 ⟨rfl, hb1⟩
      generalize wr.alloc (.cells #[.int .i64 l[k].day, .int .i64 l[k].known, .int .i64 l[k].kind, .int .i64 l[k].subj, .int .i64 l[k].value] 27) = Wa at *
      have hb2 := below_step HB1.out hb1
      have y0 := cell_later hb1 HX0.out
      have y1 := cell_later hb1 HX1.out
      have hbox2 := cell_later hb1 HBX1.out
      have hrow2 := hrow.mono hb2
      have HB2 := Lib.hid hb2
      clear hb1 hb2 hbox hX c0 c1 c2 c3 c4 CV HB1 HX0 HX1 HBX1 hrow
      cases k with
      | zero =>
        clear hrow2
        go_upto_region 8 with (fail)
        refine wp_region_held_drew (S := fun W => W.cell? ⟨X, 0, none⟩ = some (.int .i64 l[0].day)) (by kernel_rfl) y0 (fun hHeld => ?_)
        refine wpAnyH_take (i := 0) (oi := ?oi1) (v := ?v1) ?h1 (by kernel_rfl) (by kernel_rfl) (by kernel_rfl) ?hq1 (Or.inl ⟨?hw1, ?hy1⟩) hHeld ?rest1
        case h1 => simp only [List.getElem?_toArray, List.getElem?_cons_succ, List.getElem?_cons_zero]; rfl
        case hw1 => rfl
        case hy1 => intro w hSw; (try dsimp only at hSw); first | (go_simp; done) | (go_simp; with_reducible rfl)
        case hq1 => intro _ _ _ h; exact h
        try simp only [Act.put, List.setIfInBounds_toArray, List.set_cons_zero, List.set_cons_succ]
        refine wpAnyH_take (i := 1) (oi := ?oi2) (v := ?v2) ?h2 (by kernel_rfl) (by kernel_rfl) (by kernel_rfl) ?hq2 (Or.inl ⟨?hw2, ?hy2⟩) hHeld ?rest2
        case h2 => simp only [List.getElem?_toArray, List.getElem?_cons_succ, List.getElem?_cons_zero]; rfl
        case hw2 => rfl
        case hy2 => intro w hSw; (try dsimp only at hSw); first | (go_simp; done) | (go_simp; with_reducible rfl)
        case hq2 => intro _ _ _ h; exact h
        try simp only [Act.put, List.setIfInBounds_toArray, List.set_cons_zero, List.set_cons_succ]
        refine wpAnyH_take (i := 2) (oi := ?oi3) (v := ?v3) ?h3 (by kernel_rfl) (by kernel_rfl) (by kernel_rfl) ?hq3 (Or.inl ⟨?hw3, ?hy3⟩) hHeld ?rest3
        case h3 => simp only [List.getElem?_toArray, List.getElem?_cons_succ, List.getElem?_cons_zero]; rfl
        case hw3 => rfl
        case hy3 => intro w hSw; (try dsimp only at hSw); first | (go_simp; done) | (go_simp; with_reducible rfl)
        case hq3 => intro _ _ _ h; exact h
        try simp only [Act.put, List.setIfInBounds_toArray, List.set_cons_zero, List.set_cons_succ]
        refine wpAnyH_take (i := 3) (oi := ?oi4) (v := undef) ?h4 (by kernel_rfl) (by kernel_rfl) (by kernel_rfl) ?hq4 (Or.inr ⟨?hw4, ?hy4⟩) hHeld ?rest4
        case h4 => simp only [List.getElem?_toArray, List.getElem?_cons_succ, List.getElem?_cons_zero]; rfl
        case hw4 => rfl
        case hy4 => rfl
        case hq4 => intro _ _ _ h; exact h
        try simp only [Act.put, List.setIfInBounds_toArray, List.set_cons_zero, List.set_cons_succ]
        refine wpAnyH_take (i := 4) (oi := ?oi5) (v := undef) ?h5 (by kernel_rfl) (by kernel_rfl) (by kernel_rfl) ?hq5 (Or.inr ⟨?hw5, ?hy5⟩) hHeld ?rest5
        case h5 => simp only [List.getElem?_toArray, List.getElem?_cons_succ, List.getElem?_cons_zero]; rfl
        case hw5 => rfl
        case hy5 => rfl
        case hq5 => intro _ _ _ h; exact h
        try simp only [Act.put, List.setIfInBounds_toArray, List.set_cons_zero, List.set_cons_succ]
        refine wpAnyH_take (i := 5) (oi := ?oi6) (v := undef) ?h6 (by kernel_rfl) (by kernel_rfl) (by kernel_rfl) ?hq6 (Or.inr ⟨?hw6, ?hy6⟩) hHeld ?rest6
        case h6 => simp only [List.getElem?_toArray, List.getElem?_cons_succ, List.getElem?_cons_zero]; rfl
        case hw6 => rfl
        case hy6 => rfl
        case hq6 => intro _ _ _ h; exact h
        try simp only [Act.put, List.setIfInBounds_toArray, List.set_cons_zero, List.set_cons_succ]
        refine wpAnyH_take (i := 6) (oi := ?oi7) (v := undef) ?h7 (by kernel_rfl) (by kernel_rfl) (by kernel_rfl) ?hq7 (Or.inr ⟨?hw7, ?hy7⟩) hHeld ?rest7
        case h7 => simp only [List.getElem?_toArray, List.getElem?_cons_succ, List.getElem?_cons_zero]; rfl
        case hw7 => rfl
        case hy7 => rfl
        case hq7 => intro _ _ _ h; exact h
        try simp only [Act.put, List.setIfInBounds_toArray, List.set_cons_zero, List.set_cons_succ]
        refine wpAnyH_take (i := 7) (oi := ?oi8) (v := undef) ?h8 (by kernel_rfl) (by kernel_rfl) (by kernel_rfl) ?hq8 (Or.inr ⟨?hw8, ?hy8⟩) hHeld ?rest8
        case h8 => simp only [List.getElem?_toArray, List.getElem?_cons_succ, List.getElem?_cons_zero]; rfl
        case hw8 => rfl
        case hy8 => rfl
        case hq8 => intro _ _ _ h; exact h
        try simp only [Act.put, List.setIfInBounds_toArray, List.set_cons_zero, List.set_cons_succ]
        refine wpAnyH_take (i := 8) (oi := ?oi9) (v := undef) ?h9 (by kernel_rfl) (by kernel_rfl) (by kernel_rfl) ?hq9 (Or.inr ⟨?hw9, ?hy9⟩) hHeld ?rest9
        case h9 => simp only [List.getElem?_toArray, List.getElem?_cons_succ, List.getElem?_cons_zero]; rfl
        case hw9 => rfl
        case hy9 => rfl
        case hq9 => intro _ _ _ h; exact h
        try simp only [Act.put, List.setIfInBounds_toArray, List.set_cons_zero, List.set_cons_succ]
        refine wpAnyH_take (i := 9) (oi := ?oi10) (v := undef) ?h10 (by kernel_rfl) (by kernel_rfl) (by kernel_rfl) ?hq10 (Or.inr ⟨?hw10, ?hy10⟩) hHeld ?rest10
        case h10 => simp only [List.getElem?_toArray, List.getElem?_cons_succ, List.getElem?_cons_zero]; rfl
        case hw10 => rfl
        case hy10 => rfl
        case hq10 => intro _ _ _ h; exact h
        try simp only [Act.put, List.setIfInBounds_toArray, List.set_cons_zero, List.set_cons_succ]
        refine wpAnyH_take (i := 10) (oi := ?oi11) (v := undef) ?h11 (by kernel_rfl) (by kernel_rfl) (by kernel_rfl) ?hq11 (Or.inr ⟨?hw11, ?hy11⟩) hHeld ?rest11
        case h11 => simp only [List.getElem?_toArray, List.getElem?_cons_succ, List.getElem?_cons_zero]; rfl
        case hw11 => rfl
        case hy11 => rfl
        case hq11 => intro _ _ _ h; exact h
        try simp only [Act.put, List.setIfInBounds_toArray, List.set_cons_zero, List.set_cons_succ]
        refine wpAnyH_take (i := 11) (oi := ?oi12) (v := undef) ?h12 (by kernel_rfl) (by kernel_rfl) (by kernel_rfl) ?hq12 (Or.inr ⟨?hw12, ?hy12⟩) hHeld ?rest12
        case h12 => simp only [List.getElem?_toArray, List.getElem?_cons_succ, List.getElem?_cons_zero]; rfl
        case hw12 => rfl
        case hy12 => rfl
        case hq12 => intro _ _ _ h; exact h
        try simp only [Act.put, List.setIfInBounds_toArray, List.set_cons_zero, List.set_cons_succ]
        refine wpAnyH_take (i := 12) (oi := ?oi13) (v := undef) ?h13 (by kernel_rfl) (by kernel_rfl) (by kernel_rfl) ?hq13 (Or.inr ⟨?hw13, ?hy13⟩) hHeld ?rest13
        case h13 => simp only [List.getElem?_toArray, List.getElem?_cons_succ, List.getElem?_cons_zero]; rfl
        case hw13 => rfl
        case hy13 => rfl
        case hq13 => intro _ _ _ h; exact h
        try simp only [Act.put, List.setIfInBounds_toArray, List.set_cons_zero, List.set_cons_succ]
        refine wpAnyH_take (i := 13) (oi := ?oi14) (v := undef) ?h14 (by kernel_rfl) (by kernel_rfl) (by kernel_rfl) ?hq14 (Or.inr ⟨?hw14, ?hy14⟩) hHeld ?rest14
        case h14 => simp only [List.getElem?_toArray, List.getElem?_cons_succ, List.getElem?_cons_zero]; rfl
        case hw14 => rfl
        case hy14 => rfl
        case hq14 => intro _ _ _ h; exact h
        try simp only [Act.put, List.setIfInBounds_toArray, List.set_cons_zero, List.set_cons_succ]
        refine wpAnyH_take (i := 14) (oi := ?oi15) (v := undef) ?h15 (by kernel_rfl) (by kernel_rfl) (by kernel_rfl) ?hq15 (Or.inr ⟨?hw15, ?hy15⟩) hHeld ?rest15
        case h15 => simp only [List.getElem?_toArray, List.getElem?_cons_succ, List.getElem?_cons_zero]; rfl
        case hw15 => rfl
        case hy15 => rfl
        case hq15 => intro _ _ _ h; exact h
        try simp only [Act.put, List.setIfInBounds_toArray, List.set_cons_zero, List.set_cons_succ]
        refine wpAnyH_take (i := 15) (oi := ?oi16) (v := undef) ?h16 (by kernel_rfl) (by kernel_rfl) (by kernel_rfl) ?hq16 (Or.inr ⟨?hw16, ?hy16⟩) hHeld ?rest16
        case h16 => simp only [List.getElem?_toArray, List.getElem?_cons_succ, List.getElem?_cons_zero]; rfl
        case hw16 => rfl
        case hy16 => rfl
        case hq16 => intro _ _ _ h; exact h
        try simp only [Act.put, List.setIfInBounds_toArray, List.set_cons_zero, List.set_cons_succ]
        refine wpAnyH_take (i := 16) (oi := ?oi17) (v := undef) ?h17 (by kernel_rfl) (by kernel_rfl) (by kernel_rfl) ?hq17 (Or.inr ⟨?hw17, ?hy17⟩) hHeld ?rest17
        case h17 => simp only [List.getElem?_toArray, List.getElem?_cons_succ, List.getElem?_cons_zero]; rfl
        case hw17 => rfl
        case hy17 => rfl
        case hq17 => intro _ _ _ h; exact h
        try simp only [Act.put, List.setIfInBounds_toArray, List.set_cons_zero, List.set_cons_succ]
        refine wpAnyH_take (i := 17) (oi := ?oi18) (v := undef) ?h18 (by kernel_rfl) (by kernel_rfl) (by kernel_rfl) ?hq18 (Or.inr ⟨?hw18, ?hy18⟩) hHeld ?rest18
        case h18 => simp only [List.getElem?_toArray, List.getElem?_cons_succ, List.getElem?_cons_zero]; rfl
        case hw18 => rfl
        case hy18 => rfl
        case hq18 => intro _ _ _ h; exact h
        try simp only [Act.put, List.setIfInBounds_toArray, List.set_cons_zero, List.set_cons_succ]
        refine wpAnyH_take (i := 18) (oi := ?oi19) (v := undef) ?h19 (by kernel_rfl) (by kernel_rfl) (by kernel_rfl) ?hq19 (Or.inr ⟨?hw19, ?hy19⟩) hHeld ?rest19
        case h19 => simp only [List.getElem?_toArray, List.getElem?_cons_succ, List.getElem?_cons_zero]; rfl
        case hw19 => rfl
        case hy19 => rfl
        case hq19 => intro _ _ _ h; exact h
        try simp only [Act.put, List.setIfInBounds_toArray, List.set_cons_zero, List.set_cons_succ]
        refine wpAnyH_take (i := 19) (oi := ?oi20) (v := undef) ?h20 (by kernel_rfl) (by kernel_rfl) (by kernel_rfl) ?hq20 (Or.inr ⟨?hw20, ?hy20⟩) hHeld ?rest20
        case h20 => simp only [List.getElem?_toArray, List.getElem?_cons_succ, List.getElem?_cons_zero]; rfl
        case hw20 => rfl
        case hy20 => rfl
        case hq20 => intro _ _ _ h; exact h
        try simp only [Act.put, List.setIfInBounds_toArray, List.set_cons_zero, List.set_cons_succ]
        refine wpAnyH_take (i := 20) (oi := ?oi21) (v := undef) ?h21 (by kernel_rfl) (by kernel_rfl) (by kernel_rfl) ?hq21 (Or.inr ⟨?hw21, ?hy21⟩) hHeld ?rest21
        case h21 => simp only [List.getElem?_toArray, List.getElem?_cons_succ, List.getElem?_cons_zero]; rfl
        case hw21 => rfl
        case hy21 => rfl
        case hq21 => intro _ _ _ h; exact h
        try simp only [Act.put, List.setIfInBounds_toArray, List.set_cons_zero, List.set_cons_succ]
        refine wpAnyH_take (i := 21) (oi := ?oi22) (v := undef) ?h22 (by kernel_rfl) (by kernel_rfl) (by kernel_rfl) ?hq22 (Or.inr ⟨?hw22, ?hy22⟩) hHeld ?rest22
        case h22 => simp only [List.getElem?_toArray, List.getElem?_cons_succ, List.getElem?_cons_zero]; rfl
        case hw22 => rfl
        case hy22 => rfl
        case hq22 => intro _ _ _ h; exact h
        try simp only [Act.put, List.setIfInBounds_toArray, List.set_cons_zero, List.set_cons_succ]
        refine wpAnyH_take (i := 22) (oi := ?oi23) (v := undef) ?h23 (by kernel_rfl) (by kernel_rfl) (by kernel_rfl) ?hq23 (Or.inr ⟨?hw23, ?hy23⟩) hHeld ?rest23
        case h23 => simp only [List.getElem?_toArray, List.getElem?_cons_succ, List.getElem?_cons_zero]; rfl
        case hw23 => rfl
        case hy23 => rfl
        case hq23 => intro _ _ _ h; exact h
        try simp only [Act.put, List.setIfInBounds_toArray, List.set_cons_zero, List.set_cons_succ]
        refine wpAnyH_take (i := 23) (oi := ?oi24) (v := undef) ?h24 (by kernel_rfl) (by kernel_rfl) (by kernel_rfl) ?hq24 (Or.inr ⟨?hw24, ?hy24⟩) hHeld ?rest24
        case h24 => simp only [List.getElem?_toArray, List.getElem?_cons_succ, List.getElem?_cons_zero]; rfl
        case hw24 => rfl
        case hy24 => rfl
        case hq24 => intro _ _ _ h; exact h
        try simp only [Act.put, List.setIfInBounds_toArray, List.set_cons_zero, List.set_cons_succ]
        refine wpAnyH_take (i := 24) (oi := ?oi25) (v := undef) ?h25 (by kernel_rfl) (by kernel_rfl) (by kernel_rfl) ?hq25 (Or.inr ⟨?hw25, ?hy25⟩) hHeld ?rest25
        case h25 => simp only [List.getElem?_toArray, List.getElem?_cons_succ, List.getElem?_cons_zero]; rfl
        case hw25 => rfl
        case hy25 => rfl
        case hq25 => intro _ _ _ h; exact h
        try simp only [Act.put, List.setIfInBounds_toArray, List.set_cons_zero, List.set_cons_succ]
        refine wpAnyH_take (i := 25) (oi := ?oi26) (v := ?v26) ?h26 (by kernel_rfl) (by kernel_rfl) (by kernel_rfl) ?hq26 (Or.inl ⟨?hw26, ?hy26⟩) hHeld ?rest26
        case h26 => simp only [List.getElem?_toArray, List.getElem?_cons_succ, List.getElem?_cons_zero]; rfl
        case hw26 => rfl
        case hy26 => intro w hSw; (try dsimp only at hSw); first | (go_simp; done) | (go_simp; with_reducible rfl)
        case hq26 => intro _ _ _ h; exact h
        try simp only [Act.put, List.setIfInBounds_toArray, List.set_cons_zero, List.set_cons_succ]
        refine wpAnyH_done (by kernel_rfl) ?_ _
        go_wp2_with fail
        go_roundw
        case rel => exact ⟨1, by omega, by go_num, HB2.out.drew⟩
        case measure => simp [intOf]; omega
      | succ j =>
        obtain ⟨v0, v1, _, _, _⟩ := hrow2 j (by omega)
        have hord := HG.out.2 j (j + 1) hlt (by omega)
        have f1 : decide (l[j + 1].day < l[j].day) = false := by rw [decide_eq_false_iff_not]; omega
        have f2 : decide (l[j + 1].known < l[j].known) = false := by rw [decide_eq_false_iff_not]; omega
        have f9 : IntKind.i64.wrap (j : Int) = j := IntWalk.i64_in (j : Int) (by omega)
        have f10 : decide ((0 : Int) < (j : Int) + 1) = true := by rw [decide_eq_true_eq]; omega
        have f11 : (0 : Int) ≤ j := by omega
        have f12 : (j : Int) < l.length := by omega
        clear hord hrow2
        go_upto_region 8 with (fail)
        refine wp_region_held_drew (S := fun W => W.cell? ⟨B, 0, none⟩ = some (.slice (some ⟨b, o, none⟩) l.length c) ∧ W.cell? ⟨X, 0, none⟩ = some (.int .i64 l[j + 1].day) ∧ W.cell? ⟨X, 1, none⟩ = some (.int .i64 l[j + 1].known) ∧ W.cell? ⟨b, o + j * 5, none⟩ = some (.int .i64 l[j].day) ∧ W.cell? ⟨b, o + j * 5 + 1, none⟩ = some (.int .i64 l[j].known)) (by kernel_rfl) ⟨hbox2, y0, y1, v0, v1⟩ (fun hHeld => ?_)
        refine wpAnyH_take (i := 0) (oi := ?oi101) (v := ?v101) ?h101 (by kernel_rfl) (by kernel_rfl) (by kernel_rfl) ?hq101 (Or.inl ⟨?hw101, ?hy101⟩) hHeld ?rest101
        case h101 => simp only [List.getElem?_toArray, List.getElem?_cons_succ, List.getElem?_cons_zero]; rfl
        case hw101 => rfl
        case hy101 => intro w hSw; (try dsimp only at hSw); first | (go_simp; done) | (go_simp; with_reducible rfl)
        case hq101 => intro _ _ _ h; exact h
        try simp only [Act.put, List.setIfInBounds_toArray, List.set_cons_zero, List.set_cons_succ]
        refine wpAnyH_take (i := 1) (oi := ?oi102) (v := ?v102) ?h102 (by kernel_rfl) (by kernel_rfl) (by kernel_rfl) ?hq102 (Or.inl ⟨?hw102, ?hy102⟩) hHeld ?rest102
        case h102 => simp only [List.getElem?_toArray, List.getElem?_cons_succ, List.getElem?_cons_zero]; rfl
        case hw102 => rfl
        case hy102 => intro w hSw; (try dsimp only at hSw); first | (go_simp; done) | (go_simp; with_reducible rfl)
        case hq102 => intro _ _ _ h; exact h
        try simp only [Act.put, List.setIfInBounds_toArray, List.set_cons_zero, List.set_cons_succ]
        refine wpAnyH_take (i := 2) (oi := ?oi103) (v := ?v103) ?h103 (by kernel_rfl) (by kernel_rfl) (by kernel_rfl) ?hq103 (Or.inl ⟨?hw103, ?hy103⟩) hHeld ?rest103
        case h103 => simp only [List.getElem?_toArray, List.getElem?_cons_succ, List.getElem?_cons_zero]; rfl
        case hw103 => rfl
        case hy103 => intro w hSw; (try dsimp only at hSw); first | (go_simp; done) | (go_simp; with_reducible rfl)
        case hq103 => intro _ _ _ h; exact h
        try simp only [Act.put, List.setIfInBounds_toArray, List.set_cons_zero, List.set_cons_succ]
        refine wpAnyH_take (i := 3) (oi := ?oi104) (v := ?v104) ?h104 (by kernel_rfl) (by kernel_rfl) (by kernel_rfl) ?hq104 (Or.inl ⟨?hw104, ?hy104⟩) hHeld ?rest104
        case h104 => simp only [List.getElem?_toArray, List.getElem?_cons_succ, List.getElem?_cons_zero]; rfl
        case hw104 => rfl
        case hy104 => intro w hSw; (try dsimp only at hSw); first | (go_simp; done) | (go_simp; with_reducible rfl)
        case hq104 => intro _ _ _ h; exact h
        try simp only [Act.put, List.setIfInBounds_toArray, List.set_cons_zero, List.set_cons_succ]
        refine wpAnyH_take (i := 4) (oi := ?oi105) (v := ?v105) ?h105 (by kernel_rfl) (by kernel_rfl) (by kernel_rfl) ?hq105 (Or.inl ⟨?hw105, ?hy105⟩) hHeld ?rest105
        case h105 => simp only [List.getElem?_toArray, List.getElem?_cons_succ, List.getElem?_cons_zero]; rfl
        case hw105 => rfl
        case hy105 => intro w hSw; (try dsimp only at hSw); first | (go_simp; done) | (go_simp; with_reducible rfl)
        case hq105 => intro _ _ _ h; exact h
        try simp only [Act.put, List.setIfInBounds_toArray, List.set_cons_zero, List.set_cons_succ]
        refine wpAnyH_take (i := 5) (oi := ?oi106) (v := ?v106) ?h106 (by kernel_rfl) (by kernel_rfl) (by kernel_rfl) ?hq106 (Or.inl ⟨?hw106, ?hy106⟩) hHeld ?rest106
        case h106 => simp only [List.getElem?_toArray, List.getElem?_cons_succ, List.getElem?_cons_zero]; rfl
        case hw106 => rfl
        case hy106 => intro w hSw; (try dsimp only at hSw); first | (go_simp; done) | (go_simp; with_reducible rfl)
        case hq106 => intro _ _ _ h; exact h
        try simp only [Act.put, List.setIfInBounds_toArray, List.set_cons_zero, List.set_cons_succ]
        refine wpAnyH_take (i := 6) (oi := ?oi107) (v := ?v107) ?h107 (by kernel_rfl) (by kernel_rfl) (by kernel_rfl) ?hq107 (Or.inl ⟨?hw107, ?hy107⟩) hHeld ?rest107
        case h107 => simp only [List.getElem?_toArray, List.getElem?_cons_succ, List.getElem?_cons_zero]; rfl
        case hw107 => rfl
        case hy107 => intro w hSw; (try dsimp only at hSw); first | (go_simp; done) | (go_simp; with_reducible rfl)
        case hq107 => intro _ _ _ h; exact h
        try simp only [Act.put, List.setIfInBounds_toArray, List.set_cons_zero, List.set_cons_succ]
        refine wpAnyH_take (i := 7) (oi := ?oi108) (v := ?v108) ?h108 (by kernel_rfl) (by kernel_rfl) (by kernel_rfl) ?hq108 (Or.inl ⟨?hw108, ?hy108⟩) hHeld ?rest108
        case h108 => simp only [List.getElem?_toArray, List.getElem?_cons_succ, List.getElem?_cons_zero]; rfl
        case hw108 => rfl
        case hy108 => intro w hSw; (try dsimp only at hSw); first | (go_simp; done) | (go_simp; with_reducible rfl)
        case hq108 => intro _ _ _ h; exact h
        try simp only [Act.put, List.setIfInBounds_toArray, List.set_cons_zero, List.set_cons_succ]
        refine wpAnyH_take (i := 8) (oi := ?oi109) (v := ?v109) ?h109 (by kernel_rfl) (by kernel_rfl) (by kernel_rfl) ?hq109 (Or.inl ⟨?hw109, ?hy109⟩) hHeld ?rest109
        case h109 => simp only [List.getElem?_toArray, List.getElem?_cons_succ, List.getElem?_cons_zero]; rfl
        case hw109 => rfl
        case hy109 => intro w hSw; (try dsimp only at hSw); first | (go_simp; done) | (go_simp; with_reducible rfl)
        case hq109 => intro _ _ _ h; exact h
        try simp only [Act.put, List.setIfInBounds_toArray, List.set_cons_zero, List.set_cons_succ]
        refine wpAnyH_take (i := 9) (oi := ?oi110) (v := ?v110) ?h110 (by kernel_rfl) (by kernel_rfl) (by kernel_rfl) ?hq110 (Or.inl ⟨?hw110, ?hy110⟩) hHeld ?rest110
        case h110 => simp only [List.getElem?_toArray, List.getElem?_cons_succ, List.getElem?_cons_zero]; rfl
        case hw110 => rfl
        case hy110 => intro w hSw; (try dsimp only at hSw); first | (go_simp; done) | (go_simp; with_reducible rfl)
        case hq110 => intro _ _ _ h; exact h
        try simp only [Act.put, List.setIfInBounds_toArray, List.set_cons_zero, List.set_cons_succ]
        refine wpAnyH_take (i := 10) (oi := ?oi111) (v := ?v111) ?h111 (by kernel_rfl) (by kernel_rfl) (by kernel_rfl) ?hq111 (Or.inl ⟨?hw111, ?hy111⟩) hHeld ?rest111
        case h111 => simp only [List.getElem?_toArray, List.getElem?_cons_succ, List.getElem?_cons_zero]; rfl
        case hw111 => rfl
        case hy111 => intro w hSw; (try dsimp only at hSw); first | (go_simp; done) | (go_simp; with_reducible rfl)
        case hq111 => intro _ _ _ h; exact h
        try simp only [Act.put, List.setIfInBounds_toArray, List.set_cons_zero, List.set_cons_succ]
        refine wpAnyH_take (i := 11) (oi := ?oi112) (v := ?v112) ?h112 (by kernel_rfl) (by kernel_rfl) (by kernel_rfl) ?hq112 (Or.inl ⟨?hw112, ?hy112⟩) hHeld ?rest112
        case h112 => simp only [List.getElem?_toArray, List.getElem?_cons_succ, List.getElem?_cons_zero]; rfl
        case hw112 => rfl
        case hy112 => intro w hSw; (try dsimp only at hSw); first | (go_simp; done) | (go_simp; with_reducible rfl)
        case hq112 => intro _ _ _ h; exact h
        try simp only [Act.put, List.setIfInBounds_toArray, List.set_cons_zero, List.set_cons_succ]
        refine wpAnyH_take (i := 12) (oi := ?oi113) (v := ?v113) ?h113 (by kernel_rfl) (by kernel_rfl) (by kernel_rfl) ?hq113 (Or.inl ⟨?hw113, ?hy113⟩) hHeld ?rest113
        case h113 => simp only [List.getElem?_toArray, List.getElem?_cons_succ, List.getElem?_cons_zero]; rfl
        case hw113 => rfl
        case hy113 => intro w hSw; (try dsimp only at hSw); first | (go_simp; done) | (go_simp; with_reducible rfl)
        case hq113 => intro _ _ _ h; exact h
        try simp only [Act.put, List.setIfInBounds_toArray, List.set_cons_zero, List.set_cons_succ]
        refine wpAnyH_take (i := 13) (oi := ?oi114) (v := ?v114) ?h114 (by kernel_rfl) (by kernel_rfl) (by kernel_rfl) ?hq114 (Or.inl ⟨?hw114, ?hy114⟩) hHeld ?rest114
        case h114 => simp only [List.getElem?_toArray, List.getElem?_cons_succ, List.getElem?_cons_zero]; rfl
        case hw114 => rfl
        case hy114 => intro w hSw; (try dsimp only at hSw); first | (go_simp; done) | (go_simp; with_reducible rfl)
        case hq114 => intro _ _ _ h; exact h
        try simp only [Act.put, List.setIfInBounds_toArray, List.set_cons_zero, List.set_cons_succ]
        refine wpAnyH_take (i := 14) (oi := ?oi115) (v := ?v115) ?h115 (by kernel_rfl) (by kernel_rfl) (by kernel_rfl) ?hq115 (Or.inl ⟨?hw115, ?hy115⟩) hHeld ?rest115
        case h115 => simp only [List.getElem?_toArray, List.getElem?_cons_succ, List.getElem?_cons_zero]; rfl
        case hw115 => rfl
        case hy115 => intro w hSw; (try dsimp only at hSw); first | (go_simp; done) | (go_simp; with_reducible rfl)
        case hq115 => intro _ _ _ h; exact h
        try simp only [Act.put, List.setIfInBounds_toArray, List.set_cons_zero, List.set_cons_succ]
        refine wpAnyH_take (i := 15) (oi := ?oi116) (v := ?v116) ?h116 (by kernel_rfl) (by kernel_rfl) (by kernel_rfl) ?hq116 (Or.inl ⟨?hw116, ?hy116⟩) hHeld ?rest116
        case h116 => simp only [List.getElem?_toArray, List.getElem?_cons_succ, List.getElem?_cons_zero]; rfl
        case hw116 => rfl
        case hy116 => intro w hSw; (try dsimp only at hSw); first | (go_simp; done) | (go_simp; with_reducible rfl)
        case hq116 => intro _ _ _ h; exact h
        try simp only [Act.put, List.setIfInBounds_toArray, List.set_cons_zero, List.set_cons_succ]
        refine wpAnyH_take (i := 16) (oi := ?oi117) (v := ?v117) ?h117 (by kernel_rfl) (by kernel_rfl) (by kernel_rfl) ?hq117 (Or.inl ⟨?hw117, ?hy117⟩) hHeld ?rest117
        case h117 => simp only [List.getElem?_toArray, List.getElem?_cons_succ, List.getElem?_cons_zero]; rfl
        case hw117 => rfl
        case hy117 => intro w hSw; (try dsimp only at hSw); first | (go_simp; done) | (go_simp; with_reducible rfl)
        case hq117 => intro _ _ _ h; exact h
        try simp only [Act.put, List.setIfInBounds_toArray, List.set_cons_zero, List.set_cons_succ]
        refine wpAnyH_take (i := 17) (oi := ?oi118) (v := ?v118) ?h118 (by kernel_rfl) (by kernel_rfl) (by kernel_rfl) ?hq118 (Or.inl ⟨?hw118, ?hy118⟩) hHeld ?rest118
        case h118 => simp only [List.getElem?_toArray, List.getElem?_cons_succ, List.getElem?_cons_zero]; rfl
        case hw118 => rfl
        case hy118 => intro w hSw; (try dsimp only at hSw); first | (go_simp; done) | (go_simp; with_reducible rfl)
        case hq118 => intro _ _ _ h; exact h
        try simp only [Act.put, List.setIfInBounds_toArray, List.set_cons_zero, List.set_cons_succ]
        refine wpAnyH_take (i := 18) (oi := ?oi119) (v := ?v119) ?h119 (by kernel_rfl) (by kernel_rfl) (by kernel_rfl) ?hq119 (Or.inl ⟨?hw119, ?hy119⟩) hHeld ?rest119
        case h119 => simp only [List.getElem?_toArray, List.getElem?_cons_succ, List.getElem?_cons_zero]; rfl
        case hw119 => rfl
        case hy119 => intro w hSw; (try dsimp only at hSw); first | (go_simp; done) | (go_simp; with_reducible rfl)
        case hq119 => intro _ _ _ h; exact h
        try simp only [Act.put, List.setIfInBounds_toArray, List.set_cons_zero, List.set_cons_succ]
        refine wpAnyH_take (i := 19) (oi := ?oi120) (v := ?v120) ?h120 (by kernel_rfl) (by kernel_rfl) (by kernel_rfl) ?hq120 (Or.inl ⟨?hw120, ?hy120⟩) hHeld ?rest120
        case h120 => simp only [List.getElem?_toArray, List.getElem?_cons_succ, List.getElem?_cons_zero]; rfl
        case hw120 => rfl
        case hy120 => intro w hSw; (try dsimp only at hSw); first | (go_simp; done) | (go_simp; with_reducible rfl)
        case hq120 => intro _ _ _ h; exact h
        try simp only [Act.put, List.setIfInBounds_toArray, List.set_cons_zero, List.set_cons_succ]
        refine wpAnyH_take (i := 20) (oi := ?oi121) (v := ?v121) ?h121 (by kernel_rfl) (by kernel_rfl) (by kernel_rfl) ?hq121 (Or.inl ⟨?hw121, ?hy121⟩) hHeld ?rest121
        case h121 => simp only [List.getElem?_toArray, List.getElem?_cons_succ, List.getElem?_cons_zero]; rfl
        case hw121 => rfl
        case hy121 => intro w hSw; (try dsimp only at hSw); first | (go_simp; done) | (go_simp; with_reducible rfl)
        case hq121 => intro _ _ _ h; exact h
        try simp only [Act.put, List.setIfInBounds_toArray, List.set_cons_zero, List.set_cons_succ]
        refine wpAnyH_take (i := 21) (oi := ?oi122) (v := ?v122) ?h122 (by kernel_rfl) (by kernel_rfl) (by kernel_rfl) ?hq122 (Or.inl ⟨?hw122, ?hy122⟩) hHeld ?rest122
        case h122 => simp only [List.getElem?_toArray, List.getElem?_cons_succ, List.getElem?_cons_zero]; rfl
        case hw122 => rfl
        case hy122 => intro w hSw; (try dsimp only at hSw); first | (go_simp; done) | (go_simp; with_reducible rfl)
        case hq122 => intro _ _ _ h; exact h
        try simp only [Act.put, List.setIfInBounds_toArray, List.set_cons_zero, List.set_cons_succ]
        refine wpAnyH_take (i := 22) (oi := ?oi123) (v := ?v123) ?h123 (by kernel_rfl) (by kernel_rfl) (by kernel_rfl) ?hq123 (Or.inl ⟨?hw123, ?hy123⟩) hHeld ?rest123
        case h123 => simp only [List.getElem?_toArray, List.getElem?_cons_succ, List.getElem?_cons_zero]; rfl
        case hw123 => rfl
        case hy123 => intro w hSw; (try dsimp only at hSw); first | (go_simp; done) | (go_simp; with_reducible rfl)
        case hq123 => intro _ _ _ h; exact h
        try simp only [Act.put, List.setIfInBounds_toArray, List.set_cons_zero, List.set_cons_succ]
        refine wpAnyH_take (i := 23) (oi := ?oi124) (v := ?v124) ?h124 (by kernel_rfl) (by kernel_rfl) (by kernel_rfl) ?hq124 (Or.inl ⟨?hw124, ?hy124⟩) hHeld ?rest124
        case h124 => simp only [List.getElem?_toArray, List.getElem?_cons_succ, List.getElem?_cons_zero]; rfl
        case hw124 => rfl
        case hy124 => intro w hSw; (try dsimp only at hSw); first | (go_simp; done) | (go_simp; with_reducible rfl)
        case hq124 => intro _ _ _ h; exact h
        try simp only [Act.put, List.setIfInBounds_toArray, List.set_cons_zero, List.set_cons_succ]
        refine wpAnyH_take (i := 24) (oi := ?oi125) (v := ?v125) ?h125 (by kernel_rfl) (by kernel_rfl) (by kernel_rfl) ?hq125 (Or.inl ⟨?hw125, ?hy125⟩) hHeld ?rest125
        case h125 => simp only [List.getElem?_toArray, List.getElem?_cons_succ, List.getElem?_cons_zero]; rfl
        case hw125 => rfl
        case hy125 => intro w hSw; (try dsimp only at hSw); first | (go_simp; done) | (go_simp; with_reducible rfl)
        case hq125 => intro _ _ _ h; exact h
        try simp only [Act.put, List.setIfInBounds_toArray, List.set_cons_zero, List.set_cons_succ]
        refine wpAnyH_take (i := 25) (oi := ?oi126) (v := ?v126) ?h126 (by kernel_rfl) (by kernel_rfl) (by kernel_rfl) ?hq126 (Or.inl ⟨?hw126, ?hy126⟩) hHeld ?rest126
        case h126 => simp only [List.getElem?_toArray, List.getElem?_cons_succ, List.getElem?_cons_zero]; rfl
        case hw126 => rfl
        case hy126 => intro w hSw; (try dsimp only at hSw); first | (go_simp; done) | (go_simp; with_reducible rfl)
        case hq126 => intro _ _ _ h; exact h
        try simp only [Act.put, List.setIfInBounds_toArray, List.set_cons_zero, List.set_cons_succ]
        refine wpAnyH_done (by kernel_rfl) ?_ _
        go_wp2_with fail
        go_roundw
        case rel => exact ⟨j + 2, by omega, by go_num, HB2.out.drew⟩
        case measure => simp [intOf]; omega
    · have hbf := HBX.out.trans (hb.mono (by have := HBS.out; omega))
      rw [HB.out] at hbf
      have HBF := Lib.hid hbf
      clear hbf
      clear hb hbox
      go_wp2_with fail
      go_ret
      exact ⟨rfl, HBF.out⟩

/-- What Copy answers. -/
def Copied59 (w : World) (l : List Dec) (e : Ending) (w' : World) : Prop :=
  ∃ v, e = .returned (.agg #[v]) ∧ w'.ownsRow (w.heap.size + 2) 27 5 v l.length (flat l) ∧ Below w.heap.size w w'

theorem res59_run {W : World} {b : Nat} {v : Value} {a : Act} (hh : W.heap[b]? = some (.cells #[v] 25 (0, 0))) (ht : a.tmps.getD 2 undef = .pointer (some ⟨b, 0, none⟩)) :
    (results Try.f59 a.tmps).run Try.prog W = .ok (.agg #[v]) W := by
  have e0 := cell_of_row _ b 0 _ _ _ hh
  simp at e0 ht
  clear hh
  simp [results, Try.results59, go_sem, ht, e0]
end Go.Proofs.Ytogcpjkgliijmaa
