/- packages: the document's part, Compare, In, right. -/
import Derived.Test.YtdhochjcigingaaDoorPkW
namespace Go.Proofs.YtdhochjcigingaaDoor
open Go.RowKit
set_option linter.all false

theorem refpart_q (p : Option Addr) (c : Nat) (L : List Int) (k : Nat) (w : World) (hf : L.length ≤ 1000) (hk : k ≤ 1000) (h : NumsAt w p L) :
    Calls Tryd.prog 74 #[.slice p L.length c, .int .i64 k] w fun e w' => e = .returned (.int .i64 (L.getD k 0)) ∧ w = w' := by
  by_cases hlt : k < L.length
  · obtain ⟨b, o, rfl, hc⟩ := h k hlt
    have h1 : (k : Int) < (L.length : Int) := by omega
    have h0 : (0 : Int) ≤ (k : Int) := by omega
    clear h
    generalize L.getD k 0 = x at *
    go_enter Tryd.func74, Tryd.ntmps74
    go_wp2
    go_ret
    exact ⟨rfl, rfl⟩
  · have hx : L.getD k 0 = 0 := by rw [List.getD, List.getElem?_eq_none (by omega)]; rfl
    rw [hx]
    clear h hx
    go_enter Tryd.func74, Tryd.ntmps74
    go_wp2
    go_ret
    exact ⟨rfl, rfl⟩

set_option maxHeartbeats 4000000 in
theorem refcompare_q (p q : Option Addr) (c d : Nat) (A B : List Int) (w : World) (ha : A.length ≤ 500) (hb : B.length ≤ 500) (hA : NumsAt w p A) (hB : NumsAt w q B) :
    Calls Tryd.prog 40 #[.slice p A.length c, .slice q B.length d] w (CmpB (cmpV A B) w) := by
  have cA := fun (k : Nat) (hk : k ≤ 1000) => refpart_q p c A k w (by omega) hk hA
  have cB := fun (k : Nat) (hk : k ≤ 1000) => refpart_q q d B k w (by omega) hk hB
  obtain ⟨M, hM⟩ : ∃ M, max A.length B.length = M := ⟨_, rfl⟩
  have hM2 : ∀ k : Nat, (k < A.length ∨ k < B.length) ↔ k < M := fun k => by omega
  have hM1 : M ≤ 500 := by omega
  have HV := Lib.hid (show cmpV A B = lexC (fun j => A.getD j 0) (fun j => B.getD j 0) M 0 by unfold cmpV; rw [hM])
  have CA := Lib.hid cA; have CB := Lib.hid cB
  clear cA cB hA hB hM
  generalize cmpV A B = V at *
  obtain ⟨f, hf⟩ : ∃ f : Nat → Int, f = fun j => A.getD j 0 := ⟨_, rfl⟩
  obtain ⟨g, hg⟩ : ∃ g : Nat → Int, g = fun j => B.getD j 0 := ⟨_, rfl⟩
  have HF := Lib.hid (show ∀ (k : Nat) (hk : k ≤ 1000), Calls Tryd.prog 74 #[.slice p A.length c, .int .i64 k] w fun e w' => e = .returned (.int .i64 (f k)) ∧ w = w' from fun (k : Nat) hk => by rw [hf]; exact CA.out k hk)
  have HG := Lib.hid (show ∀ (k : Nat) (hk : k ≤ 1000), Calls Tryd.prog 74 #[.slice q B.length d, .int .i64 k] w fun e w' => e = .returned (.int .i64 (g k)) ∧ w = w' from fun (k : Nat) hk => by rw [hg]; exact CB.out k hk)
  rw [← hf, ← hg] at HV
  clear CA CB hf hg
  generalize A.length = a at *
  generalize B.length = b at *
  have HM2 := Lib.hid hM2; clear hM2
  go_enter Tryd.func40, Tryd.ntmps40
  go_wp2_with fail
  go_loop [5, 6, 7] (fun iv _ _ => ∃ k : Nat, k ≤ M ∧ iv = .int .i64 (k : Int) ∧ V = lexC f g (M - k) k) (fun iv _ _ => M - (intOf iv).toNat)
  case atStart => exact ⟨0, by omega, rfl, HV.out⟩
  case round =>
    clear HV
    obtain ⟨k, hk, rfl, hV⟩ := hrel
    by_cases hlt : k < M
    · have hV' : V = if Lib.compareInt (f k) (g k) = 0 then lexC f g (M - (k + 1)) (k + 1) else Lib.compareInt (f k) (g k) := by
        rw [hV, show M - k = (M - (k + 1)) + 1 from by omega]; rfl
      have hor := (HM2.out k).2 hlt
      have hcase : (k < a ∧ decide (k < a) = true) ∨ (decide (k < a) = false ∧ k < b ∧ decide (k < b) = true) := by
        by_cases h : k < a
        · exact .inl ⟨h, decide_eq_true h⟩
        · exact .inr ⟨decide_eq_false h, by omega, decide_eq_true (by omega)⟩
      have cF := HF.out k (by omega)
      have cG := HG.out k (by omega)
      generalize f k = x at *
      generalize g k = y at *
      have CF := Lib.hid cF; have CG := Lib.hid cG; have HV' := Lib.hid hV'
      clear cF cG hV hV' hor
      rcases Int.lt_trichotomy x y with hxy | hxy | hxy
      · have HE := Lib.hid (show V = -1 by have := HV'.out; rw [show Lib.compareInt x y = -1 from by unfold Lib.compareInt; rw [if_pos hxy], if_neg (by decide)] at this; exact this)
        have d1 : decide (x < y) = true := decide_eq_true hxy
        clear HV'
        rcases hcase with ⟨h0, h1⟩ | ⟨h1, h0, h2⟩
        all_goals
          go_wp2_with fail
          refine (CF.out).mono ?_
          rintro e w' ⟨rfl, rfl⟩
          go_wp2_with fail
          refine (CG.out).mono ?_
          rintro e w' ⟨rfl, rfl⟩
          go_wp2_with fail
          go_ret
          exact ⟨by rw [HE.out]; rfl, rfl⟩
      · have HE := Lib.hid (show V = lexC f g (M - (k + 1)) (k + 1) by have := HV'.out; rw [show Lib.compareInt x y = 0 from by unfold Lib.compareInt; rw [hxy]; simp, if_pos rfl] at this; exact this)
        subst hxy
        clear HV'
        rcases hcase with ⟨h0, h1⟩ | ⟨h1, h0, h2⟩
        all_goals
          go_wp2_with fail
          refine (CF.out).mono ?_
          rintro e w' ⟨rfl, rfl⟩
          go_wp2_with fail
          refine (CG.out).mono ?_
          rintro e w' ⟨rfl, rfl⟩
          go_wp2_with fail
          go_round
          case rel => exact ⟨k + 1, by omega, by go_num, HE.out⟩
          case measure => simp [intOf]; omega
      · have HE := Lib.hid (show V = 1 by have := HV'.out; rw [show Lib.compareInt x y = 1 from by unfold Lib.compareInt; rw [if_neg (by omega), if_pos hxy], if_neg (by decide)] at this; exact this)
        have d1 : decide (x < y) = false := decide_eq_false (by omega)
        have d2 : decide (y < x) = true := decide_eq_true hxy
        clear HV'
        rcases hcase with ⟨h0, h1⟩ | ⟨h1, h0, h2⟩
        all_goals
          go_wp2_with fail
          refine (CF.out).mono ?_
          rintro e w' ⟨rfl, rfl⟩
          go_wp2_with fail
          refine (CG.out).mono ?_
          rintro e w' ⟨rfl, rfl⟩
          go_wp2_with fail
          go_ret
          exact ⟨by rw [HE.out]; rfl, rfl⟩
    · have hk2 : k = M := by omega
      subst hk2
      have h0 : V = 0 := by rw [hV, Nat.sub_self]; rfl
      have hno := (HM2.out k).1
      have d1 : decide (k < a) = false := by rw [decide_eq_false_iff_not]; omega
      have d2 : decide (k < b) = false := by rw [decide_eq_false_iff_not]; omega
      have H0 := Lib.hid h0
      clear h0 hV hno
      go_wp2_with fail
      go_ret
      exact ⟨by rw [H0.out]; rfl, rfl⟩

set_option maxHeartbeats 4000000 in
theorem refin_any (pl ph p : Option Addr) (cl ch c : Nat) (Lo Hi A : List Int) (w : World) (hl : Lo.length ≤ 500) (hh : Hi.length ≤ 500) (ha : A.length ≤ 500) (hL : NumsAt w pl Lo) (hH : NumsAt w ph Hi) (hA : NumsAt w p A) :
    Calls Tryd.prog 42 #[.agg #[.slice pl Lo.length cl, .slice ph Hi.length ch], .slice p A.length c] w (BoolP (inV Lo Hi A) w) := by
  have hb := (Below.refl w.heap.size w).alloc (Nat.le_refl _) (.cells #[.slice pl Lo.length cl, .slice ph Hi.length ch] 53)
  have cL : ∀ W, Below w.heap.size w W → Calls Tryd.prog 40 #[.slice p A.length c, .slice pl Lo.length cl] W (CmpB (cmpV A Lo) W) := fun W hW => refcompare_q p pl c cl A Lo W ha hl (hA.step hW) (hL.step hW)
  have cH : ∀ W, Below w.heap.size w W → Calls Tryd.prog 40 #[.slice p A.length c, .slice ph Hi.length ch] W (CmpB (cmpV A Hi) W) := fun W hW => refcompare_q p ph c ch A Hi W ha hh (hA.step hW) (hH.step hW)
  unfold inV
  generalize cmpV A Lo = x at *
  generalize cmpV A Hi = y at *
  clear hL hH hA
  generalize A.length = a at *
  generalize Lo.length = l at *
  generalize Hi.length = h at *
  have CL := Lib.hid cL; have CH := Lib.hid cH; have HB := Lib.hid hb
  clear cL cH hb
  by_cases hl0 : l = 0
  · subst hl0
    by_cases hh0 : h = 0
    · subst hh0
      go_enter Tryd.func42, Tryd.ntmps42
      go_wp2_with fail
      go_ret
      exact ⟨rfl, HB.out⟩
    · have h1 : ((h : Int) == 0) = false := beq_eq_false_iff_ne.2 (by omega)
      rw [decide_eq_false hh0]
      obtain ⟨z, hz⟩ : ∃ z, decide (y < 0) = z := ⟨_, rfl⟩
      rw [hz]
      go_enter Tryd.func42, Tryd.ntmps42
      go_wp2_with fail
      refine (CH.out _ HB.out).mono ?_
      rintro e w' ⟨rfl, rfl⟩
      go_wp2_with fail
      go_ret
      exact ⟨rfl, HB.out⟩
  · have h1 : ((l : Int) == 0) = false := beq_eq_false_iff_ne.2 (by omega)
    rw [decide_eq_false hl0]
    by_cases hx : 0 ≤ x
    · have hd : decide (0 ≤ x) = true := decide_eq_true hx
      rw [hd]
      by_cases hh0 : h = 0
      · subst hh0
        go_enter Tryd.func42, Tryd.ntmps42
        go_wp2_with fail
        refine (CL.out _ HB.out).mono ?_
        rintro e w' ⟨rfl, rfl⟩
        go_wp2_with fail
        go_ret
        exact ⟨rfl, HB.out⟩
      · have h2 : ((h : Int) == 0) = false := beq_eq_false_iff_ne.2 (by omega)
        rw [decide_eq_false hh0]
        obtain ⟨z, hz⟩ : ∃ z, decide (y < 0) = z := ⟨_, rfl⟩
        rw [hz]
        go_enter Tryd.func42, Tryd.ntmps42
        go_wp2_with fail
        refine (CL.out _ HB.out).mono ?_
        rintro e w' ⟨rfl, rfl⟩
        go_wp2_with fail
        refine (CH.out _ HB.out).mono ?_
        rintro e w' ⟨rfl, rfl⟩
        go_wp2_with fail
        go_ret
        exact ⟨rfl, HB.out⟩
    · have hd : decide (0 ≤ x) = false := decide_eq_false hx
      rw [hd]
      go_enter Tryd.func42, Tryd.ntmps42
      go_wp2_with fail
      refine (CL.out _ HB.out).mono ?_
      rintro e w' ⟨rfl, rfl⟩
      go_wp2_with fail
      go_ret
      exact ⟨rfl, HB.out⟩

set_option maxHeartbeats 2000000 in
theorem right_any (p : Option Addr) (c : Nat) (L : List Int) (w : World) (hl : L.length ≤ 500) (h : NumsAt w p L) :
    Calls Tryd.prog 75 #[.slice p L.length c] w (BoolP (verB L) w) := by
  by_cases hlen : 1 ≤ L.length ∧ L.length ≤ 4
  · obtain ⟨N, hN⟩ : ∃ N, L.length = N := ⟨_, rfl⟩
    obtain ⟨f, hf⟩ : ∃ f : Nat → Int, f = fun j => L.getD j 0 := ⟨_, rfl⟩
    have HA := Lib.hid (show ∀ j, j < N → ∃ b o, p = some ⟨b, o, none⟩ ∧ w.cell? ⟨b, o + j, none⟩ = some (.int .i64 (f j)) from fun j hj => by rw [hf]; exact h j (by omega))
    have HT := Lib.hid (show (∀ j, j < N → numB (f j) = true) → verB L = true from fun hall => by
      unfold verB
      rw [decide_eq_true hlen, List.all_eq_true.2 (fun x hx => by
        obtain ⟨j, hj, rfl⟩ := List.getElem_of_mem hx
        have := hall j (by omega)
        rw [hf] at this
        simpa [List.getD, hj] using this)]
      rfl)
    have HF := Lib.hid (show ∀ j, j < N → numB (f j) = false → verB L = false from fun j hj hb => by
      unfold verB
      have : L.all numB = false := by
        rw [Bool.eq_false_iff]
        intro hall
        have := List.all_eq_true.1 hall (L[j]'(by omega)) (List.getElem_mem _)
        rw [hf] at hb
        simp [List.getD, show j < L.length by omega] at hb
        rw [hb] at this; cases this
      rw [this]; rfl)
    generalize verB L = D at *
    rw [hN]
    have hN1 : (1 : Int) ≤ (N : Int) := by omega
    have hN4 : (N : Int) ≤ 4 := by omega
    have hN5 : N ≤ 4 := by omega
    have e1 : decide ((N : Int) < 1) = false := by rw [decide_eq_false_iff_not]; omega
    have e2 : decide ((4 : Int) < (N : Int)) = false := by rw [decide_eq_false_iff_not]; omega
    clear h hf hN hl hlen
    go_enter Tryd.func75, Tryd.ntmps75
    go_wp2_with fail
    go_loopw [3] (fun iv wr => ∃ k : Nat, k ≤ N ∧ iv = .int .i64 (k : Int) ∧ (∀ j, j < k → numB (f j) = true) ∧ Below w.heap.size w wr) (fun iv _ => N - (intOf iv).toNat)
    case atStart => exact ⟨0, by omega, rfl, fun j hj => by omega, Below.refl _ _⟩
    case round =>
      obtain ⟨k, hk, rfl, hall, hbel⟩ := hrel
      have HALL := Lib.hid hall
      clear hall
      by_cases hlt : k < N
      · obtain ⟨b, o, rfl, hc0⟩ := HA.out k hlt
        have hc := cell_later' hbel hc0
        have HBEL := Lib.hid hbel
        have hi0 : (0 : Int) ≤ (k : Int) := by omega
        have hi1 : (k : Int) < (N : Int) := by omega
        have hd : decide ((k : Int) < (N : Int)) = true := by rw [decide_eq_true_eq]; omega
        have HK := Lib.hid (HF.out k hlt)
        obtain ⟨x, hx⟩ : ∃ x, f k = x := ⟨_, rfl⟩
        have HX := Lib.hid hx
        rw [hx] at hc
        clear hx hc0 hbel
        by_cases hn : 0 ≤ x ∧ x ≤ 99999
        · obtain ⟨h0, h1⟩ := hn
          have d1 : decide (x < 0) = false := decide_eq_false (by omega)
          have d2 : decide (99999 < x) = false := decide_eq_false (by omega)
          have HB := Lib.hid (show numB x = true from decide_eq_true ⟨h0, h1⟩)
          go_wp2_with fail
          go_roundw
          case rel => exact ⟨k + 1, by omega, by go_num, fun j hj => by
            rcases Nat.lt_succ_iff_lt_or_eq.1 hj with h | h
            · exact HALL.out j h
            · rw [h, HX.out]; exact HB.out, HBEL.out⟩
          case measure => simp [intOf]; omega
        · have HD := Lib.hid (HK.out (by rw [HX.out]; exact decide_eq_false hn))
          by_cases hx0 : x < 0
          · have d1 : decide (x < 0) = true := decide_eq_true hx0
            go_wp2_with fail
            go_ret
            exact ⟨by rw [HD.out]; rfl, HBEL.out⟩
          · have d1 : decide (x < 0) = false := decide_eq_false hx0
            have d2 : decide (99999 < x) = true := decide_eq_true (by omega)
            go_wp2_with fail
            go_ret
            exact ⟨by rw [HD.out]; rfl, HBEL.out⟩
      · have hk2 : k = N := by omega
        subst hk2
        have HD := Lib.hid (HT.out HALL.out)
        go_wp2_with fail
        go_ret
        exact ⟨by rw [HD.out]; rfl, hbel⟩
  · have hv : verB L = false := by unfold verB; rw [decide_eq_false hlen]; simp
    rw [hv]
    generalize L.length = N at *
    clear h hv
    by_cases h1 : N < 1
    · have e1 : decide ((N : Int) < 1) = true := by rw [decide_eq_true_eq]; omega
      go_enter Tryd.func75, Tryd.ntmps75
      go_wp2_with fail
      go_ret
      exact ⟨rfl, Below.refl _ _⟩
    · have e1 : decide ((N : Int) < 1) = false := by rw [decide_eq_false_iff_not]; omega
      have e2 : decide ((4 : Int) < (N : Int)) = true := by rw [decide_eq_true_eq]; omega
      go_enter Tryd.func75, Tryd.ntmps75
      go_wp2_with fail
      go_ret
      exact ⟨rfl, Below.refl _ _⟩
end Go.Proofs.YtdhochjcigingaaDoor
