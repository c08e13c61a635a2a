/- ref30.Fits of changes that fit. -/
import Derived.Test.YtnconhbambhhgaaRfD
namespace Go.Proofs.Ytnconhbambhhgaa
open Go.RowKit
set_option linter.all false

theorem fi_of_may {L : List Win} {T : Nat → List Int} {TS DS : List Int} (h : ∀ j, j < TS.length → mayF L T (DS.getD j 0) (TS.getD j 0) = true) : ∀ j, j < TS.length → fi (DS.getD j 0) L < L.length := fun j hj => by
  have := h j hj
  unfold mayF at this
  simp only [Bool.and_eq_true, decide_eq_true_eq] at this
  exact this.1
set_option maxRecDepth 100000 in
set_option maxHeartbeats 8000000 in
theorem rfits_good (p q r ta da : Option Addr) (L : List Win) (T : Nat → List Int) (Q R TS DS : List Int) (c1 c2 c3 c4 c5 : Nat) (w : World) (h : GoodCal w p q r L T Q R) (hL1 : 1 ≤ L.length)
    (hTS : TeamsAt w ta TS) (hDS : TeamsAt w da DS) (hlen : DS.length = TS.length) (h24 : TS.length ≤ 24) (hts : TS.all (isT R.length) = true)
    (hmay : ∀ j, j < TS.length → mayF L T (DS.getD j 0) (TS.getD j 0) = true)
    (hfit : ∀ i t, i < L.length → t < R.length → (cnt L TS DS TS.length i t : Int) ≤ R.getD t 0) :
    Calls Try.prog 43 #[.agg #[.slice p L.length c1, .slice q Q.length c2, .slice r R.length c3], .slice ta TS.length c4, .slice da DS.length c5] w (IntP 0 w) := by
  have hb0 := (Below.refl w.heap.size w).alloc (Nat.le_refl _) (.cells #[.slice p L.length c1, .slice q Q.length c2, .slice r R.length c3] 38)
  have hx : CalBox w.heap.size p q r L.length c1 Q.length c2 R.length c3 (w.alloc (.cells #[.slice p L.length c1, .slice q Q.length c2, .slice r R.length c3] 38)) := ⟨by simp, by simp, by simp⟩
  have hsz : w.heap.size ≤ (w.alloc (.cells #[.slice p L.length c1, .slice q Q.length c2, .slice r R.length c3] 38)).heap.size := by simp
  have hg := h.step hb0
  have l1 := h.l1; have l3 := h.l3
  have CF := Lib.hid (rfit_good p q r ta da L T Q R TS DS c1 c2 c3 c4 c5 _ hg (hTS.step hb0) (hDS.step hb0) hlen h24 hts hmay)
  have CL := Lib.hid (fun W (hW : Below (w.alloc (.cells #[.slice p L.length c1, .slice q Q.length c2, .slice r R.length c3] 38)).heap.size (w.alloc (.cells #[.slice p L.length c1, .slice q Q.length c2, .slice r R.length c3] 38)) W) => rload_good p q r ta da L T Q R TS DS c1 c2 c3 c4 c5 W (hg.step hW) hL1 ((hTS.step hb0).step hW) ((hDS.step hb0).step hW) hlen h24 hts (fi_of_may hmay))
  have HRM := Lib.hid hg.room
  have HX := Lib.hid hx; have HB0 := Lib.hid hb0; have HSZ := Lib.hid hsz; have HFT := Lib.hid hfit
  obtain ⟨x0, x1, x2⟩ := hx
  clear h hg hb0 hsz hTS hDS hts hmay hfit
  rw [hlen] at CF CL ⊢
  obtain ⟨nL, hL⟩ : ∃ N, L.length = N := ⟨_, rfl⟩
  obtain ⟨nQ, hQ⟩ : ∃ N, Q.length = N := ⟨_, rfl⟩
  obtain ⟨nR, hR⟩ : ∃ N, R.length = N := ⟨_, rfl⟩
  obtain ⟨N, hN⟩ : ∃ N, TS.length = N := ⟨_, rfl⟩
  have HNT := Lib.hid hN; have HNL := Lib.hid hL; have HNR := Lib.hid hR
  rw [hL, hQ, hR] at HX HB0 HSZ x0 x1 x2 HRM
  rw [hL, hQ, hR, hN] at CF CL
  rw [hL, hR, hN] at HFT
  rw [hL] at l1
  rw [hR] at l3
  rw [hL, hQ, hR, hN]
  clear hlen hL hQ hR hN
  go_enter Try.func43, Try.ntmps43
  go_wp2_with fail
  generalize (w.alloc (.cells #[.slice p nL c1, .slice q nQ c2, .slice r nR c3] 38)) = W0 at *
  obtain ⟨C, hC⟩ : ∃ C, w.heap.size = C := ⟨_, rfl⟩
  rw [hC] at HX x0 x1 x2
  simp only [hC]
  have HC := Lib.hid hC
  clear hC
  refine (CF.out).mono ?_
  rintro e w1 ⟨rfl, hb1⟩
  have HB1 := Lib.hid hb1
  have CLX := Lib.hid (CL.out w1 hb1)
  clear x0 x1 x2
  obtain ⟨x0, x1, x2⟩ := HX.out.step hb1
  clear hb1 CF CL
  go_wp2_with fail
  refine (CLX.out).mono ?_
  rintro e w2 ⟨qq, cq, bs, rfl, hcq, hTab, hb2⟩
  rw [HNL.out] at hTab hcq ⊢
  have HB2 := Lib.hid (HB1.out.trans (hb2.mono HB1.out.size))
  have HTB := Lib.hid hTab
  rw [HNT.out] at HTB
  clear hb2 hTab x0 x1 x2 CLX
  have HX2 := Lib.hid (HX.out.step HB2.out)
  have HRM2 := Lib.hid (HRM.out.step HB2.out)
  go_wp2_with fail
  go_loopw [24] (fun iv wr => ∃ i : Nat, iv = .int .i64 (i : Int) ∧ i ≤ nL ∧ wr = w2) (fun iv _ => nL - (intOf iv).toNat)
  case atStart => exact ⟨0, rfl, Nat.zero_le _, rfl⟩
  case round =>
    obtain ⟨i, rfl, hi, hwe⟩ := hrel
    have HWE := Lib.hid hwe
    by_cases hlt : i < nL
    · have d0 := HTB.out.cellq i hlt
      rw [← hwe] at d0
      have hi0 : (0 : Int) ≤ (i : Int) := by omega
      have hi2 : (i : Int) < (nL : Int) := by omega
      have hdd : decide (i < nL) = true := decide_eq_true hlt
      have hdd' : decide ((i : Int) < (nL : Int)) = true := decide_eq_true hi2
      obtain ⟨bi, hbi⟩ : ∃ b, bs.getD i 0 = b := ⟨_, rfl⟩
      rw [hbi] at d0
      have HBI := Lib.hid hbi
      clear hwe hbi
      go_wp2_with fail
      clear d0
      go_loopw [30] (fun jv wr => ∃ j : Nat, jv = .int .i64 (j : Int) ∧ j ≤ nR ∧ wr = w2) (fun jv _ => nR - (intOf jv).toNat)
      case atStart => exact ⟨0, rfl, Nat.zero_le _, HWE.out⟩
      case round =>
        clear HWE
        obtain ⟨j, rfl, hj, hwe⟩ := hrel
        have HWE := Lib.hid hwe
        by_cases hltj : j < nR
        · have d1 := HTB.out.cellr i j hlt hltj
          rw [HBI.out] at d1
          obtain ⟨x0, x1, x2⟩ := HX2.out
          obtain ⟨b, o, hp, hc⟩ := HRM2.out j (by rw [HNR.out]; exact hltj)
          have hle := HFT.out i j hlt hltj
          subst hp
          rw [← hwe] at d1 x0 x1 x2 hc
          generalize cnt L TS DS N i j = cn at *
          generalize R.getD j 0 = rm at *
          have hg : decide (rm < (cn : Int)) = false := decide_eq_false (by omega)
          have hj0 : (0 : Int) ≤ (j : Int) := by omega
          have hj2 : (j : Int) < (nR : Int) := by omega
          have hdj : decide (j < nR) = true := decide_eq_true hltj
          clear hwe
          go_wp2_with fail
          go_roundw
          case rel => exact ⟨j + 1, by go_num, by omega, HWE.out⟩
          case measure => simp [intOf]; omega
        · have hdj : decide (j < nR) = false := decide_eq_false hltj
          have hnj : ¬ (j : Int) < (nR : Int) := by omega
          clear hwe
          go_wp2_with fail
          go_roundw
          case rel => exact ⟨i + 1, by go_num, by omega, HWE.out⟩
          case measure => simp [intOf]; omega
    · have hdd : decide (i < nL) = false := decide_eq_false hlt
      have hni : ¬ (i : Int) < (nL : Int) := by omega
      clear hwe
      go_wp2_with fail
      go_ret
      exact ⟨rfl, by rw [HWE.out]; exact HB0.out.trans (HB2.out.mono HSZ.out)⟩
end Go.Proofs.Ytnconhbambhhgaa
