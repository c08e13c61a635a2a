/- window.fit, Fits of a good calendar, where all changes may be made. -/
import Derived.Test.YtnconhbambhhgaaLdB
namespace Go.Proofs.Ytnconhbambhhgaa
open Go.RowKit
set_option linter.all false

def zeroL : List Value := List.replicate 256 (.int .i64 0)
theorem zeroL_eq : zeroL.toArray = Try.zeroCells82 := by
  show _ = _
  kernel_rfl
/-- What fit returns. -/
def FitR (L : List Win) (R TS DS : List Int) (cs : List Value) (e : Int) : Prop :=
  (e = 0 ∧ cs = cntL L TS DS TS.length ∧ ∀ i t, i < L.length → t < R.length → (cnt L TS DS TS.length i t : Int) ≤ R.getD t 0) ∨
    (e = 48 ∧ cs = zeroL ∧ ∃ i t, i < L.length ∧ t < R.length ∧ R.getD t 0 < (cnt L TS DS TS.length i t : Int))
def FitP (L : List Win) (R TS DS : List Int) (w : World) (e : Ending) (w' : World) : Prop := ∃ cs x, e = .returned (.tuple #[.agg cs.toArray, .int .i64 x]) ∧ FitR L R TS DS cs x ∧ Below w.heap.size w w'

set_option maxRecDepth 100000 in
set_option maxHeartbeats 4000000 in
theorem fit_good (p q r ta da ma : Option Addr) (L : List Win) (T : Nat → List Int) (Q R TS DS MS : List Int) (c1 c2 c3 c4 c5 c6 : Nat) (w : World) (h : GoodCal w p q r L T Q R)
    (hTS : TeamsAt w ta TS) (hDS : TeamsAt w da DS) (hMS : TeamsAt w ma MS) (hlen : DS.length = TS.length) (h24 : TS.length ≤ 24) (hM : MS.length ≤ 24) (hts : TS.all (isT R.length) = true) (hms : MS.all (isT R.length) = true)
    (hmay : ∀ j, j < TS.length → mayF L T (DS.getD j 0) (TS.getD j 0) = true) :
    Calls Try.prog 31 #[.agg #[.slice p L.length c1, .slice q Q.length c2, .slice r R.length c3], .slice ta TS.length c4, .slice da DS.length c5, .slice ma MS.length c6] w (FitP L R TS DS w) := by
  have hb0 := ((Below.refl w.heap.size w).alloc (Nat.le_refl _) (.cells #[.slice p L.length c1, .slice q Q.length c2, .slice r R.length c3] 38)).alloc (by simp) (.cells Try.zeroCells82 82)
  have hx : CalBox w.heap.size p q r L.length c1 Q.length c2 R.length c3 ((w.alloc (.cells #[.slice p L.length c1, .slice q Q.length c2, .slice r R.length c3] 38)).alloc (.cells Try.zeroCells82 82)) := ⟨by simp, by simp, by simp⟩
  have hz : ((w.alloc (.cells #[.slice p L.length c1, .slice q Q.length c2, .slice r R.length c3] 38)).alloc (.cells Try.zeroCells82 82)).heap[w.heap.size + 1]? = some (.cells Try.zeroCells82 82 (0, 0)) := by
    have := heap_alloc_new (w.alloc (.cells #[.slice p L.length c1, .slice q Q.length c2, .slice r R.length c3] 38)) (.cells Try.zeroCells82 82)
    simpa using this
  have hsz : ((w.alloc (.cells #[.slice p L.length c1, .slice q Q.length c2, .slice r R.length c3] 38)).alloc (.cells Try.zeroCells82 82)).heap.size = w.heap.size + 2 := by simp
  have hG := h.step hb0
  have CC := Lib.hid (count_good p q r ta da ma L T Q R TS DS MS c1 c2 c3 c4 c5 c6 _ hG (hTS.step hb0) (hDS.step hb0) (hMS.step hb0) hlen h24 hM hts hms hmay)
  have HRM := Lib.hid hG.room
  have HX := Lib.hid hx; have HB0 := Lib.hid hb0; have HZ := Lib.hid hz; have HSZ := Lib.hid hsz
  obtain ⟨x0, x1, x2⟩ := hx
  have l1 := h.l1; have l3 := h.l3
  rw [hlen] at CC ⊢
  clear h hb0 hz hsz hTS hDS hMS hts hms hmay hG hlen
  generalize hn : TS.length = n at *
  generalize hnL : L.length = nL at *
  generalize hnR : R.length = nR at *
  have HNL := Lib.hid hnL; have HNR := Lib.hid hnR; have HNN := Lib.hid hn
  clear hnL hnR hn
  generalize Q.length = nQ at *
  generalize MS.length = nM at *
  go_enter Try.func31, Try.ntmps31
  go_wp2_with fail
  generalize (w.alloc (.cells #[.slice p nL c1, .slice q nQ c2, .slice r nR c3] 38)).alloc (.cells Try.zeroCells82 82) = W0 at *
  generalize hA : w.heap.size = A at *
  have HA := Lib.hid hA; clear hA
  refine (CC.out).mono ?_
  rintro e w1 ⟨rfl, hb1⟩
  have HB1 := Lib.hid hb1; clear hb1
  obtain ⟨cs, hcs⟩ : ∃ cs, cntL L TS DS n = cs := ⟨_, rfl⟩
  rw [hcs]
  have HCS := Lib.hid hcs; clear hcs x0 x1 x2
  have hz1 := (HB1.out.block (A + 1) (by rw [HSZ.out]; omega)).trans HZ.out
  have HZ1 := Lib.hid hz1; clear hz1
  have hth : (w1.alloc (.cells Try.zeroCells82 82)).there w1.heap.size 0 256 := by
    have := there_of_row (heap_alloc_new w1 (.cells Try.zeroCells82 82))
    rwa [zero_size] at this
  have hcl : cs.length = 256 := by rw [← HCS.out, cntL_length]
  have hc1 : ∀ v ∈ cs, v.oneCell' = true := by rw [← HCS.out]; exact cntL_one _ _ _ _
  have hst := run_storeCells_cells (P := Try.prog) w1.heap.size 0 cs 0 (w1.alloc (.cells Try.zeroCells82 82)) (fun j hj => by simpa using (hth j (by omega)).1) (fun j hj => by simpa using (hth j (by omega)).2) hc1
  rw [Nat.zero_add] at hst
  have hbz : Below w1.heap.size w1 ((w1.alloc (.cells Try.zeroCells82 82)).setCells w1.heap.size 0 cs) := below_setCells ((Below.refl _ _).alloc (Nat.le_refl _) _) (Nat.le_refl _) 0 cs
  have hrz := World.rangeAt_setCells_same (w1.alloc (.cells Try.zeroCells82 82)) w1.heap.size 0 cs (by rw [hcl]; exact hth)
  have HBZ := Lib.hid hbz; have HRZ := Lib.hid hrz; have HCL := Lib.hid hcl
  clear hbz hrz hth hc1 hcl
  generalize (w1.alloc (.cells Try.zeroCells82 82)).setCells w1.heap.size 0 cs = wz at *
  obtain ⟨H, hH⟩ : ∃ H, w1.heap.size = H := ⟨_, rfl⟩
  rw [hH] at hst HBZ HRZ
  have HH0 := Lib.hid hH
  have e2 := cell_later' (HBZ.out.mono (by rw [hH]; exact Nat.le_refl _)) (cell_later' HB1.out HX.out.c2)
  have e0 := cell_later' (HBZ.out.mono (by rw [hH]; exact Nat.le_refl _)) (cell_later' HB1.out HX.out.c0)
  go_wp2_with fail
  have hz2 := (HBZ.out.block (A + 1) (by rw [← HH0.out]; exact lt_of_heap HZ1.out)).trans HZ1.out
  have hth8 : wz.there (A + 1) 0 256 := by
    have := there_of_row hz2
    rwa [zero_size] at this
  have hzl : Try.zeroCells82.toList = zeroL := by rw [← zeroL_eq, List.toList_toArray]
  have hz1 : ∀ v ∈ zeroL, v.oneCell' = true := fun v hv => by rw [(List.mem_replicate.1 hv).2]; rfl
  have hzn : zeroL.length = 256 := List.length_replicate
  have hc1 : ∀ v ∈ cs, v.oneCell' = true := by rw [← HCS.out]; exact cntL_one _ _ _ _
  have hs8 := run_storeCells_cells (P := Try.prog) (A + 1) 0 zeroL 0 wz (fun j hj => by simpa using (hth8 j (by omega)).1) (fun j hj => by simpa using (hth8 j (by omega)).2) hz1
  have hs9 := run_storeCells_cells (P := Try.prog) (A + 1) 0 cs 0 wz (fun j hj => by have := HCL.out; simpa using (hth8 j (by omega)).1) (fun j hj => by have := HCL.out; simpa using (hth8 j (by omega)).2) hc1
  rw [Nat.zero_add] at hs8 hs9
  have hbA : Below A w wz := HB0.out.trans ((HB1.out.mono (by have := HSZ.out; omega)).trans (HBZ.out.mono (by have := lt_of_heap HZ1.out; have := HH0.out; omega)))
  have HY1 := Lib.hid (below_setCells hbA (Nat.le_succ A) 0 zeroL)
  have HX1 := Lib.hid (below_setCells hbA (Nat.le_succ A) 0 cs)
  have HY2 := Lib.hid (World.rangeAt_setCells_same wz (A + 1) 0 zeroL (by rw [hzn]; exact hth8))
  have HX2 := Lib.hid (World.rangeAt_setCells_same wz (A + 1) 0 cs (by rw [HCL.out]; exact hth8))
  generalize wz.setCells (A + 1) 0 zeroL = wy at *
  generalize wz.setCells (A + 1) 0 cs = wx at *
  rw [← hzl] at hs8
  have HS8 := Lib.hid hs8; have HS9 := Lib.hid hs9; have HZN := Lib.hid hzn; have HZE := Lib.hid hzl
  have HRMZ := Lib.hid ((HRM.out.step HB1.out).step (HBZ.out.mono (by rw [HH0.out]; exact Nat.le_refl _)))
  clear hz2 hth8 hz1 hzn hc1 hs8 hs9 hbA hzl hst
  go_loopw [12, 13, 14, 30, 36] (fun _ _ _ kv _ wr => ∃ i : Nat, kv = .int .i64 (i : Int) ∧ i ≤ nL ∧ (∀ i' t, i' < i → t < nR → (cnt L TS DS n i' t : Int) ≤ R.getD t 0) ∧ wz = wr) (fun _ _ _ kv _ _ => nL - (intOf kv).toNat)
  case atStart => exact ⟨0, rfl, Nat.zero_le _, fun _ _ h => by omega, rfl⟩
  case round =>
    obtain ⟨i, rfl, hi, hok, rfl⟩ := hrel
    have HOK := Lib.hid hok; clear hok
    by_cases hlt : i < nL
    · have hi0 : (0 : Int) ≤ (i : Int) := by omega
      have hi2 : (i : Int) < (nL : Int) := by omega
      have hi3 : (i : Int) < 32 := by omega
      have hdd : decide (i < nL) = true := decide_eq_true hlt
      go_wp2_with fail
      go_loopw [13, 14, 36] (fun _ _ kv wr => ∃ t : Nat, kv = .int .i64 (t : Int) ∧ t ≤ nR ∧ (∀ t', t' < t → (cnt L TS DS n i t' : Int) ≤ R.getD t' 0) ∧ wz = wr) (fun _ _ kv _ => nR - (intOf kv).toNat)
      case atStart => exact ⟨0, rfl, Nat.zero_le _, fun _ h => by omega, rfl⟩
      case round =>
        obtain ⟨t, rfl, ht, hokt, rfl⟩ := hrel
        have HOT := Lib.hid hokt; clear hokt
        by_cases htl : t < nR
        · have hj0 : (0 : Int) ≤ (t : Int) := by omega
          have hj2 : (t : Int) < (nR : Int) := by omega
          have hj3 : (t : Int) < 8 := by omega
          have hdt : decide (t < nR) = true := decide_eq_true htl
          obtain ⟨b, o, hp, hc⟩ := HRMZ.out t (by rw [HNR.out]; exact htl)
          subst hp
          have hcc := HRZ.out (i * 8 + t) (.int .i64 (cnt L TS DS n i t : Int)) (by rw [← HCS.out]; exact cntL_get _ _ _ _ _ _ (by omega) (by omega))
          rw [Nat.zero_add] at hcc
          generalize hrm : R.getD t 0 = rm at *
          generalize hcn : cnt L TS DS n i t = cn at *
          have HRMM := Lib.hid hrm; have HCN := Lib.hid hcn; clear hrm hcn
          by_cases hgt : rm < (cn : Int)
          · have hg : decide (rm < (cn : Int)) = true := decide_eq_true hgt
            have hs8 := HS8.out
            go_wp2_with fail
            refine bodyPost_ret (res50_run (x := .int .i64 48) HY2.out HZN.out rfl rfl) rfl ⟨zeroL, 48, rfl, ?_, by rw [HA.out]; exact HY1.out⟩
            exact .inr ⟨rfl, rfl, i, t, by rw [HNL.out]; exact hlt, by rw [HNR.out]; exact htl, by rw [HNN.out, HCN.out, HRMM.out]; exact hgt⟩
          · have hg : decide (rm < (cn : Int)) = false := decide_eq_false hgt
            go_wp2_with fail
            go_roundw
            case rel => exact ⟨t + 1, by go_num, by omega, (fun t' h => by
              rcases Nat.lt_succ_iff_lt_or_eq.1 h with h' | h'
              · exact HOT.out t' h'
              · rw [h', HCN.out, HRMM.out]; omega), by first | trivial | rfl⟩
            case measure => simp [intOf]; omega
        · have hdt : decide (t < nR) = false := decide_eq_false htl
          have hj2 : ¬ (t : Int) < (nR : Int) := by omega
          go_wp2_with fail
          go_roundw
          case rel => exact ⟨i + 1, by go_num, by omega, (fun i' t' h1 h2 => by
            rcases Nat.lt_succ_iff_lt_or_eq.1 h1 with h' | h'
            · exact HOK.out i' t' h' h2
            · rw [h']; exact HOT.out t' (by omega)), by first | trivial | rfl⟩
          case measure => simp [intOf]; omega
    · have hdd : decide (i < nL) = false := decide_eq_false hlt
      have hi2 : ¬ (i : Int) < (nL : Int) := by omega
      go_wp2_with fail
      refine wp_load_mid 82 (.tmp 10) rfl H 0 rfl cs _ HRZ.out u108 rfl (by rw [HCL.out]; exact i108) ?_
      refine ‹∀ (a : Act) (w : World), wpList Try.prog _ _ _ a w → _› _ _ ?_
      have hs9 := HS9.out
      simp only [Act.put, List.setIfInBounds_toArray, List.set_cons_zero, List.set_cons_succ]
      go_wp2_with fail
      refine bodyPost_ret (res50_run (x := .int .i64 0) HX2.out HCL.out rfl rfl) rfl ⟨cs, 0, rfl, ?_, by rw [HA.out]; exact HX1.out⟩
      exact .inl ⟨rfl, by rw [HNN.out, HCS.out], fun i' t' h1 h2 => by rw [HNN.out]; exact HOK.out i' t' (by rw [HNL.out] at h1; omega) (by rw [HNR.out] at h2; exact h2)⟩
end Go.Proofs.Ytnconhbambhhgaa
