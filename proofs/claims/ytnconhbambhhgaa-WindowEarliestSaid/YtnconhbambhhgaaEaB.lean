/- window.fit, Fits of a good calendar, where one change may not be made. -/
import Derived.Test.YtnconhbambhhgaaEaA
import Derived.Test.YtnconhbambhhgaaLdD
namespace Go.Proofs.Ytnconhbambhhgaa
open Go.RowKit
set_option linter.all false

set_option maxRecDepth 100000 in
set_option maxHeartbeats 4000000 in
theorem fit_bad (p q r ta da ma : Option Addr) (L : List Win) (T : Nat → List Int) (Q R TS DS MS : List Int) (c1 c2 c3 c4 c5 c6 : Nat) (w : World) (h : GoodCal w p q r L T Q R)
    (hTS : TeamsAt w ta TS) (hDS : TeamsAt w da DS) (hMS : TeamsAt w ma MS) (hlen : DS.length = TS.length) (h24 : TS.length ≤ 24) (hM : MS.length ≤ 24) (hts : TS.all (isT R.length) = true) (hms : MS.all (isT R.length) = true)
    (J : Nat) (hJ : J < TS.length) (hmay : ∀ j, j < J → mayF L T (DS.getD j 0) (TS.getD j 0) = true) (hbad : mayF L T (DS.getD J 0) (TS.getD J 0) = false) :
    Calls Try.prog 31 #[.agg #[.slice p L.length c1, .slice q Q.length c2, .slice r R.length c3], .slice ta TS.length c4, .slice da DS.length c5, .slice ma MS.length c6] w fun e w' => e = .returned (.tuple #[.agg zeroL.toArray, .int .i64 47]) ∧ Below w.heap.size w w' := by
  have hb0 := ((Below.refl w.heap.size w).alloc (Nat.le_refl _) (.cells #[.slice p L.length c1, .slice q Q.length c2, .slice r R.length c3] 38)).alloc (by simp) (.cells Try.zeroCells82 82)
  have hz : ((w.alloc (.cells #[.slice p L.length c1, .slice q Q.length c2, .slice r R.length c3] 38)).alloc (.cells Try.zeroCells82 82)).heap[w.heap.size + 1]? = some (.cells Try.zeroCells82 82 (0, 0)) := by
    have := heap_alloc_new (w.alloc (.cells #[.slice p L.length c1, .slice q Q.length c2, .slice r R.length c3] 38)) (.cells Try.zeroCells82 82)
    simpa using this
  have hsz : ((w.alloc (.cells #[.slice p L.length c1, .slice q Q.length c2, .slice r R.length c3] 38)).alloc (.cells Try.zeroCells82 82)).heap.size = w.heap.size + 2 := by simp
  have CC := Lib.hid (count_bad p q r ta da ma L T Q R TS DS MS c1 c2 c3 c4 c5 c6 _ (h.step hb0) (hTS.step hb0) (hDS.step hb0) (hMS.step hb0) hlen h24 hM hts hms J hJ hmay hbad)
  have HB0 := Lib.hid hb0; have HZ := Lib.hid hz; have HSZ := Lib.hid hsz
  rw [hlen] at CC ⊢
  clear h hb0 hz hsz hTS hDS hMS hts hms hmay hbad hJ hlen
  generalize TS.length = n at *
  generalize L.length = nL at *
  generalize R.length = nR at *
  generalize Q.length = nQ at *
  generalize MS.length = nM at *
  go_enter Try.func31, Try.ntmps31
  go_wp2_with fail
  generalize (w.alloc (.cells #[.slice p nL c1, .slice q nQ c2, .slice r nR c3] 38)).alloc (.cells Try.zeroCells82 82) = W0 at *
  generalize hA : w.heap.size = A at *
  have HA := Lib.hid hA; clear hA
  refine (CC.out).mono ?_
  rintro e w1 ⟨rfl, hb1⟩
  have HB1 := Lib.hid hb1; clear hb1
  have hz1 := (HB1.out.block (A + 1) (by rw [HSZ.out]; omega)).trans HZ.out
  have HZ1 := Lib.hid hz1; clear hz1
  have hzl : Try.zeroCells82.toList = zeroL := by rw [← zeroL_eq, List.toList_toArray]
  have hc1 : ∀ v ∈ zeroL, v.oneCell' = true := fun v hv => by rw [(List.mem_replicate.1 hv).2]; rfl
  have hzn : zeroL.length = 256 := List.length_replicate
  have hth : (w1.alloc (.cells Try.zeroCells82 82)).there w1.heap.size 0 256 := by
    have := there_of_row (heap_alloc_new w1 (.cells Try.zeroCells82 82))
    rwa [zero_size] at this
  have hst := run_storeCells_cells (P := Try.prog) w1.heap.size 0 zeroL 0 (w1.alloc (.cells Try.zeroCells82 82)) (fun j hj => by simpa using (hth j (by omega)).1) (fun j hj => by simpa using (hth j (by omega)).2) hc1
  rw [Nat.zero_add] at hst
  have hbz : Below w1.heap.size w1 ((w1.alloc (.cells Try.zeroCells82 82)).setCells w1.heap.size 0 zeroL) := below_setCells ((Below.refl _ _).alloc (Nat.le_refl _) _) (Nat.le_refl _) 0 zeroL
  have HBZ := Lib.hid hbz
  clear hbz hth
  generalize (w1.alloc (.cells Try.zeroCells82 82)).setCells w1.heap.size 0 zeroL = wz at *
  have hz2 := (HBZ.out.block (A + 1) (lt_of_heap HZ1.out)).trans HZ1.out
  have hth8 : wz.there (A + 1) 0 256 := by
    have := there_of_row hz2
    rwa [zero_size] at this
  have hs8 := run_storeCells_cells (P := Try.prog) (A + 1) 0 zeroL 0 wz (fun j hj => by simpa using (hth8 j (by omega)).1) (fun j hj => by simpa using (hth8 j (by omega)).2) hc1
  rw [Nat.zero_add] at hs8
  have hbA : Below A w wz := HB0.out.trans ((HB1.out.mono (by have := HSZ.out; omega)).trans (HBZ.out.mono (by have := HB1.out.size; have := HSZ.out; omega)))
  have HY1 := Lib.hid (below_setCells hbA (Nat.le_succ A) 0 zeroL)
  have HY2 := Lib.hid (World.rangeAt_setCells_same wz (A + 1) 0 zeroL (by rw [hzn]; exact hth8))
  generalize wz.setCells (A + 1) 0 zeroL = wy at *
  rw [← hzl] at hs8
  have HZN := Lib.hid hzn
  clear hz2 hth8 hc1 hzn hbA hzl
  go_wp2_with fail
  exact bodyPost_ret (res50_run (x := .int .i64 47) HY2.out HZN.out rfl rfl) rfl ⟨rfl, by rw [HA.out]; exact HY1.out⟩

set_option maxRecDepth 100000 in
set_option maxHeartbeats 4000000 in
theorem fits_bad (p q r ta da : Option Addr) (L : List Win) (T : Nat → List Int) (Q R TS DS : List Int) (c1 c2 c3 c4 c5 : Nat) (w : World) (h : GoodCal w p q r L T Q R)
    (hTS : TeamsAt w ta TS) (hDS : TeamsAt w da DS) (hlen : DS.length = TS.length) (h24 : TS.length ≤ 24) (hts : TS.all (isT R.length) = true)
    (J : Nat) (hJ : J < TS.length) (hmay : ∀ j, j < J → mayF L T (DS.getD j 0) (TS.getD j 0) = true) (hbad : mayF L T (DS.getD J 0) (TS.getD J 0) = false) :
    Calls Try.prog 18 #[.agg #[.slice p L.length c1, .slice q Q.length c2, .slice r R.length c3], .slice ta TS.length c4, .slice da DS.length c5] w fun e w' => e = .returned (.int .i64 47) ∧ Below w.heap.size w w' := by
  have hb0 := (Below.refl w.heap.size w).alloc (Nat.le_refl _) (.cells #[.slice p L.length c1, .slice q Q.length c2, .slice r R.length c3] 38)
  have hsz : (w.alloc (.cells #[.slice p L.length c1, .slice q Q.length c2, .slice r R.length c3] 38)).heap.size = w.heap.size + 1 := by simp
  have CC := Lib.hid (fit_bad p q r ta da none L T Q R TS DS [] c1 c2 c3 c4 c5 0 _ (h.step hb0) (hTS.step hb0) (hDS.step hb0) (fun j hj => by simp at hj) hlen h24 (by simp) hts rfl J hJ hmay hbad)
  have HB0 := Lib.hid hb0; have HSZ := Lib.hid hsz
  rw [hlen] at CC ⊢
  rw [show ([] : List Int).length = 0 from rfl] at CC
  clear h hb0 hsz hTS hDS hts hmay hbad hJ hlen
  generalize TS.length = n at *
  generalize L.length = nL at *
  generalize R.length = nR at *
  generalize Q.length = nQ at *
  go_enter Try.func18, Try.ntmps18
  go_wp2_with fail
  generalize w.alloc (.cells #[.slice p nL c1, .slice q nQ c2, .slice r nR c3] 38) = W0 at *
  generalize hA : w.heap.size = A at *
  have HA := Lib.hid hA; clear hA
  refine (CC.out).mono ?_
  rintro e w1 ⟨rfl, hb1⟩
  have hzn : zeroL.length = 256 := List.length_replicate
  have hc1 : ∀ v ∈ zeroL, v.oneCell' = true := fun v hv => by rw [(List.mem_replicate.1 hv).2]; rfl
  have hth : (w1.alloc (.cells Try.zeroCells82 82)).there w1.heap.size 0 256 := by
    have := there_of_row (heap_alloc_new w1 (.cells Try.zeroCells82 82))
    rwa [zero_size] at this
  have hst := run_storeCells_cells (P := Try.prog) w1.heap.size 0 zeroL 0 (w1.alloc (.cells Try.zeroCells82 82)) (fun j hj => by simpa using (hth j (by omega)).1) (fun j hj => by simpa using (hth j (by omega)).2) hc1
  rw [Nat.zero_add] at hst
  have hbz : Below A w ((w1.alloc (.cells Try.zeroCells82 82)).setCells w1.heap.size 0 zeroL) := HB0.out.trans ((hb1.mono (by have := HSZ.out; omega)).trans (below_setCells ((Below.refl _ _).alloc (by have := hb1.size; have := HSZ.out; omega) _) (by have := hb1.size; have := HSZ.out; omega) 0 zeroL))
  have HBZ := Lib.hid hbz
  clear hbz hth hc1 hb1
  generalize (w1.alloc (.cells Try.zeroCells82 82)).setCells w1.heap.size 0 zeroL = wz at *
  go_wp2_with fail
  go_ret
  exact ⟨rfl, by rw [HA.out]; exact HBZ.out⟩
end Go.Proofs.Ytnconhbambhhgaa
