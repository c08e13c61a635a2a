/- ref30.Check of a good calendar. -/
import Derived.Test.YtnconhbambhhgaaRfA
import Derived.Test.YtnconhbambhhgaaWnH
namespace Go.Proofs.Ytnconhbambhhgaa
open Go.RowKit
set_option linter.all false

theorem isT_of_all {n : Nat} {Q : List Int} (h : Q.all (isT n) = true) {j : Nat} (hj : j < Q.length) : 0 ≤ Q.getD j 0 ∧ Q.getD j 0 < (n : Int) := by
  have := List.all_eq_true.1 h (Q[j]) (List.getElem_mem hj)
  rw [List.getD, List.getElem?_eq_getElem hj]
  unfold isT at this
  simpa using this
set_option maxRecDepth 100000 in
set_option maxHeartbeats 8000000 in
theorem rcheck_good (p q r : Option Addr) (L : List Win) (T : Nat → List Int) (Q R : List Int) (c1 c2 c3 : Nat) (w : World) (h : GoodCal w p q r L T Q R) :
    Calls Try.prog 42 #[.agg #[.slice p L.length c1, .slice q Q.length c2, .slice r R.length c3], .int .i64 Q.length] w (IntP 0 w) := by
  have hb0 := (Below.refl w.heap.size w).alloc (Nat.le_refl _) (.cells #[.slice p L.length c1, .slice q Q.length c2, .slice r R.length c3] 38)
  have hx : CalBox w.heap.size p q r L.length c1 Q.length c2 R.length c3 (w.alloc (.cells #[.slice p L.length c1, .slice q Q.length c2, .slice r R.length c3] 38)) := ⟨by simp, by simp, by simp⟩
  have hsz : w.heap.size ≤ (w.alloc (.cells #[.slice p L.length c1, .slice q Q.length c2, .slice r R.length c3] 38)).heap.size := by simp
  have hg := h.step hb0
  have l1 := h.l1; have l2 := h.l2; have l3 := h.l3
  have d1 : decide (32 < L.length) = false := decide_eq_false (by omega)
  have d2 : decide (8 < R.length) = false := decide_eq_false (by omega)
  have HG := Lib.hid hg; have HX := Lib.hid hx; have HB0 := Lib.hid hb0; have HSZ := Lib.hid hsz
  obtain ⟨x0, x1, x2⟩ := hx
  clear h hg hb0 hsz
  obtain ⟨nL, hL⟩ : ∃ N, L.length = N := ⟨_, rfl⟩
  obtain ⟨nQ, hQ⟩ : ∃ N, Q.length = N := ⟨_, rfl⟩
  obtain ⟨nR, hR⟩ : ∃ N, R.length = N := ⟨_, rfl⟩
  have HNL := Lib.hid hL; have HNQ := Lib.hid hQ; have HNR := Lib.hid hR
  rw [hL] at l1 d1 HX HB0 HSZ HG x0 x1 x2 ⊢
  rw [hQ] at l2 HX HB0 HSZ HG x0 x1 x2 ⊢
  rw [hR] at l3 d2 HX HB0 HSZ HG x0 x1 x2 ⊢
  clear hL hQ hR
  go_enter Try.func42, Try.ntmps42
  go_wp2_with fail
  generalize (w.alloc (.cells #[.slice p nL c1, .slice q nQ c2, .slice r nR c3] 38)) = W0 at *
  obtain ⟨C, hC⟩ : ∃ C, w.heap.size = C := ⟨_, rfl⟩
  rw [hC] at HX x0 x1 x2
  simp only [hC]
  have HC := Lib.hid hC
  have HXW := HX
  clear hC
  -- the rooms
  go_loopw [31] (fun iv wr => ∃ kR : Nat, iv = .int .i64 (kR : Int) ∧ kR ≤ nR ∧ wr = W0) (fun iv _ => nR - (intOf iv).toNat)
  case atStart => exact ⟨0, rfl, Nat.zero_le _, rfl⟩
  case round =>
    obtain ⟨kR, rfl, hk, hwe⟩ := hrel
    subst wr
    by_cases hlt : kR < nR
    · obtain ⟨b, o, hp, hc⟩ := HG.out.room kR (by rw [HNR.out]; exact hlt)
      have hrm : roomB (R.getD kR 0) = true := by
        have := List.all_eq_true.1 HG.out.rooms (R[kR]'(by rw [HNR.out]; exact hlt)) (List.getElem_mem _)
        rw [List.getD, List.getElem?_eq_getElem (by rw [HNR.out]; exact hlt)]; exact this
      subst hp
      generalize R.getD kR 0 = rm at *
      unfold roomB at hrm
      simp only [Bool.not_eq_true', Bool.or_eq_false_iff, decide_eq_false_iff_not] at hrm
      have g1 : decide (rm < 0) = false := decide_eq_false hrm.1
      have g2 : decide (24 < rm) = false := decide_eq_false hrm.2
      have hi0 : (0 : Int) ≤ (kR : Int) := by omega
      have hi2 : (kR : Int) < (nR : Int) := by omega
      have hdd : decide (kR < nR) = true := decide_eq_true hlt
      clear hrm
      go_wp2_with fail
      go_roundw
      case rel => exact ⟨kR + 1, by go_num, by omega, by trivial⟩
      case measure => simp [intOf]; omega
    · have hk2 : kR = nR := by omega
      subst hk2
      have hdd : decide (kR < kR) = false := by simp
      have hni : ¬ (kR : Int) < (kR : Int) := by omega
      go_wp2_with fail
      clear x0 x1 x2 HX
      have HX := HXW
      -- the days
      go_loopw [45] (fun iv wr' => ∃ i : Nat, iv = .int .i64 (i : Int) ∧ i ≤ nL ∧ Below W0.heap.size W0 wr') (fun iv _ => nL - (intOf iv).toNat)
      case atStart => exact ⟨0, rfl, Nat.zero_le _, Below.refl _ _⟩
      case round =>
        obtain ⟨i, rfl, hi, hb⟩ := hrel
        by_cases hlt : i < nL
        · obtain ⟨b, o, hp, e0, e1, e2⟩ := HG.out.wins i (by rw [HNL.out]; exact hlt)
          have hnd := HG.out.days i (by rw [HNL.out]; exact hlt)
          subst hp
          have e0 := cell_later' hb e0
          have e1 := cell_later' hb e1
          have e2 := cell_later' hb e2
          generalize (L.getD i win0).from_ = f at *
          generalize (L.getD i win0).to_ = t at *
          generalize (L.getD i win0).a = a' at *
          generalize (L.getD i win0).n = n' at *
          generalize (L.getD i win0).c = c' at *
          unfold noDays at hnd
          simp only [Bool.or_eq_false_iff] at hnd
          obtain ⟨⟨g1, g2⟩, g3⟩ := hnd
          have hi0 : (0 : Int) ≤ (i : Int) := by omega
          have hi2 : (i : Int) < (nL : Int) := by omega
          have hdd : decide (i < nL) = true := decide_eq_true hlt
          have HBE := Lib.hid (hb.alloc hb.size (.cells #[.int .i64 f, .int .i64 t, .slice a' n' c'] 77))
          clear hb
          go_wp2_with fail
          go_roundw
          case rel => exact ⟨i + 1, by go_num, by omega, HBE.out⟩
          case measure => simp [intOf]; omega
        · have hk2 : i = nL := by omega
          subst hk2
          have hdd : decide (i < i) = false := by simp
          have hni : ¬ (i : Int) < (i : Int) := by omega
          obtain ⟨x0, x1, x2⟩ := HX.out.step hb
          have HBE := Lib.hid hb
          clear hb
          go_wp2_with fail
          clear x0 x1 x2
          -- the order
          go_loopw [72] (fun iv wr' => ∃ k : Nat, iv = .int .i64 (k : Int) ∧ k ≤ i ∧ Below W0.heap.size W0 wr') (fun iv _ => i - (intOf iv).toNat)
          case atStart => exact ⟨0, rfl, Nat.zero_le _, HBE.out⟩
          case round =>
            clear HBE
            obtain ⟨k, rfl, hk, hb⟩ := hrel
            by_cases hlt : k < i
            · obtain ⟨b, o, hp, e0, e1, e2⟩ := HG.out.wins k (by rw [HNL.out]; exact hlt)
              obtain ⟨t1, t2, t3⟩ := HG.out.ts k (by rw [HNL.out]; exact hlt)
              have hat := HG.out.asct k (by rw [HNL.out]; exact hlt)
              rw [t1] at e2
              subst hp
              have e0 := cell_later' hb e0
              have e1 := cell_later' hb e1
              have e2 := cell_later' hb e2
              obtain ⟨x0, x1, x2⟩ := HX.out.step hb
              have hff := HG.out.asc (k - 1)
              obtain ⟨TT, hTT⟩ : ∃ TT, T k = TT := ⟨_, rfl⟩
              rw [hTT] at e2 t2 t3 hat
              obtain ⟨NT, hNT⟩ : ∃ NT, TT.length = NT := ⟨_, rfl⟩
              have HNT := Lib.hid hNT
              rw [hNT] at e2 t2
              generalize hf : (L.getD k win0).from_ = f at *
              generalize (L.getD k win0).to_ = t at *
              generalize (L.getD k win0).a = a' at *
              generalize (L.getD k win0).c = c' at *
              have hi0 : (0 : Int) ≤ (k : Int) := by omega
              have hi2 : (k : Int) < (i : Int) := by omega
              have hdd : decide (k < i) = true := decide_eq_true hlt
              have hba := hb.alloc hb.size (.cells #[.int .i64 f, .int .i64 t, .slice a' NT c'] 77)
              have HBA := Lib.hid hba
              have HT3 := Lib.hid t3; have HAT := Lib.hid hat
              obtain ⟨X, hX⟩ : ∃ X, wr.heap.size = X := ⟨_, rfl⟩
              have hxh : (wr.alloc (.cells #[.int .i64 f, .int .i64 t, .slice a' NT c'] 77)).heap[X]? = some (.cells #[.int .i64 f, .int .i64 t, .slice a' NT c'] 77 (0, 0)) := by rw [← hX]; exact heap_alloc_new _ _
              have HXH := Lib.hid hxh
              have HBW := Lib.hid hba
              have HXA := Lib.hid ((HX.out.step hb).step ((Below.refl _ _).alloc (Nat.le_refl _) (.cells #[.int .i64 f, .int .i64 t, .slice a' NT c'] 77)))
              clear t1 t3 hat hTT hNT hxh
              go_upto_region 18 with fail
              clear e0 e1 e2 x0 x1 x2 hX
              generalize (wr.alloc (.cells #[.int .i64 f, .int .i64 t, .slice a' NT c'] 77)) = wA at *
              have z0 := cell_of_row _ X 0 _ _ _ HXH.out
              simp at z0
              have hfu : 0 < k → ∃ b' o' u, (some ⟨b, o, none⟩ : Option Addr) = some ⟨b', o', none⟩ ∧ wA.cell? ⟨b', o' + (k - 1) * 3 + 1, none⟩ = some (.int .i64 u) ∧ u ≤ f := fun hk0 => by
                obtain ⟨b', o', hp', d0, d1, d2⟩ := HG.out.wins (k - 1) (by rw [HNL.out]; omega)
                refine ⟨b', o', _, hp', cell_later' HBW.out d1, ?_⟩
                rw [Nat.sub_add_cancel hk0] at hff
                rw [← hf]
                exact hff (by rw [HNL.out]; omega)
              have HFU := Lib.hid hfu
              clear hfu hff hf
              obtain ⟨x0, x1, x2⟩ := HXA.out
              go_cut [92] from 77 to 92 (fun cv wx => cv = .bool false ∧ Below wA.heap.size wA wx)
              case first =>
                by_cases hk0 : k = 0
                · subst hk0
                  go_quiet (fail)
                  go_wp2_with fail
                  go_meet
                  case rel => exact ⟨rfl, below_drewN (Below.refl _ _) _⟩
                · have hlt0 : (0 : Int) < (k : Int) := by omega
                  obtain ⟨b0, o0, u, hp0, d1, hle⟩ := HFU.out (by omega)
                  injection hp0 with hp0; injection hp0 with hp1 hp2
                  subst hp1; subst hp2
                  obtain ⟨m, hm⟩ : ∃ m, k - 1 = m := ⟨_, rfl⟩
                  rw [hm] at d1
                  have hm3 : (m : Int) < (i : Int) := by omega
                  have hm4 : (0 : Int) ≤ (m : Int) := by omega
                  have s1 : IntKind.i64.wrap ((k : Int) - 1) = (m : Int) := by rw [IntWalk.i64_in _ (by omega)]; omega
                  have hg : decide (f < u) = false := decide_eq_false (by omega)
                  have hd0 : decide (0 < k) = true := decide_eq_true (by omega)
                  go_quiet (fail)
                  go_wp2_with fail
                  go_meet
                  case rel => exact ⟨rfl, below_drewN (Below.refl _ _) _⟩
              case rest =>
                obtain ⟨rfl, hb2⟩ := hcut
                have hbc := HBA.out.trans (hb2.mono HBA.out.size)
                have HBC := Lib.hid hbc
                have hxc := (hb2.block X (lt_of_heap HXH.out)).trans HXH.out
                have HXC := Lib.hid hxc
                clear x0 x1 x2 z0 hb2 hbc hxc HXA HBA HFU HXH HBW
                go_wp2_with fail
                go_loopw [11] (fun iv wi => ∃ m : Nat, iv = .int .i64 (m : Int) ∧ 1 ≤ m ∧ m ≤ NT + 1 ∧ Below wc.heap.size wc wi) (fun iv _ => NT + 1 - (intOf iv).toNat)
                case atStart => exact ⟨1, rfl, Nat.le_refl _, by omega, Below.refl _ _⟩
                case round =>
                  obtain ⟨m, rfl, hm1, hm9, hbi⟩ := hrel
                  have hbx := hbi.block X (lt_of_heap HXC.out)
                  have z2 := cell_of_row _ X 2 _ _ _ (hbx.trans HXC.out)
                  simp at z2
                  have HBI := Lib.hid hbi
                  by_cases hmt : m < NT
                  · have htt := HT3.out.step (HBC.out.trans (hbi.mono HBC.out.size))
                    obtain ⟨b1, o1, hp1, y1⟩ := htt m (by rw [HNT.out]; exact hmt)
                    obtain ⟨b2, o2, hp2, y2⟩ := htt (m - 1) (by rw [HNT.out]; omega)
                    subst hp1
                    injection hp2 with hp2; injection hp2 with hp3 hp4
                    subst hp3; subst hp4
                    have hlt2 := HAT.out (m - 1) (by rw [HNT.out]; omega)
                    rw [Nat.sub_add_cancel hm1] at hlt2
                    generalize TT.getD m 0 = y at *
                    generalize TT.getD (m - 1) 0 = x at *
                    obtain ⟨m1, hm1'⟩ : ∃ m1, m - 1 = m1 := ⟨_, rfl⟩
                    rw [hm1'] at y2
                    have hm3 : (m1 : Int) < (NT : Int) := by omega
                    have hm4 : (0 : Int) ≤ (m1 : Int) := by omega
                    have hm5 : (m : Int) < (NT : Int) := by omega
                    have hm6 : (0 : Int) ≤ (m : Int) := by omega
                    have s1 : IntKind.i64.wrap ((m : Int) - 1) = (m1 : Int) := by rw [IntWalk.i64_in _ (by omega)]; omega
                    have hg : decide (y ≤ x) = false := decide_eq_false (by omega)
                    have hdd2 : decide (m < NT) = true := decide_eq_true hmt
                    clear hbi hbx htt
                    go_wp2_with fail
                    go_quiet (fail)
                    go_wp2_with fail
                    go_roundw
                    case rel => exact ⟨m + 1, by go_num, by omega, by omega, below_drewN HBI.out _⟩
                    case measure => simp [intOf]; omega
                  · have hmt2 : decide (m < NT) = false := decide_eq_false hmt
                    have hmt3 : ¬ (m : Int) < (NT : Int) := by omega
                    clear hbi hbx
                    go_wp2_with fail
                    go_roundw
                    case rel => exact ⟨k + 1, by go_num, by omega, HBC.out.trans (HBI.out.mono HBC.out.size)⟩
                    case measure => simp [intOf]; omega
            · have hk2 : k = i := by omega
              subst hk2
              have hdd : decide (k < k) = false := by simp
              have hni : ¬ (k : Int) < (k : Int) := by omega
              obtain ⟨x0, x1, x2⟩ := HX.out.step hb
              have HBE := Lib.hid hb
              clear hb
              go_wp2_with fail
              clear x0 x1 x2
              -- the windows' teams
              go_loopw [116] (fun iv wr' => ∃ j : Nat, iv = .int .i64 (j : Int) ∧ j ≤ k ∧ Below W0.heap.size W0 wr') (fun iv _ => k - (intOf iv).toNat)
              case atStart => exact ⟨0, rfl, Nat.zero_le _, HBE.out⟩
              case round =>
                clear HBE
                obtain ⟨j, rfl, hj, hb⟩ := hrel
                by_cases hlt : j < k
                · obtain ⟨b, o, hp, e0, e1, e2⟩ := HG.out.wins j (by rw [HNL.out]; exact hlt)
                  obtain ⟨t1, t2, t3⟩ := HG.out.ts j (by rw [HNL.out]; exact hlt)
                  have hti := HG.out.tin j (by rw [HNL.out]; exact hlt)
                  rw [t1] at e2
                  subst hp
                  have e0 := cell_later' hb e0
                  have e1 := cell_later' hb e1
                  have e2 := cell_later' hb e2
                  obtain ⟨TT, hTT⟩ : ∃ TT, T j = TT := ⟨_, rfl⟩
                  rw [hTT] at e2 t2 t3 hti
                  obtain ⟨NT, hNT⟩ : ∃ NT, TT.length = NT := ⟨_, rfl⟩
                  have HNT := Lib.hid hNT
                  rw [hNT] at e2 t2
                  generalize (L.getD j win0).from_ = f at *
                  generalize (L.getD j win0).to_ = t at *
                  generalize (L.getD j win0).a = a' at *
                  generalize (L.getD j win0).c = c' at *
                  have hi0 : (0 : Int) ≤ (j : Int) := by omega
                  have hi2 : (j : Int) < (k : Int) := by omega
                  have hdd : decide (j < k) = true := decide_eq_true hlt
                  have hdd' : decide ((j : Int) < (k : Int)) = true := decide_eq_true hi2
                  have hba := hb.alloc hb.size (.cells #[.int .i64 f, .int .i64 t, .slice a' NT c'] 77)
                  have HBA := Lib.hid hba
                  have HT3 := Lib.hid t3; have HTI := Lib.hid hti
                  clear t1 t3 hti hTT hNT hba hb
                  go_wp2_with fail
                  clear e0 e1 e2
                  generalize (wr.alloc (.cells #[.int .i64 f, .int .i64 t, .slice a' NT c'] 77)) = wA at *
                  go_loopw [123] (fun iv wi => ∃ m : Nat, iv = .int .i64 (m : Int) ∧ m ≤ NT ∧ wi = wA) (fun iv _ => NT - (intOf iv).toNat)
                  case atStart => exact ⟨0, rfl, Nat.zero_le _, rfl⟩
                  case round =>
                    obtain ⟨m, rfl, hm, hwe⟩ := hrel
                    have HWE := Lib.hid hwe
                    by_cases hmt : m < NT
                    · obtain ⟨b1, o1, hp1, y1⟩ := (HT3.out.step HBA.out) m (by rw [HNT.out]; exact hmt)
                      obtain ⟨x0, x1, x2⟩ := HX.out.step HBA.out
                      subst hp1
                      rw [← hwe] at y1 x0 x1 x2
                      obtain ⟨g1, g2⟩ := isT_of_all HTI.out (j := m) (by rw [HNT.out]; exact hmt)
                      rw [HNR.out] at g2
                      generalize TT.getD m 0 = y at *
                      have hm5 : (m : Int) < (NT : Int) := by omega
                      have hm6 : (0 : Int) ≤ (m : Int) := by omega
                      have h1 : decide (y < 0) = false := decide_eq_false (by omega)
                      have h2 : decide ((kR : Int) ≤ y) = false := decide_eq_false (by omega)
                      have hdd2 : decide (m < NT) = true := decide_eq_true hmt
                      clear hwe
                      go_wp2_with fail
                      go_roundw
                      case rel => exact ⟨m + 1, by go_num, by omega, HWE.out⟩
                      case measure => simp [intOf]; omega
                    · have hmt2 : decide (m < NT) = false := decide_eq_false hmt
                      have hmt3 : ¬ (m : Int) < (NT : Int) := by omega
                      clear hwe
                      go_wp2_with fail
                      go_roundw
                      case rel => exact ⟨j + 1, by go_num, by omega, by rw [HWE.out]; exact HBA.out⟩
                      case measure => simp [intOf]; omega
                · have hk2 : j = k := by omega
                  subst hk2
                  have hdd : decide (j < j) = false := by simp
                  have hni : ¬ (j : Int) < (j : Int) := by omega
                  obtain ⟨x0, x1, x2⟩ := HX.out.step hb
                  have HBE := Lib.hid hb
                  clear hb
                  go_wp2_with fail
                  clear x0 x1 x2
                  -- the endpoints' teams
                  go_loopw [146] (fun iv wi => ∃ m : Nat, iv = .int .i64 (m : Int) ∧ m ≤ nQ ∧ Below W0.heap.size W0 wi) (fun iv _ => nQ - (intOf iv).toNat)
                  case atStart => exact ⟨0, rfl, Nat.zero_le _, HBE.out⟩
                  case round =>
                    clear HBE
                    obtain ⟨m, rfl, hm, hb⟩ := hrel
                    have HBE := Lib.hid hb
                    by_cases hmt : m < nQ
                    · obtain ⟨b1, o1, hp1, y1⟩ := (HG.out.team.step hb) m (by rw [HNQ.out]; exact hmt)
                      obtain ⟨x0, x1, x2⟩ := HX.out.step hb
                      subst hp1
                      obtain ⟨g1, g2⟩ := isT_of_all HG.out.qin (j := m) (by rw [HNQ.out]; exact hmt)
                      rw [HNR.out] at g2
                      generalize Q.getD m 0 = y at *
                      have hm5 : (m : Int) < (nQ : Int) := by omega
                      have hm6 : (0 : Int) ≤ (m : Int) := by omega
                      have h1 : decide (y < 0) = false := decide_eq_false (by omega)
                      have h2 : decide ((kR : Int) ≤ y) = false := decide_eq_false (by omega)
                      have hdd2 : decide (m < nQ) = true := decide_eq_true hmt
                      clear hb
                      go_wp2_with fail
                      go_roundw
                      case rel => exact ⟨m + 1, by go_num, by omega, HBE.out⟩
                      case measure => simp [intOf]; omega
                    · have hmt2 : decide (m < nQ) = false := decide_eq_false hmt
                      have hmt3 : ¬ (m : Int) < (nQ : Int) := by omega
                      clear hb
                      go_wp2_with fail
                      go_ret
                      exact ⟨rfl, HB0.out.trans (HBE.out.mono HSZ.out)⟩
end Go.Proofs.Ytnconhbambhhgaa
