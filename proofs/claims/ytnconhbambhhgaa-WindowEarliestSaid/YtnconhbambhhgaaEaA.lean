/- window.count of a good calendar, where one change may not be made. -/
import Derived.Test.YtnconhbambhhgaaLdC
namespace Go.Proofs.Ytnconhbambhhgaa
open Go.RowKit
set_option linter.all false

def G15b (p q r da : Option Addr) (nL c1 nQ c2 nR c3 N c5 : Nat) (k : Nat) (t d : Int) (bm : Bool) (_ : Array Bool) (i : Nat) (v : Value) (_ : World) : Prop := match i with
  | 0 => v = .agg #[.slice p nL c1, .slice q nQ c2, .slice r nR c3]
  | 1 => v = .int .i64 t
  | 2 => v = .slice da N c5
  | 3 => v = .int .i64 k
  | 4 => ∃ b o, da = some ⟨b, o, none⟩ ∧ v = .pointer (some ⟨b, o + k, none⟩)
  | 5 => v = .int .i64 d
  | 6 => v = .bool bm
  | 7 => v = .bool (!bm)
  | _ => True

set_option maxRecDepth 100000 in
set_option maxHeartbeats 4000000 in
theorem count_bad (p q r ta da ma : Option Addr) (L : List Win) (T : Nat → List Int) (Q R TS DS MS : List Int) (c1 c2 c3 c4 c5 c6 : Nat) (w : World) (h : GoodCal w p q r L T Q R)
    (hTS : TeamsAt w ta TS) (hDS : TeamsAt w da DS) (hMS : TeamsAt w ma MS) (hlen : DS.length = TS.length) (h24 : TS.length ≤ 24) (hM : MS.length ≤ 24) (hts : TS.all (isT R.length) = true) (hms : MS.all (isT R.length) = true)
    (J : Nat) (hJ : J < TS.length) (hmay : ∀ j, j < J → mayF L T (DS.getD j 0) (TS.getD j 0) = true) (hbad : mayF L T (DS.getD J 0) (TS.getD J 0) = false) :
    Calls Try.prog 34 #[.agg #[.slice p L.length c1, .slice q Q.length c2, .slice r R.length c3], .slice ta TS.length c4, .slice da DS.length c5, .slice ma MS.length c6] w fun e w' => e = .returned (.tuple #[.agg zeroL.toArray, .int .i64 47]) ∧ Below w.heap.size w w' := by
  obtain ⟨N, hN⟩ : ∃ N, TS.length = N := ⟨_, rfl⟩
  have hb0 := ((Below.refl w.heap.size w).alloc (Nat.le_refl _) (.cells #[.slice p L.length c1, .slice q Q.length c2, .slice r R.length c3] 38)).alloc (by simp) (.cells Try.zeroCells82 82)
  have hx : CalBox w.heap.size p q r L.length c1 Q.length c2 R.length c3 ((w.alloc (.cells #[.slice p L.length c1, .slice q Q.length c2, .slice r R.length c3] 38)).alloc (.cells Try.zeroCells82 82)) := ⟨by simp, by simp, by simp⟩
  have hz : ((w.alloc (.cells #[.slice p L.length c1, .slice q Q.length c2, .slice r R.length c3] 38)).alloc (.cells Try.zeroCells82 82)).heap[w.heap.size + 1]? = some (.cells Try.zeroCells82 82 (0, 0)) := by
    have := heap_alloc_new (w.alloc (.cells #[.slice p L.length c1, .slice q Q.length c2, .slice r R.length c3] 38)) (.cells Try.zeroCells82 82)
    simpa using this
  have hsz : ((w.alloc (.cells #[.slice p L.length c1, .slice q Q.length c2, .slice r R.length c3] 38)).alloc (.cells Try.zeroCells82 82)).heap.size = w.heap.size + 2 := by simp
  have HG := Lib.hid (h.step hb0); have HX := Lib.hid hx; have HB0 := Lib.hid hb0; have HZ := Lib.hid hz; have HSZ := Lib.hid hsz
  have HTS := Lib.hid (hTS.step hb0); have HDS := Lib.hid (hDS.step hb0); have HMS := Lib.hid (hMS.step hb0)
  have HMAY := Lib.hid hmay; have HBAD := Lib.hid hbad
  have l1 := h.l1; have l2 := h.l2; have l3 := h.l3
  have CC := Lib.hid (check_good p q r L T Q R c1 c2 c3 _ HG.out)
  have CT := Lib.hid (fun W (hW : Below _ _ W) => areTeams_any p q r ta L.length c1 Q.length c2 R.length c3 c4 TS W (by omega) (HTS.out.step hW) hts)
  have CM := Lib.hid (fun W (hW : Below _ _ W) => areTeams_any p q r ma L.length c1 Q.length c2 R.length c3 c6 MS W (by omega) (HMS.out.step hW) hms)
  have CY := Lib.hid (fun (d t : Int) W (hW : Below _ _ W) => may_any p q r c1 Q.length c2 R.length c3 L T d t W (by omega) (HG.out.wins.step hW) (HG.out.ts.step hW))
  have CF := Lib.hid (fun (d : Int) W (hW : Below _ _ W) => find_any p q r c1 Q.length c2 R.length c3 L d W (by omega) (HG.out.wins.step hW))
  have HTI := Lib.hid (show ∀ j, j < TS.length → ∃ t : Nat, TS.getD j 0 = (t : Int) ∧ t < R.length from fun j hj => by
    have := List.all_eq_true.1 hts _ (List.getElem_mem hj)
    unfold isT at this
    simp only [Bool.and_eq_true, decide_eq_true_eq] at this
    rw [List.getD, List.getElem?_eq_getElem hj]
    exact ⟨(TS[j]).toNat, by simp; omega, by omega⟩)
  clear h hb0 hx hz hsz hTS hDS hMS hmay hbad hts hms HG
  rw [hN] at hlen h24 CT HTI hJ
  rw [hlen, hN]
  have HN := Lib.hid hN; have HLEN := Lib.hid hlen
  clear hN hlen
  generalize hnL : L.length = nL at *
  have HNL := Lib.hid hnL; clear hnL
  generalize Q.length = nQ at *
  generalize R.length = nR at *
  generalize MS.length = nM at *
  go_enter Try.func34, Try.ntmps34
  go_wp2_with fail
  generalize (w.alloc (.cells #[.slice p nL c1, .slice q nQ c2, .slice r nR c3] 38)).alloc (.cells Try.zeroCells82 82) = W0 at *
  generalize hA : w.heap.size = A at *
  have HA := Lib.hid hA; clear hA
  refine (CC.out).mono ?_
  rintro e w1 ⟨rfl, hb1⟩
  have HB1 := Lib.hid hb1; clear hb1
  obtain ⟨x0, x1, x2⟩ := HX.out.step HB1.out
  go_wp2_with fail
  refine (CT.out w1 HB1.out).mono ?_
  rintro e w2 ⟨rfl, hb2⟩
  have HB2 := Lib.hid (HB1.out.trans (hb2.mono HB1.out.size)); clear hb2 HB1 x0 x1 x2
  obtain ⟨x0, x1, x2⟩ := HX.out.step HB2.out
  go_wp2_with fail
  refine (CM.out w2 HB2.out).mono ?_
  rintro e w3 ⟨rfl, hb3⟩
  have HB3 := Lib.hid (HB2.out.trans (hb3.mono HB2.out.size)); clear hb3 HB2 x0 x1 x2
  go_wp2_with fail
  have hL0 : LdAt w3 (w3.alloc (.cells Try.zeroCells82 82)) L TS DS 0 := ⟨(Below.refl _ _).alloc (Nat.le_refl _) _, by rw [heap_alloc_new, cntL_zero]⟩
  obtain ⟨H, hH⟩ : ∃ H, w3.heap.size = H := ⟨_, rfl⟩
  have HL0 := Lib.hid hL0; clear hL0
  rw [hH]
  have HH0 := Lib.hid hH; clear hH
  generalize w3.alloc (.cells Try.zeroCells82 82) = wl at *
  go_loopw [12, 13, 47] (fun _ _ kv wr => ∃ k : Nat, kv = .int .i64 (k : Int) ∧ k ≤ J ∧ LdAt w3 wr L TS DS k) (fun _ _ kv _ => N - (intOf kv).toNat)
  case atStart => exact ⟨0, rfl, Nat.zero_le _, HL0.out⟩
  case round =>
    clear HL0
    obtain ⟨k, rfl, hk, hL⟩ := hrel
    have HL := Lib.hid hL; clear hL
    by_cases hlt : k < N
    · obtain ⟨b, o, hp, hc⟩ := (HTS.out.step (HB3.out.trans (HL.out.below.mono HB3.out.size))) k (by rw [HN.out]; exact hlt)
      obtain ⟨b2, o2, hp2, hc2⟩ := (HDS.out.step (HB3.out.trans (HL.out.below.mono HB3.out.size))) k (by rw [HLEN.out]; exact hlt)
      obtain ⟨bm, hbm⟩ : ∃ b, mayF L T (DS.getD k 0) (TS.getD k 0) = b := ⟨_, rfl⟩
      have hbJ : bm = true → k < J := fun e => by
        rcases Nat.lt_or_ge k J with h | h
        · exact h
        · have : k = J := by omega
          rw [this, HBAD.out, e] at hbm; cases hbm
      have HBJ := Lib.hid hbJ
      have HMD := Lib.hid hbm
      clear hbJ hbm
      obtain ⟨t, ht, htR⟩ := HTI.out k hlt
      rw [ht] at hc HMD
      have HT := Lib.hid ht; clear ht
      subst hp
      subst hp2
      obtain ⟨d, hd⟩ : ∃ d, DS.getD k 0 = d := ⟨_, rfl⟩
      rw [hd] at hc2 HMD
      have HD := Lib.hid hd; clear hd
      have HCD := Lib.hid hc2; clear hc2
      have hi0 : (0 : Int) ≤ (k : Int) := by omega
      have hi2 : (k : Int) < (N : Int) := by omega
      have hdd : decide (k < N) = true := decide_eq_true hlt
      go_upto_region 15 with fail
      refine region_facts (by kernel_rfl) (G15b p q r (some ⟨b2, o2, none⟩) nL c1 nQ c2 nR c3 N c5 k t d bm) (fun _ W => Below wr.heap.size wr W) (by kernel_rfl) (by kernel_rfl) ?h0 ?hstep ?hend
      case h0 => exact below_drewN (Below.refl _ _) 1
      case hstep =>
        intro i o l a W ho hat K hK
        have hi : i < 8 := (Array.getElem?_eq_some_iff.1 ho).1
        obtain rfl | rfl | rfl | rfl | rfl | rfl | rfl | rfl : i = 0 ∨ i = 1 ∨ i = 2 ∨ i = 3 ∨ i = 4 ∨ i = 5 ∨ i = 6 ∨ i = 7 := by omega
        all_goals
          have ho := Option.some.inj (show some _ = some o from ho)
          subst ho
        · skip
          have e0 : a.tmps[4]?.getD undef = .pointer (some ⟨A, 0, none⟩) := hat.out 4 (by kernel_rfl)
          have HBW := hat.base
          obtain ⟨x0, x1, x2⟩ := (HX.out.step (HB3.out.trans (HL.out.below.mono HB3.out.size))).step HBW
          clear HBW
          have HF := Lib.hid (hK (.agg #[.slice p nL c1, .slice q nQ c2, .slice r nR c3]) W rfl (fun _ _ _ h => h) hat.base)
          clear hat hK
          go_simp
          exact HF.out
        · skip
          have e0 : a.tmps[13]?.getD undef = .int .i64 (t : Int) := hat.out 13 (by kernel_rfl)
          have HF := Lib.hid (hK (.int .i64 (t : Int)) W rfl (fun _ _ _ h => h) hat.base)
          clear hat hK
          go_simp
          exact HF.out
        · skip
          have e0 : a.tmps[2]?.getD undef = .slice (some ⟨b2, o2, none⟩) N c5 := hat.out 2 (by kernel_rfl)
          have HF := Lib.hid (hK (.slice (some ⟨b2, o2, none⟩) N c5) W rfl (fun _ _ _ h => h) hat.base)
          clear hat hK
          go_simp
          exact HF.out
        · skip
          have e0 : a.tmps[12]?.getD undef = .int .i64 (k : Int) := hat.out 12 (by kernel_rfl)
          have HF := Lib.hid (hK (.int .i64 (k : Int)) W rfl (fun _ _ _ h => h) hat.base)
          clear hat hK
          go_simp
          exact HF.out
        · have e0 : a.tmps[54]?.getD undef = .slice (some ⟨b2, o2, none⟩) N c5 := hat.have_ 2 54 (by kernel_rfl) (hat.dep 2 (by kernel_rfl))
          have e1 : a.tmps[55]?.getD undef = .int .i64 (k : Int) := hat.have_ 3 55 (by kernel_rfl) (hat.dep 3 (by kernel_rfl))
          have HF := Lib.hid (hK (.pointer (some ⟨b2, o2 + k, none⟩)) W ⟨b2, o2, rfl, rfl⟩ (fun _ _ _ h => h) hat.base)
          clear hat hK
          go_simp
          exact HF.out
        · obtain ⟨b3, o3, e3, e0⟩ := hat.have_ 4 56 (by kernel_rfl) (hat.dep 4 (by kernel_rfl))
          injection e3 with e3; injection e3 with e4 e5
          subst e4; subst e5
          have cd := cell_later' hat.base HCD.out
          have HF := Lib.hid (hK (.int .i64 d) W rfl (fun _ _ _ h => h) hat.base)
          clear hat hK
          go_simp
          exact HF.out
        · have e0 : a.tmps[52]?.getD undef = .agg #[.slice p nL c1, .slice q nQ c2, .slice r nR c3] := hat.have_ 0 52 (by kernel_rfl) (hat.dep 0 (by kernel_rfl))
          have e1 : a.tmps[53]?.getD undef = .int .i64 (t : Int) := hat.have_ 1 53 (by kernel_rfl) (hat.dep 1 (by kernel_rfl))
          have e2 : a.tmps[57]?.getD undef = .int .i64 d := hat.have_ 5 57 (by kernel_rfl) (hat.dep 5 (by kernel_rfl))
          have CYW := Lib.hid (CY.out d t W ((HB3.out.trans (HL.out.below.mono HB3.out.size)).trans (hat.base.mono (Nat.le_trans HB3.out.size HL.out.below.size))))
          have HH := Lib.hid (And.intro hat hK)
          clear hat hK
          go_simp
          refine (CYW.out).mono ?_
          rintro e w' ⟨x, hx, rfl, hbx⟩
          obtain ⟨hat, hK⟩ := HH.out
          rw [mayR_F hx, HMD.out]
          exact hK _ _ rfl (fun _ _ _ h => h) (hat.base.trans (hbx.mono hat.base.size))
        · have e0 : a.tmps[58]?.getD undef = .bool bm := hat.have_ 6 58 (by kernel_rfl) (hat.dep 6 (by kernel_rfl))
          have HF := Lib.hid (hK (.bool (!bm)) W rfl (fun _ _ _ h => h) hat.base)
          clear hat hK
          go_simp
          exact HF.out
      case hend =>
        intro l u wc hall hG hB
        have e7 : u 7 = .bool (!bm) := hG 7 59 (by kernel_rfl)
        have HBC := Lib.hid hB
        clear hG hB hall
        simp only [putAll, Act.put, List.setIfInBounds_toArray, List.set_cons_zero, List.set_cons_succ, Nat.zero_add, Nat.reduceAdd]
        rw [e7]
        clear e7
        generalize u 0 = v0
        generalize u 1 = v1
        generalize u 2 = v2
        generalize u 3 = v3
        generalize u 4 = v4
        generalize u 5 = v5
        generalize u 6 = v6
        rcases Bool.eq_false_or_eq_true bm with rfl | rfl
        · have hkJ := HBJ.out rfl
          obtain ⟨f, hf⟩ : ∃ f, fi d L = f := ⟨_, rfl⟩
          have hfl : f < nL := by
            have := fi_lt_of_may HMD.out
            rw [hf, HNL.out] at this; exact this
          have HFL := Lib.hid hfl; have HFI := Lib.hid hf
          clear hf
          obtain ⟨c, hc'⟩ : ∃ c, cnt L TS DS k f t = c := ⟨_, rfl⟩
          have hcl : c ≤ 24 := by have := cnt_le L TS DS k f t; omega
          have hrow0 := HL.out.row
          rw [HH0.out] at hrow0
          have hrow := (HBC.out.block H (lt_of_heap hrow0)).trans hrow0
          clear hrow0
          have hch : wc.cell? ⟨H, f * 8 + t, none⟩ = some (.int .i64 (c : Int)) := by
            rw [cell_of_row _ H _ _ _ _ hrow, List.getElem?_toArray, cntL_get _ _ _ _ _ _ (by omega) (by omega), hc']
          have HCH := Lib.hid hch; have HRW := Lib.hid hrow; have HCC := Lib.hid hc'
          clear hch hrow hc'
          have q0 : (0 : Int) ≤ (f : Int) := by omega
          have q1 : (f : Int) < 32 := by omega
          have q2 : (0 : Int) ≤ (t : Int) := by omega
          have q3 : (t : Int) < 8 := by omega
          have q4 : IntKind.i64.wrap ((c : Int) + 1) = (c : Int) + 1 := IntWalk.i64_in _ (by omega)
          go_upto_region 17 with fail
          refine region_facts (by kernel_rfl) (G17 p q r (some ⟨b2, o2, none⟩) nL c1 nQ c2 nR c3 N c5 b2 o2 k t d H f c) (B17 wc H f t c) (by kernel_rfl) (by kernel_rfl) ?h0 ?hstep ?hend
          case h0 => exact ⟨fun _ => below_drewN (Below.refl _ _) 1, fun h => by simp at h⟩
          case hstep =>
            intro i o l a W ho hat K hK
            have hi : i < 14 := (Array.getElem?_eq_some_iff.1 ho).1
            obtain rfl | rfl | rfl | rfl | rfl | rfl | rfl | rfl | rfl | rfl | rfl | rfl | rfl | rfl : i = 0 ∨ i = 1 ∨ i = 2 ∨ i = 3 ∨ i = 4 ∨ i = 5 ∨ i = 6 ∨ i = 7 ∨ i = 8 ∨ i = 9 ∨ i = 10 ∨ i = 11 ∨ i = 12 ∨ i = 13 := by omega
            all_goals
              have ho := Option.some.inj (show some _ = some o from ho)
              subst ho
            · skip
              have e0 : a.tmps[4]?.getD undef = .pointer (some ⟨A, 0, none⟩) := hat.out 4 (by kernel_rfl)
              have HBW := (hat.base.1 (hat.later 13 (by kernel_rfl)))
              obtain ⟨x0, x1, x2⟩ := ((HX.out.step (HB3.out.trans (HL.out.below.mono HB3.out.size))).step HBC.out).step HBW
              clear HBW
              have HF := Lib.hid (hK (.agg #[.slice p nL c1, .slice q nQ c2, .slice r nR c3]) W rfl (fun _ _ _ h => h) (hat.base.mono (by decide)))
              clear hat hK
              go_simp
              exact HF.out
            · skip
              have e0 : a.tmps[2]?.getD undef = .slice (some ⟨b2, o2, none⟩) N c5 := hat.out 2 (by kernel_rfl)
              have HF := Lib.hid (hK (.slice (some ⟨b2, o2, none⟩) N c5) W rfl (fun _ _ _ h => h) (hat.base.mono (by decide)))
              clear hat hK
              go_simp
              exact HF.out
            · skip
              have e0 : a.tmps[12]?.getD undef = .int .i64 (k : Int) := hat.out 12 (by kernel_rfl)
              have HF := Lib.hid (hK (.int .i64 (k : Int)) W rfl (fun _ _ _ h => h) (hat.base.mono (by decide)))
              clear hat hK
              go_simp
              exact HF.out
            · skip
              have e0 : a.tmps[62]?.getD undef = .slice (some ⟨b2, o2, none⟩) N c5 := hat.have_ 1 62 (by kernel_rfl) (hat.dep 1 (by kernel_rfl))
              have e1 : a.tmps[63]?.getD undef = .int .i64 (k : Int) := hat.have_ 2 63 (by kernel_rfl) (hat.dep 2 (by kernel_rfl))
              have HF := Lib.hid (hK (.pointer (some ⟨b2, o2 + k, none⟩)) W rfl (fun _ _ _ h => h) (hat.base.mono (by decide)))
              clear hat hK
              go_simp
              exact HF.out
            · skip
              have e0 : a.tmps[64]?.getD undef = .pointer (some ⟨b2, o2 + k, none⟩) := hat.have_ 3 64 (by kernel_rfl) (hat.dep 3 (by kernel_rfl))
              have cd := cell_later' (hat.base.1 (hat.later 13 (by kernel_rfl))) (cell_later' HBC.out HCD.out)
              have HF := Lib.hid (hK (.int .i64 d) W rfl (fun _ _ _ h => h) (hat.base.mono (by decide)))
              clear hat hK
              go_simp
              exact HF.out
            · have e0 : a.tmps[61]?.getD undef = .agg #[.slice p nL c1, .slice q nQ c2, .slice r nR c3] := hat.have_ 0 61 (by kernel_rfl) (hat.dep 0 (by kernel_rfl))
              have e2 : a.tmps[65]?.getD undef = .int .i64 d := hat.have_ 4 65 (by kernel_rfl) (hat.dep 4 (by kernel_rfl))
              have CFW := Lib.hid (CF.out d W ((((HB3.out.trans (HL.out.below.mono HB3.out.size))).trans (HBC.out.mono (Nat.le_trans HB3.out.size HL.out.below.size))).trans ((hat.base.1 (hat.later 13 (by kernel_rfl))).mono (Nat.le_trans HB3.out.size (Nat.le_trans HL.out.below.size HBC.out.size)))))
              have HH := Lib.hid (And.intro hat hK)
              clear hat hK
              go_simp
              refine (CFW.out).mono ?_
              rintro e w' ⟨x, rfl, hx, hbx⟩
              obtain ⟨hat, hK⟩ := HH.out
              have hxf : x = (f : Int) := by
                rcases findR_fi hx with ⟨_, hf⟩ | ⟨hf, _⟩
                · have := HFL.out; rw [HFI.out, HNL.out] at hf; omega
                · rw [hf, HFI.out]
              rw [hxf]
              have hbw := (hat.base.1 (hat.later 13 (by kernel_rfl)))
              exact hK _ _ rfl (fun _ _ _ h => h) ⟨fun _ => hbw.trans (hbx.mono hbw.size), fun h13 => by rw [getD_set_ne false (by decide), hat.later 13 (by kernel_rfl)] at h13; cases h13⟩
            · skip
              have e0 : a.tmps[13]?.getD undef = .int .i64 (t : Int) := hat.out 13 (by kernel_rfl)
              have HF := Lib.hid (hK (.int .i64 (t : Int)) W rfl (fun _ _ _ h => h) (hat.base.mono (by decide)))
              clear hat hK
              go_simp
              exact HF.out
            · skip
              have e0 : a.tmps[11]?.getD undef = .pointer (some ⟨H, 0, none⟩) := hat.out 11 (by kernel_rfl)
              have e1 : a.tmps[66]?.getD undef = .int .i64 (f : Int) := hat.have_ 5 66 (by kernel_rfl) (hat.dep 5 (by kernel_rfl))
              have HF := Lib.hid (hK (.pointer (some ⟨H, f * 8, none⟩)) W rfl (fun _ _ _ h => h) (hat.base.mono (by decide)))
              clear hat hK
              go_simp
              exact HF.out
            · skip
              have e0 : a.tmps[68]?.getD undef = .pointer (some ⟨H, f * 8, none⟩) := hat.have_ 7 68 (by kernel_rfl) (hat.dep 7 (by kernel_rfl))
              have e1 : a.tmps[67]?.getD undef = .int .i64 (t : Int) := hat.have_ 6 67 (by kernel_rfl) (hat.dep 6 (by kernel_rfl))
              have HF := Lib.hid (hK (.pointer (some ⟨H, f * 8 + t, none⟩)) W rfl (fun _ _ _ h => h) (hat.base.mono (by decide)))
              clear hat hK
              go_simp
              exact HF.out
            · skip
              have e0 : a.tmps[69]?.getD undef = .pointer (some ⟨H, f * 8 + t, none⟩) := hat.have_ 8 69 (by kernel_rfl) (hat.dep 8 (by kernel_rfl))
              have ch := cell_later' (hat.base.1 (hat.later 13 (by kernel_rfl))) HCH.out
              have HF := Lib.hid (hK (.int .i64 (c : Int)) W rfl (fun _ _ _ h => h) (hat.base.mono (by decide)))
              clear hat hK
              go_simp
              exact HF.out
            · skip
              have e0 : a.tmps[70]?.getD undef = .int .i64 (c : Int) := hat.have_ 9 70 (by kernel_rfl) (hat.dep 9 (by kernel_rfl))
              have HF := Lib.hid (hK (.int .i64 ((c : Int) + 1)) W rfl (fun _ _ _ h => h) (hat.base.mono (by decide)))
              clear hat hK
              go_simp
              exact HF.out
            · skip
              have e0 : a.tmps[11]?.getD undef = .pointer (some ⟨H, 0, none⟩) := hat.out 11 (by kernel_rfl)
              have e1 : a.tmps[66]?.getD undef = .int .i64 (f : Int) := hat.have_ 5 66 (by kernel_rfl) (hat.dep 5 (by kernel_rfl))
              have HF := Lib.hid (hK (.pointer (some ⟨H, f * 8, none⟩)) W rfl (fun _ _ _ h => h) (hat.base.mono (by decide)))
              clear hat hK
              go_simp
              exact HF.out
            · skip
              have e0 : a.tmps[72]?.getD undef = .pointer (some ⟨H, f * 8, none⟩) := hat.have_ 11 72 (by kernel_rfl) (hat.dep 11 (by kernel_rfl))
              have e1 : a.tmps[67]?.getD undef = .int .i64 (t : Int) := hat.have_ 6 67 (by kernel_rfl) (hat.dep 6 (by kernel_rfl))
              have HF := Lib.hid (hK (.pointer (some ⟨H, f * 8 + t, none⟩)) W rfl (fun _ _ _ h => h) (hat.base.mono (by decide)))
              clear hat hK
              go_simp
              exact HF.out
            · have e0 : a.tmps[73]?.getD undef = .pointer (some ⟨H, f * 8 + t, none⟩) := hat.have_ 12 73 (by kernel_rfl) (hat.dep 12 (by kernel_rfl))
              have e1 : a.tmps[71]?.getD undef = .int .i64 ((c : Int) + 1) := hat.have_ 10 71 (by kernel_rfl) (hat.dep 10 (by kernel_rfl))
              have hbw := hat.base.1 hat.open_
              have ch := cell_later' hbw HCH.out
              have fr : W.frozen? ⟨H, f * 8 + t, none⟩ = false := by
                have := (hbw.block _ (lt_of_heap HRW.out)).trans HRW.out
                simp [World.frozen?, this]
              have HF := Lib.hid (hK undef (W.setCell ⟨H, f * 8 + t, none⟩ (.int .i64 ((c : Int) + 1))) trivial (fun _ _ _ h => h) ⟨(fun h13 => by rw [set_same (by rw [hat.size]; decide)] at h13; cases h13), fun _ => ⟨W, hbw, rfl⟩⟩)
              clear hat hK hbw
              go_simp
              exact HF.out
          case hend =>
            intro l u W hall hG hB
            obtain ⟨W2, hb2, rfl⟩ := hB.2 (hall 13 (by decide))
            have HB2 := Lib.hid hb2
            clear hG hB hall hb2
            simp only [putAll, Act.put, List.setIfInBounds_toArray, List.set_cons_zero, List.set_cons_succ, Nat.zero_add, Nat.reduceAdd]
            generalize u 0 = y0
            generalize u 1 = y1
            generalize u 2 = y2
            generalize u 3 = y3
            generalize u 4 = y4
            generalize u 5 = y5
            generalize u 6 = y6
            generalize u 7 = y7
            generalize u 8 = y8
            generalize u 9 = y9
            generalize u 10 = y10
            generalize u 11 = y11
            generalize u 12 = y12
            have hlw3 : w3.heap.size ≤ wr.heap.size := HL.out.below.size
            have hbA : Below w3.heap.size w3 W2 := HL.out.below.trans ((HBC.out.mono hlw3).trans (HB2.out.mono (Nat.le_trans hlw3 HBC.out.size)))
            have hr2 := (HB2.out.block H (lt_of_heap HRW.out)).trans HRW.out
            have hnew : LdAt w3 (W2.setCell ⟨H, f * 8 + t, none⟩ (.int .i64 ((c : Int) + 1))) L TS DS (k + 1) := by
              refine ⟨?_, ?_⟩
              · refine hbA.trans ⟨rfl, rfl, rfl, by simp [World.setCell], fun b hb => heap_setCell_other W2 ⟨H, f * 8 + t, none⟩ b _ (by have := HH0.out; simp; omega)⟩
              · rw [HH0.out, heap_setCell_same W2 H (f * 8 + t) _ _ _ hr2, cntL_succ L TS DS k f t (by omega) (by omega) (by rw [HD.out, HFI.out]) HT.out, HCC.out, List.setIfInBounds_toArray]
            have HNEW := Lib.hid hnew
            clear hnew hr2 hbA
            go_wp2_with fail
            go_roundw
            case rel => exact ⟨k + 1, by go_num, hkJ, HNEW.out⟩
            case measure => simp [intOf]; omega
        · have hX := (HB3.out.trans (HL.out.below.mono HB3.out.size)).trans (HBC.out.mono (Nat.le_trans HB3.out.size HL.out.below.size))
          have hbA : Below A w wc := HB0.out.trans (hX.mono (by have := HB0.out.size; have := HA.out; omega))
          have hz2 := (hX.block (A + 1) (by rw [HSZ.out]; omega)).trans HZ.out
          have hth8 : wc.there (A + 1) 0 256 := by
            have := there_of_row hz2
            rwa [zero_size] at this
          have hzl : Try.zeroCells82.toList = zeroL := by rw [← zeroL_eq, List.toList_toArray]
          have hz1 : ∀ v ∈ zeroL, v.oneCell' = true := fun v hv => by rw [(List.mem_replicate.1 hv).2]; rfl
          have hzn : zeroL.length = 256 := List.length_replicate
          have hs8 := run_storeCells_cells (P := Try.prog) (A + 1) 0 zeroL 0 wc (fun j hj => by simpa using (hth8 j (by omega)).1) (fun j hj => by simpa using (hth8 j (by omega)).2) hz1
          rw [Nat.zero_add] at hs8
          have HY1 := Lib.hid (below_setCells hbA (Nat.le_succ A) 0 zeroL)
          have HY2 := Lib.hid (World.rangeAt_setCells_same wc (A + 1) 0 zeroL (by rw [hzn]; exact hth8))
          generalize wc.setCells (A + 1) 0 zeroL = wy at *
          rw [← hzl] at hs8
          have HZN := Lib.hid hzn
          clear hX hbA hz2 hth8 hzl hz1 hzn
          go_wp2_with fail
          exact bodyPost_ret (res74_run (x := .int .i64 47) HY2.out HZN.out rfl rfl) rfl ⟨rfl, by rw [HA.out]; exact HY1.out⟩
    · exfalso; omega
end Go.Proofs.Ytnconhbambhhgaa
