/- OrderSets. -/
import Derived.Test.YtgeldpkopolnfaaDoorOmV
import Derived.Test.YtgeldpkopolnfaaDoorOfA
namespace Go.Proofs.YtgeldpkopolnfaaDoor
open Go.RowKit
set_option linter.all false

set_option maxRecDepth 100000 in
set_option maxHeartbeats 4000000 in
theorem setsLaw_heavy (w : World) (a : Option Addr) (n c : Nat) (h : decide (n ≤ 400) = false) (hT : Deb w) :
    Calls Tryd.prog 3 #[.slice a n c] w (BoolP true w) := by
  have CL := Lib.hid (light_any a n c false w h)
  have CA := Lib.hid (awake_any w hT)
  clear h
  go_enter Tryd.func3, Tryd.ntmps3
  go_wp2_with fail
  refine (CL.out).mono ?_
  rintro e w1 ⟨rfl, rfl⟩
  clear CL
  go_wp2_with fail
  refine (CA.out).mono ?_
  rintro e w2 ⟨rfl, hb⟩
  have HB := Lib.hid hb; clear hb
  go_wp2_with fail
  go_ret
  exact ⟨rfl, HB.out⟩

set_option maxRecDepth 100000 in
set_option maxHeartbeats 8000000 in
theorem setsLaw_light (w : World) (a : Option Addr) (n c : Nat) (h : decide (n ≤ 400) = true) (hi : Ints w w.heap.size a n) (hT : Deb w) :
    Calls Tryd.prog 3 #[.slice a n c] w (BoolP true w) := by
  have CL := Lib.hid (light_any a n c true w h)
  have CR := Lib.hid (roll_any a n c w (of_decide_eq_true h) hi)
  have HT := Lib.hid hT
  have hw1 := hT.1
  obtain ⟨i0, hi0, hz0, hz1, hz2⟩ := info_parts info3
  clear h hi hT
  go_enter Tryd.func3, Tryd.ntmps3
  go_wp2_with fail
  refine (CL.out).mono ?_
  rintro e w0 ⟨rfl, rfl⟩
  go_wp2_with fail
  refine (CR.out).mono ?_
  rintro e w1 ⟨rfl, hd1, hb1⟩
  obtain ⟨g, hg⟩ : ∃ g, w0.heap.size = g := ⟨_, rfl⟩
  rw [hg] at hd1 hb1 hw1
  have hs0 : g < w1.heap.size := hd1.lt
  have HG := Lib.hid hg
  have HB1 := Lib.hid hb1
  have C1 := Lib.hid (needs_any w1 g 6 (by decide) (by decide) hd1)
  rw [hg]
  clear hg hb1 hd1 CL CR
  go_wp2_with fail
  refine (C1.out).mono ?_
  rintro e w2 ⟨v2, L, rfl, hok, hlL, hSL, hd2, hg2⟩
  obtain ⟨aL, cL, eL, hcL, hrL, hnL⟩ := hSL
  have hb2 : Below g w0 w2 := HB1.out.trans ⟨hg2.os, hg2.tape, hg2.output, hg2.size, fun k hk => hg2.block k (by omega) (by simp; omega)⟩
  have hs2 : g ≤ w2.heap.size := by have := hg2.size; omega
  subst eL
  have hRV : ReqV w2 6 (.slice aL L.length cL) L := ReqV.mk' (by decide) (by decide) (needok_ok hok) hok.1 (by omega) hcL hrL
  have HOK := Lib.hid (needok_ok hok)
  have hT2 := HT.out.below hb2 hw1
  have C2 := Lib.hid (hRV.sets hT2 (by decide))
  have HRV := Lib.hid hRV; have HB2 := Lib.hid hb2
  obtain ⟨ll, hll⟩ : ∃ ll, L.length = ll := ⟨_, rfl⟩
  rw [hll] at C2 hlL HRV ⊢
  clear hok hrL hb2 hnL hd2 hg2 C1 HB1 hcL hRV hll hT2
  go_wp2_with fail
  refine (C2.out).mono ?_
  clear C2
  rintro e w3 ⟨sv, A, rfl, hnd, hmem, hsr, hb3⟩
  have HB3 := Lib.hid (HB2.out.trans (hb3.mono hs2))
  have hs3 : g ≤ w3.heap.size := by have := hb3.size; omega
  have HRV3 := Lib.hid (HRV.out.step hb3); have HND := Lib.hid hnd; have HM := Lib.hid hmem; have HSR := Lib.hid hsr
  have hlA : (A.map idx).length = A.length := List.length_map ..
  obtain ⟨ps, cs, rfl, _, _⟩ := hsr
  obtain ⟨N, hN⟩ : ∃ N, A.length = N := ⟨_, rfl⟩
  have HN := Lib.hid hN
  rw [hlA, hN] at HSR ⊢
  obtain ⟨S, hS⟩ : ∃ S, w3.heap.size = S := ⟨_, rfl⟩
  have HS := Lib.hid hS
  clear hb3 hnd hmem HRV hlA hN hS
  go_wp2_with fail
  go_loopw [7, 8] (fun cv mv wr => ∃ m : Nat, mv = .int .i64 (m : Int) ∧ m ≤ 64 ∧ cv = .int .i64 ((cntTo L m : Nat) : Int) ∧ Below w3.heap.size w3 wr) (fun _ mv _ => 64 - (intOf mv).toNat)
  case atStart => exact ⟨0, rfl, Nat.zero_le _, rfl, Below.refl _ _⟩
  case round =>
    obtain ⟨m, rfl, hm, rfl, hb⟩ := hrel
    have hcm := cntTo_le L m
    by_cases hlt : m < 64
    · have hm0 : (0 : Int) ≤ (m : Int) := by omega
      have hm1 : (m : Int) < 64 := by omega
      have hdm : decide (m < 64) = true := decide_eq_true hlt
      have hcs := cntTo_succ L m
      obtain ⟨cn, hcn⟩ : ∃ cn, cntTo L m = cn := ⟨_, rfl⟩
      rw [hcn] at hcm hcs ⊢
      have HCS := Lib.hid hcs; have HBE := Lib.hid hb
      obtain ⟨B, hB⟩ : ∃ B, wr.heap.size = B := ⟨_, rfl⟩
      have HB := Lib.hid hB
      have hr0 : Below B wr wr := Below.refl _ _
      have HR0 := Lib.hid hr0
      clear hcs hb hcn hB hr0
      go_wp2_with fail
      obtain ⟨wm, hwm⟩ : ∃ wm, wr = wm := ⟨_, rfl⟩
      rw [hwm] at HBE HB HR0 ⊢
      clear hwm
      go_loopw [9, 10] (fun sv iv wr => ∃ i : Nat, iv = .int .i64 (i : Int) ∧ i ≤ 6 ∧ wr.ownsRow B 3 1 sv (bitsTo m i).length (cellsN (bitsTo m i)) ∧ Below B wm wr) (fun _ iv _ => 6 - (intOf iv).toNat)
      case atStart => exact ⟨0, rfl, Nat.zero_le _, World.ownsRow_nil _ _ _ _, HR0.out⟩
      case round =>
        obtain ⟨i, rfl, hi6, hown, hbi⟩ := hrel
        obtain ⟨pb, cb, rfl⟩ := own_slice hown
        have hbl := bitsTo_length m i
        have hsW : B ≤ wr.heap.size := by have := hbi.size; have := HB.out; omega
        by_cases hlti : i < 6
        · have hi0' : (0 : Int) ≤ (i : Int) := by omega
          have hi1' : (i : Int) < 6 := by omega
          have hdi : decide (i < 6) = true := decide_eq_true hlti
          have hbs := bitsTo_succ m i
          have hbit := testBit_div m i
          have hdz : m / 2 ^ i < 16777216 := Nat.lt_of_le_of_lt (Nat.div_le_self _ _) (by omega)
          have hand := i64_and_one (m / 2 ^ i) hdz
          obtain ⟨d, hd⟩ : ∃ d, m / 2 ^ i = d := ⟨_, rfl⟩
          have hsr : (m : Int).fdiv ((2 : Int) ^ i) = (d : Int) := by
            rw [← hd, show (2 : Int) ^ i = ((2 ^ i : Nat) : Int) by simp]; exact Int.fdiv_eq_ediv_of_nonneg _ (Int.natCast_nonneg _)
          have hsr2 : (m : Int) / ((2 : Int) ^ i) = (d : Int) := by
            rw [← hd, show (2 : Int) ^ i = ((2 ^ i : Nat) : Int) by simp]; rfl
          rw [hd] at hand hbit
          clear hd hdz
          obtain ⟨T, hTT⟩ : ∃ T, bitsTo m i = T := ⟨_, rfl⟩
          rw [hTT] at hown hbl hbs ⊢
          obtain ⟨tl, htl⟩ : ∃ tl, T.length = tl := ⟨_, rfl⟩
          have HTL := Lib.hid htl
          rw [htl] at hown hbl ⊢
          have HO := Lib.hid hown; have HBI := Lib.hid hbi
          clear hTT htl hown hbi
          rcases Nat.mod_two_eq_zero_or_one d with hmd | hmd
          · rw [hmd] at hand hbit
            rw [hbit, if_neg (by decide), List.append_nil] at hbs
            have HBS := Lib.hid hbs
            clear hbs hbit hmd
            go_wp2_with fail
            go_roundw
            case rel => exact ⟨i + 1, by go_num, by omega, by rw [HBS.out, HTL.out]; exact HO.out, HBI.out⟩
            case measure => simp [intOf]; omega
          · rw [hmd] at hand hbit
            rw [hbit, if_pos (by decide)] at hbs
            have HBS := Lib.hid hbs
            clear hbs hbit hmd
            go_wp2_with (at_builtin; refine wpList_append_own _ rfl _ _ 33 rfl B 3 i0 (.int .i64 0) 1 8 Tryd.underlying33 hi0 hz0 hz1 hz2 rfl (by decide) _ _ _ rfl (HO.out.alloc _) ⟨wr.heap.size, 0, none⟩ 1 1 [.int .i64 (i : Int)] rfl rfl (cell_one_new _ _ _) (by simp [Value.oneCell']) (by unfold maxLen; omega) (by omega) (by simp; omega) ?_; intro v' w4 hown' hgrow _; obtain ⟨p', c', rfl⟩ := own_slice hown'; have HO2 := Lib.hid hown'; have HB4 := Lib.hid ((HBI.out.alloc hsW _).grown hgrow (by simp; omega) fun g e => (HO.out.lt g e).1); clear hown' hgrow)
            go_roundw
            case rel =>
              refine ⟨i + 1, by go_num, by omega, ?_, HB4.out⟩
              rw [HBS.out, List.length_append, HTL.out, cellsN_snoc]
              exact HO2.out
            case measure => simp [intOf]; omega
        · have hi6' : i = 6 := by omega
          subst hi6'
          rw [bitsTo_idx (by omega)] at hown ⊢
          have hres := idxR_of_own hown
          have hm6 : m < 2 ^ 6 := by omega
          have hm24 : m < 16777216 := by omega
          have hbW : Below w3.heap.size w3 wr := HBE.out.trans (hbi.mono (by have := HBE.out.size; have := HB.out; omega))
          have C3 := Lib.hid ((HRV3.out.step hbW).closed (idx_ok hm6) hres)
          rw [maskL_idx hm24] at C3
          have HBW := Lib.hid hbW
          obtain ⟨il, hil⟩ : ∃ il, (idx m).length = il := ⟨_, rfl⟩
          rw [hil] at C3 ⊢
          clear hown hres hbi hbW hil hbl
          obtain ⟨q, hq⟩ : ∃ q, clB L m = q := ⟨_, rfl⟩
          have hcs := HCS.out
          rw [hq] at C3 hcs
          have HCS := Lib.hid hcs
          clear hq hcs
          go_wp2_with fail
          refine (C3.out).mono ?_
          clear C3
          rintro e w5 ⟨rfl, hb5⟩
          have HB5 := Lib.hid (HBW.out.trans (hb5.mono HBW.out.size))
          clear hb5
          cases q
          · go_wp2_with fail
            go_roundw
            case rel => exact ⟨m + 1, by go_num, by omega, by rw [HCS.out]; rfl, HB5.out⟩
            case measure => simp [intOf]; omega
          · go_wp2_with fail
            go_roundw
            case rel => exact ⟨m + 1, by go_num, by omega, by rw [HCS.out]; first | rfl | go_num, HB5.out⟩
            case measure => simp [intOf]; omega
    · have hm64 : m = 64 := by omega
      subst hm64
      have hdm : decide (64 < 64) = false := by decide
      have hcN : cntTo L 64 = N := by rw [← HN.out]; exact cntTo_all (n := 6) HND.out HM.out
      rw [hcN]
      have HB4 := Lib.hid hb
      have HSR4 := Lib.hid (HSR.out.step hb); have HRV4 := Lib.hid (HRV3.out.step hb)
      have HBG := Lib.hid (HB3.out.trans (hb.mono hs3))
      have hsg : g ≤ wr.heap.size := by have := hb.size; omega
      obtain ⟨w4, hw4⟩ : ∃ w4, wr = w4 := ⟨_, rfl⟩
      rw [hw4] at HSR4 HRV4 HBG hsg ⊢
      have hn1 : ((N : Int) == (N : Int)) = true := by simp
      have hN64 : N ≤ 64 := by rw [← HN.out]; exact nodup_lt_length 64 _ HND.out fun x hx => ((HM.out x).1 hx).1
      clear hb hcN hcm hlt hm HB4 HSR HRV3 HB3 HB2 hw4
      rw [show ((64 : Nat) : Int) = 64 from rfl]
      go_wp2_with fail
      clear hn1
      go_loopw [79] (fun kv wr => ∃ k : Nat, kv = .int .i64 (k : Int) ∧ k ≤ N ∧ Below w4.heap.size w4 wr) (fun kv _ => N - (intOf kv).toNat)
      case atStart => exact ⟨0, rfl, Nat.zero_le _, Below.refl _ _⟩
      case round =>
        obtain ⟨k, rfl, hk, hb⟩ := hrel
        by_cases hlt : k < N
        · have hk0 : (0 : Int) ≤ (k : Int) := by omega
          have hk1 : (k : Int) < (N : Int) := by omega
          have hdk : decide (k < N) = true := decide_eq_true hlt
          have hkA : k < A.length := by rw [HN.out]; exact hlt
          obtain ⟨_, _, heq, _, hcells⟩ := HSR4.out
          obtain ⟨b, o, z, hpe, c0, hz⟩ := hcells k (by rw [List.length_map]; exact hkA)
          injection heq with e1 e2 e3
          rw [hpe] at e1
          subst e1
          have hge : (A.map idx).getD k [] = idx (A.getD k 0) := by simp [List.getD, hkA]
          rw [hge] at hz
          have hmemA : A.getD k 0 ∈ A := by rw [List.getD, List.getElem?_eq_getElem hkA]; exact List.getElem_mem hkA
          obtain ⟨x, hx⟩ : ∃ x, A.getD k 0 = x := ⟨_, rfl⟩
          rw [hx] at hz hmemA
          obtain ⟨hx6, hcl⟩ := (HM.out x).1 hmemA
          have hx24 : x < 16777216 := by omega
          have c0 := cell_later' hb c0
          have hz := hz.step hb
          have hbg := hb.mono hsg
          have C1 := (HRV4.out.step hb).closed (idx_ok hx6) hz
          have C2 := fun W (hW : Below wr.heap.size wr W) => (HRV4.out.step (hb.trans (hW.mono hb.size))).readyS (HT.out.below (HBG.out.trans ((hb.trans (hW.mono hb.size)).mono hsg)) hw1) (idx_ok hx6) (hz.step hW) (by rw [maskL_idx hx24]; exact hcl)
          have C3 := fun W (hW : Below wr.heap.size wr W) => (HRV4.out.step (hb.trans (hW.mono hb.size))).removable (HT.out.below (HBG.out.trans ((hb.trans (hW.mono hb.size)).mono hsg)) hw1) (idx_ok hx6) (hz.step hW) (by rw [maskL_idx hx24]; exact hcl)
          rw [maskL_idx hx24] at C1
          simp only [maskL_idx hx24] at C2 C3
          rw [clB_iff.2 hcl] at C1
          have hrn := rdy_nil (x := x) HOK.out (by decide) hx6
          have hvn := remL_nil HOK.out (by decide) hx6 hcl
          have hxl6 : (idx x).length ≤ 6 := pc_le hx6
          have hvl6 := remL_length L x (idx x)
          have hR24 : rdy 6 L x < 16777216 := Nat.lt_of_lt_of_le (rdy_lt 6 L x) (by decide)
          have hrl6 : (idx (rdy 6 L x)).length ≤ 6 := pc_le (rdy_lt 6 L x)
          have hback : ∀ i ∈ idx (rdy 6 L x), i < 6 ∧ ClM L (x ||| 2 ^ i) ∧ i ∈ remL L (x ||| 2 ^ i) (idx (x ||| 2 ^ i)) ∧ x ||| 2 ^ i < 2 ^ 6 := fun i hi => by
            have hr := rdy_bit.1 ((mem_idx hR24).1 hi)
            exact ⟨hr.1, cl_add HOK.out hcl hr, rem_back (by decide) hx6 hcl hr, or_lt hx6 hr.1⟩
          have HZ := Lib.hid hz; have HBACK := Lib.hid hback; have HX6 := Lib.hid hx6
          obtain ⟨pz, cz, rfl, _, _⟩ := hz
          obtain ⟨R, hR⟩ : ∃ R, idx (rdy 6 L x) = R := ⟨_, rfl⟩
          obtain ⟨V, hV⟩ : ∃ V, remL L x (idx x) = V := ⟨_, rfl⟩
          rw [hR] at hrn hrl6 HBACK
          rw [hV] at hvn hvl6
          simp only [hR] at C2
          simp only [hV] at C3
          obtain ⟨xl, hxl⟩ : ∃ xl, (idx x).length = xl := ⟨_, rfl⟩
          rw [hxl] at hrn hvn hxl6 hvl6 HZ c0
          rw [hxl] at C1
          simp only [hxl] at C2 C3
          have HRN := Lib.hid hrn; have HVN := Lib.hid hvn; have HB := Lib.hid hb; have D1 := Lib.hid C1; have D2 := Lib.hid C2; have D3 := Lib.hid C3
          clear C1 C2 C3 hrn hvn hb hbg hback hR hV hx hmemA hcl hge hcells e2 e3 hxl hR24
          go_wp2_with fail
          refine (D1.out).mono ?_
          clear D1
          rintro e w5 ⟨rfl, hb5⟩
          have HB5 := Lib.hid hb5
          have C2' := Lib.hid (D2.out w5 hb5)
          clear hb5 D2
          go_wp2_with fail
          refine (C2'.out).mono ?_
          clear C2'
          rintro e w6 ⟨r, rfl, hr, hb6⟩
          have HR := Lib.hid hr
          obtain ⟨pr, cr, rfl, _, _⟩ := hr
          have HB6 := Lib.hid (HB5.out.trans (hb6.mono HB5.out.size))
          have C3' := Lib.hid (D3.out w6 HB6.out)
          obtain ⟨rl, hrl⟩ : ∃ rl, R.length = rl := ⟨_, rfl⟩
          have HRL := Lib.hid hrl
          rw [hrl] at HR hrl6 ⊢
          clear hb6 D3 HB5 hrl
          go_wp2_with fail
          refine (C3'.out).mono ?_
          clear C3'
          rintro e w7 ⟨r2, rfl, hr2, hb7⟩
          obtain ⟨pv, cv, rfl, _, _⟩ := hr2
          have HB7 := Lib.hid (HB6.out.trans (hb7.mono HB6.out.size))
          have HR7 := Lib.hid (HR.out.step hb7)
          obtain ⟨vl, hvl⟩ : ∃ vl, V.length = vl := ⟨_, rfl⟩
          have hrn := HRN.out
          have hvn := HVN.out
          rw [← List.length_eq_zero_iff, HRL.out] at hrn
          rw [← List.length_eq_zero_iff, hvl] at hvn
          rw [hvl] at hvl6 ⊢
          obtain ⟨b1, hb1⟩ : ∃ b1, ((rl : Int) == 0) = b1 := ⟨_, rfl⟩
          obtain ⟨b2, hb2⟩ : ∃ b2, ((vl : Int) == 0) = b2 := ⟨_, rfl⟩
          have hb3 : ((xl : Int) == 6) = b1 := by
            rw [← hb1, Bool.eq_iff_iff, beq_iff_eq, beq_iff_eq]
            constructor
            · intro h; have := hrn.2 (by omega); omega
            · intro h; have := hrn.1 (by omega); omega
          have hb4 : ((xl : Int) == 0) = b2 := by
            rw [← hb2, Bool.eq_iff_iff, beq_iff_eq, beq_iff_eq]
            constructor
            · intro h; have := hvn.2 (by omega); omega
            · intro h; have := hvn.1 (by omega); omega
          clear hb7 hvl hrn hvn HRN HVN HB6 HR
          go_wp2_with fail
          have HB47 := Lib.hid (HB.out.trans (HB7.out.mono HB.out.size))
          have HZ7 := Lib.hid (HZ.out.step HB7.out)
          have hs47 : w4.heap.size ≤ w7.heap.size := HB47.out.size
          clear hb1 hb2 hb3 hb4 HB HB7 HZ c0
          go_loopw [131] (fun kv wr => ∃ j : Nat, kv = .int .i64 (j : Int) ∧ j ≤ rl ∧ Below w7.heap.size w7 wr) (fun kv _ => rl - (intOf kv).toNat)
          case atStart => exact ⟨0, rfl, Nat.zero_le _, Below.refl _ _⟩
          case round =>
            obtain ⟨j, rfl, hj, hb⟩ := hrel
            by_cases hltj : j < rl
            · have hj0 : (0 : Int) ≤ (j : Int) := by omega
              have hj1 : (j : Int) < (rl : Int) := by omega
              have hdj : decide (j < rl) = true := decide_eq_true hltj
              have hjR : j < R.length := by rw [HRL.out]; exact hltj
              obtain ⟨_, _, heq, _, hcells⟩ := HR7.out
              obtain ⟨br, orr, hpe, r0⟩ := hcells j hjR
              injection heq with e1 e2 e3
              rw [hpe] at e1
              subst e1
              have r0 := cell_later' hb r0
              have hmemR : R.getD j 0 ∈ R := SetOk.getD_mem hjR
              obtain ⟨i, hie⟩ : ∃ i, R.getD j 0 = i := ⟨_, rfl⟩
              rw [hie] at r0 hmemR
              obtain ⟨hi6, hcl2, hin, hlt6⟩ := HBACK.out i hmemR
              have hzr := HZ7.out.step hb
              have hb4r := HB47.out.trans (hb.mono hs47)
              have CWI := Lib.hid (withL_any _ (idx x) i wr ⟨(idx_ok HX6.out).asc, fun t ht => by have := (idx_ok HX6.out).low t ht; omega⟩ (by omega) hzr)
              have hwm : maskL (withL (idx x) i) = x ||| 2 ^ i := by rw [withL_mask, maskL_idx hx24]
              have CRM := Lib.hid (fun W u (hW : Below wr.heap.size wr W) (hu : IdxR W u (withL (idx x) i)) => (HRV4.out.step (hb4r.trans (hW.mono hb4r.size))).removable (HT.out.below (HBG.out.trans ((hb4r.trans (hW.mono hb4r.size)).mono hsg)) hw1) (withL_ok (idx_ok HX6.out) hi6) hu (by rw [hwm]; exact hcl2))
              simp only [hwm] at CRM
              have HB := Lib.hid hb
              obtain ⟨Vb, hVb⟩ : ∃ Vb, remL L (x ||| 2 ^ i) (idx (x ||| 2 ^ i)) = Vb := ⟨_, rfl⟩
              simp only [hVb] at CRM
              rw [hVb] at hin
              have hvbl : Vb.length ≤ 1000 := by
                rw [← hVb]
                have h1 := remL_length L (x ||| 2 ^ i) (idx (x ||| 2 ^ i))
                have h2 := idx_length (x ||| 2 ^ i)
                omega
              have HIN := Lib.hid hin
              clear hb hwm hVb hmemR hie hcells e2 e3 hzr hb4r hin hcl2
              go_wp2_with fail
              refine (CWI.out).mono ?_
              clear CWI
              rintro e w8 ⟨u, rfl, hu, hb8⟩
              have HB8 := Lib.hid hb8
              have CRM1 := Lib.hid (CRM.out w8 u hb8 hu)
              obtain ⟨pu, cu, rfl, _, _⟩ := hu
              obtain ⟨ul, hul⟩ : ∃ ul, (withL (idx x) i).length = ul := ⟨_, rfl⟩
              rw [hul] at CRM1 ⊢
              clear hb8 hul CRM
              go_wp2_with fail
              refine (CRM1.out).mono ?_
              clear CRM1
              rintro e w9 ⟨r3, rfl, hr3, hb9⟩
              have HB9 := Lib.hid (HB8.out.trans (hb9.mono HB8.out.size))
              have CH := hasN_any r3 Vb i w9 hvbl hr3
              rw [decide_eq_true HIN.out] at CH
              have CH := Lib.hid CH
              obtain ⟨p3, c3, rfl, _, _⟩ := hr3
              obtain ⟨vb, hvb2⟩ : ∃ vb, Vb.length = vb := ⟨_, rfl⟩
              rw [hvb2] at CH ⊢
              clear hb9 hvb2 hvbl r0
              go_wp2_with (go_at_call 16; refine (CH.out).mono ?_; clear CH; rintro e w10 ⟨rfl, hb10⟩; have HB10 := Lib.hid (HB9.out.trans (hb10.mono HB9.out.size)); clear hb10)
              go_roundw
              case rel => exact ⟨j + 1, by go_num, by omega, HB.out.trans (HB10.out.mono HB.out.size)⟩
              case measure => simp [intOf]; omega
            · have hjr : j = rl := by omega
              subst hjr
              have hdj : decide (j < j) = false := by simp
              have hnj : ¬ (j : Int) < (j : Int) := by omega
              have HB := Lib.hid (HB47.out.trans (hb.mono hs47))
              clear hb
              go_wp2_with fail
              go_roundw
              case rel => exact ⟨k + 1, by go_num, by omega, HB.out⟩
              case measure => simp [intOf]; omega
        · have hkN : k = N := by omega
          subst hkN
          have hdk : decide (k < k) = false := by simp
          have hnk : ¬ (k : Int) < (k : Int) := by omega
          have HB5 := Lib.hid (HBG.out.trans (hb.mono hsg))
          have HRV5 := Lib.hid (HRV4.out.step hb)
          have CF := Lib.hid (HRV5.out.first (HT.out.below HB5.out hw1))
          have hs5 : g ≤ wr.heap.size := by have := hb.size; omega
          clear hb
          go_wp2_with fail
          refine (CF.out).mono ?_
          clear CF
          rintro e w6 ⟨u, F, rfl, hF, hFl, hFu, hb6⟩
          have HB6 := Lib.hid (HB5.out.trans (hb6.mono hs5))
          have hs6 : g ≤ w6.heap.size := by have := hb6.size; omega
          have HRV6 := Lib.hid (HRV5.out.step hb6); have HF := Lib.hid hF; have HFL := Lib.hid hFl
          obtain ⟨pF, cF, rfl, _, hFc⟩ := hFu
          have HFC := Lib.hid hFc
          rw [hFl]
          clear hb6 hF hFl hFc HRV5 HB5
          go_wp2_with fail
          go_loopw [27, 160] (fun sv kv wr => ∃ (k : Nat) (sk : List Nat), kv = .int .i64 (k : Int) ∧ k ≤ 6 ∧ SetOk 6 sk ∧ maskL sk = maskL (F.take k) ∧ IdxR wr sv sk ∧ Below w6.heap.size w6 wr) (fun _ kv _ => 6 - (intOf kv).toNat)
          case atStart => exact ⟨0, [], rfl, Nat.zero_le _, setOk_nil 6, rfl, idxR_nil _, Below.refl _ _⟩
          case round =>
            obtain ⟨j, sk, rfl, hj, hsk, hmk, hsv, hb⟩ := hrel
            by_cases hltj : j < 6
            · have hj0 : (0 : Int) ≤ (j : Int) := by omega
              have hj1 : (j : Int) < 6 := by omega
              have hdj : decide (j < 6) = true := decide_eq_true hltj
              have hjF : j < F.length := by rw [HFL.out]; exact hltj
              obtain ⟨b1, o1, hp1, c0⟩ := HFC.out j hjF
              subst hp1
              have c0 := cell_later' hb c0
              have hi6 := HF.out.low _ (SetOk.getD_mem hjF)
              have htk := takeN_snoc F j hjF
              have hms := maskL_snoc (F.take j) (F.getD j 0)
              rw [← htk, ← hmk] at hms
              have hwok := withL_ok hsk hi6
              have hwm := withL_mask sk (F.getD j 0)
              rw [← hms] at hwm
              have hclk : ClM L (maskL (F.take (j + 1))) := HF.out.chn.cl HOK.out (by decide) (j + 1) (by omega)
              have C5 := Lib.hid (withL_any u27 sk (F.getD j 0) wr ⟨hsk.asc, fun i hi => by have := hsk.low i hi; omega⟩ (by omega) hsv)
              obtain ⟨i, hie⟩ : ∃ i, F.getD j 0 = i := ⟨_, rfl⟩
              rw [hie] at c0 hwok hwm C5
              have C6 := Lib.hid (fun W u (hW : Below wr.heap.size wr W) (hu : IdxR W u (withL sk i)) => (HRV6.out.step (hb.trans (hW.mono hb.size))).closed hwok hu)
              rw [hwm, clB_iff.2 hclk] at C6
              obtain ⟨pz, cz, rfl, _, _⟩ := hsv
              obtain ⟨sl, hsl⟩ : ∃ sl, sk.length = sl := ⟨_, rfl⟩
              rw [hsl] at C5 ⊢
              have HWOK := Lib.hid hwok; have HWM := Lib.hid hwm; have HB := Lib.hid hb
              clear hsl hsk hmk hb htk hms hwok hwm hie hclk hi6
              go_wp2_with fail
              refine (C5.out).mono ?_
              clear C5
              rintro e w7 ⟨u, rfl, hu, hb7⟩
              have HB7 := Lib.hid hb7
              have C7 := Lib.hid (C6.out w7 u hb7 hu)
              have HU := Lib.hid hu
              obtain ⟨pu, cu, rfl, _, _⟩ := hu
              obtain ⟨ul, hul⟩ : ∃ ul, (withL sk i).length = ul := ⟨_, rfl⟩
              rw [hul] at C7 HU ⊢
              clear hb7 hul C6 c0
              go_wp2_with fail
              refine (C7.out).mono ?_
              clear C7
              rintro e w8 ⟨rfl, hb8⟩
              have HB8 := Lib.hid (HB.out.trans ((HB7.out.trans (hb8.mono HB7.out.size)).mono HB.out.size))
              have HU8 := Lib.hid (HU.out.step hb8)
              clear hb8
              go_wp2_with fail
              go_roundw
              case rel => exact ⟨j + 1, withL sk i, by go_num, by omega, HWOK.out, HWM.out, HU8.out, HB8.out⟩
              case measure => simp [intOf]; omega
            · have hj6 : j = 6 := by omega
              subst hj6
              have hdj : decide (6 < 6) = false := by decide
              rw [List.take_of_length_le (by rw [HFL.out]; exact Nat.le_refl _)] at hmk
              have hsl : sk.length = 6 := by
                have h1 := idx_maskL hsk.asc (fun i hi => by have := hsk.low i hi; omega)
                have h2 := pc_maskL HF.out.nodup (fun i hi => by have := HF.out.low i hi; omega)
                rw [hmk] at h1
                unfold pc at h2
                rw [h1, HFL.out] at h2
                exact h2
              obtain ⟨pz, cz, rfl, _, _⟩ := hsv
              rw [hsl]
              have HB := Lib.hid (HB6.out.trans (hb.mono hs6))
              have CA := Lib.hid (awake_any wr (HT.out.below HB.out hw1))
              have hsr : g ≤ wr.heap.size := by have := hb.size; omega
              clear hb hsk hmk hsl
              go_wp2_with (go_at_call 8; refine (CA.out).mono ?_; clear CA; rintro e w9 ⟨rfl, hb9⟩; have HB9 := Lib.hid hb9; clear hb9)
              go_ret
              exact ⟨rfl, by rw [HG.out]; exact HB.out.trans (HB9.out.mono hsr)⟩
theorem setsLaw_any (w : World) (a : Option Addr) (n c : Nat) (hi : Ints w w.heap.size a n) (hT : Deb w) :
    Calls Tryd.prog 3 #[.slice a n c] w (BoolP true w) := by
  cases h : decide (n ≤ 400) with
  | false => exact setsLaw_heavy w a n c h hT
  | true => exact setsLaw_light w a n c h hi hT
end Go.Proofs.YtgeldpkopolnfaaDoor
