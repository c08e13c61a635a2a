/- OrderFirst. -/
import Derived.Test.YtgeldpkopolnfaaDoorOmR
namespace Go.Proofs.YtgeldpkopolnfaaDoor
open Go.RowKit
set_option linter.all false

theorem union1_asc (L : List Rq) (x : Rq) : AscR (unionL L [x]) := unionL_asc _ _
theorem idxR_nil (W : World) : IdxR W (.slice none 0 0) [] := ⟨none, 0, rfl, Nat.le_refl _, fun i hi => by simp at hi⟩
theorem setOk_nil (n : Nat) : SetOk n [] := ⟨List.Pairwise.nil, fun i hi => by cases hi⟩
set_option maxRecDepth 100000 in
set_option maxHeartbeats 4000000 in
theorem firstLaw_heavy (w : World) (a : Option Addr) (n c : Nat) (p q : Int) (h : decide (n ≤ 400) = false) (hT : Deb w) :
    Calls Tryd.prog 6 #[.slice a n c, .int .u8 p, .int .u8 q] w (BoolP true w) := by
  have CL := Lib.hid (light_any a n c false w h)
  have CA := Lib.hid (awake_any w hT)
  clear h
  go_enter Tryd.func6, Tryd.ntmps6
  go_wp2_with fail
  refine (CL.out).mono ?_
  rintro e w1 ⟨rfl, rfl⟩
  clear CL
  go_wp2_with fail
  refine (CA.out).mono ?_
  rintro e w2 ⟨rfl, hb⟩
  have HB := Lib.hid hb; clear hb
  go_wp2_with fail
  go_ret
  exact ⟨rfl, HB.out⟩

set_option maxRecDepth 100000 in
set_option maxHeartbeats 8000000 in
theorem firstLaw_light (w : World) (a : Option Addr) (n c : Nat) (p q : Nat) (hp : p ≤ 255) (hq : q ≤ 255) (h : decide (n ≤ 400) = true) (hi : Ints w w.heap.size a n) (hT : Deb w) :
    Calls Tryd.prog 6 #[.slice a n c, .int .u8 (p : Int), .int .u8 (q : Int)] w (BoolP true w) := by
  have CL := Lib.hid (light_any a n c true w h)
  have CR := Lib.hid (roll_any a n c w (of_decide_eq_true h) hi)
  have HT := Lib.hid hT
  have hw1 := hT.1
  clear h hi hT
  go_enter Tryd.func6, Tryd.ntmps6
  go_wp2_with fail
  refine (CL.out).mono ?_
  rintro e w0 ⟨rfl, rfl⟩
  go_wp2_with fail
  refine (CR.out).mono ?_
  rintro e w1 ⟨rfl, hd1, hb1⟩
  obtain ⟨g, hg⟩ : ∃ g, w0.heap.size = g := ⟨_, rfl⟩
  rw [hg] at hd1 hb1 hw1
  have hs0 : g < w1.heap.size := hd1.lt
  have HG := Lib.hid hg
  have HB1 := Lib.hid hb1
  have C1 := Lib.hid (needs_any w1 g 6 (by decide) (by decide) hd1)
  rw [hg]
  clear hg hb1 hd1 CL CR
  go_wp2_with fail
  refine (C1.out).mono ?_
  rintro e w2 ⟨v2, L, rfl, hok, hlL, hSL, hd2, hg2⟩
  obtain ⟨aL, cL, eL, hcL, hrL, hnL⟩ := hSL
  have hb2 : Below g w0 w2 := HB1.out.trans ⟨hg2.os, hg2.tape, hg2.output, hg2.size, fun k hk => hg2.block k (by omega) (by simp; omega)⟩
  have hs2 : g ≤ w2.heap.size := by have := hg2.size; omega
  subst eL
  have hRV : ReqV w2 6 (.slice aL L.length cL) L := ReqV.mk' (by decide) (by decide) (needok_ok hok) hok.1 (by omega) hcL hrL
  have HOK := Lib.hid (needok_ok hok); have HASC := Lib.hid hok.1
  have hT2 := HT.out.below hb2 hw1
  have C2 := Lib.hid (hRV.first hT2)
  have HRV := Lib.hid hRV; have HB2 := Lib.hid hb2
  have HUN := Lib.hid (fun W b (x : Rq) (hb : Below w2.heap.size w2 W) (hx : ReqsAt W b [x]) => refUnion_any aL b cL 1 L [x] W (by omega) (by simp) (hrL.step hb) hx)
  obtain ⟨ll, hll⟩ : ∃ ll, L.length = ll := ⟨_, rfl⟩
  have HLL := Lib.hid hll
  rw [hll] at C2 hlL HRV HUN ⊢
  clear hok hrL hb2 hnL hd2 hg2 C1 HB1 hcL hRV hll hT2
  go_wp2_with fail
  refine (C2.out).mono ?_
  clear C2
  rintro e w3 ⟨u, F, rfl, hF, hFl, hFu, hb3⟩
  have HB3 := Lib.hid (HB2.out.trans (hb3.mono hs2))
  have hs3 : g ≤ w3.heap.size := by have := hb3.size; omega
  have HRV3 := Lib.hid (HRV.out.step hb3); have HF := Lib.hid hF; have HFL := Lib.hid hFl
  have HUN3 := Lib.hid (fun W b (x : Rq) (hb : Below w3.heap.size w3 W) (hx : ReqsAt W b [x]) => HUN.out W b x (hb3.trans (hb.mono hb3.size)) hx)
  obtain ⟨pF, cF, rfl, _, hFc⟩ := hFu
  have HFC := Lib.hid hFc
  rw [hFl]
  clear hb3 hF hFl hFc HUN HRV
  go_wp2_with fail
  go_loopw [10, 43] (fun sv kv wr => ∃ (k : Nat) (sk : List Nat), kv = .int .i64 (k : Int) ∧ k ≤ 6 ∧ SetOk 6 sk ∧ maskL sk = maskL (F.take k) ∧ IdxR wr sv sk ∧ Below w3.heap.size w3 wr) (fun _ kv _ => 6 - (intOf kv).toNat)
  case atStart => exact ⟨0, [], rfl, Nat.zero_le _, setOk_nil 6, rfl, idxR_nil _, Below.refl _ _⟩
  case round =>
    obtain ⟨k, sk, rfl, hk, hsk, hmk, hsv, hb⟩ := hrel
    by_cases hlt : k < 6
    · have hk0 : (0 : Int) ≤ (k : Int) := by omega
      have hk1 : (k : Int) < 6 := by omega
      have hdk : decide (k < 6) = true := decide_eq_true hlt
      have hkF : k < F.length := by rw [HFL.out]; exact hlt
      obtain ⟨b1, o1, hp1, c0⟩ := HFC.out k hkF
      subst hp1
      have c0 := cell_later' hb c0
      have hcl : ClM L (maskL sk) := by rw [hmk]; exact HF.out.chn.cl HOK.out (by decide) k (by omega)
      have hch := HF.out.chn k hkF
      have hi6 := HF.out.low _ (SetOk.getD_mem hkF)
      have htk := takeN_snoc F k hkF
      have hms := maskL_snoc (F.take k) (F.getD k 0)
      rw [← htk, ← hmk] at hms
      rw [← hmk, List.getElem?_eq_getElem hkF] at hch
      have hge : F[k] = F.getD k 0 := by simp [List.getD, hkF]
      rw [hge] at hch
      have hwok := withL_ok hsk hi6
      have hwm := withL_mask sk (F.getD k 0)
      rw [← hms] at hwm
      have hT4 := HT.out.below (HB3.out.trans (hb.mono hs3)) hw1
      have C4 := Lib.hid ((HRV3.out.step hb).readyS hT4 hsk hsv hcl)
      have C5 := Lib.hid (fun W (hW : Below wr.heap.size wr W) => withL_any u10 sk (F.getD k 0) W ⟨hsk.asc, fun i hi => by have := hsk.low i hi; omega⟩ (by omega) (hsv.step hW))
      obtain ⟨i, hi⟩ : ∃ i, F.getD k 0 = i := ⟨_, rfl⟩
      rw [hi] at c0 hch hwok hwm C5 hi6
      obtain ⟨ps, cs, rfl, _, _⟩ := hsv
      obtain ⟨sl, hsl⟩ : ∃ sl, sk.length = sl := ⟨_, rfl⟩
      rw [hsl] at C4 C5 ⊢
      have HCH := Lib.hid hch; have HWOK := Lib.hid hwok; have HWM := Lib.hid hwm; have HBE := Lib.hid hb
      clear hsl hsk hmk hb hcl hch htk hms hge hwok hwm hT4 hi
      go_wp2_with fail
      refine (C4.out).mono ?_
      clear C4
      rintro e w4 ⟨r, rfl, hr, hb4⟩
      -- the head
      have hch := HCH.out
      obtain ⟨rest, hid⟩ : ∃ rest, idx (rdy 6 L (maskL sk)) = i :: rest := by
        cases hid : idx (rdy 6 L (maskL sk)) with
        | nil => rw [hid] at hch; cases hch
        | cons x t => rw [hid] at hch; injection hch with hch; exact ⟨t, by rw [hch]⟩
      rw [hid] at hr
      obtain ⟨pr, cr, rfl, _, hrc⟩ := hr
      obtain ⟨br, orr, hpr, r0⟩ := hrc 0 (by simp)
      subst hpr
      rw [show (i :: rest).getD 0 0 = i from rfl, Nat.add_zero] at r0
      have hrl : (i :: rest).length = rest.length + 1 := rfl
      rw [hrl]
      obtain ⟨rl, hrl2⟩ : ∃ rl, rest.length = rl := ⟨_, rfl⟩
      rw [hrl2]
      have HB4 := Lib.hid (HBE.out.trans (hb4.mono HBE.out.size))
      have C6 := Lib.hid (C5.out w4 hb4)
      have g1 : ¬ ((rl : Int) + 1 = 0) := by omega
      have g2 : (((rl : Int) + 1) == 0) = false := by simp; omega
      have g3 : ¬ (((rl + 1 : Nat) : Int) = 0) := by omega
      have g4 : ((((rl + 1 : Nat) : Int)) == 0) = false := by simp; omega
      have g5 : (0 : Int) < (rl : Int) + 1 := by omega
      have g6 : (0 : Int) < ((rl + 1 : Nat) : Int) := by omega
      clear hb4 hch hid hrc hrl hrl2 C5 HCH
      go_wp2_with fail
      refine (C6.out).mono ?_
      clear C6
      rintro e w5 ⟨u, rfl, hu, hb5⟩
      have HB5 := Lib.hid (HB4.out.trans (hb5.mono HB4.out.size))
      have HU := Lib.hid hu
      obtain ⟨pu, cu, rfl, _, _⟩ := hu
      obtain ⟨ul, hul⟩ : ∃ ul, (withL sk i).length = ul := ⟨_, rfl⟩
      rw [hul] at HU ⊢
      clear hb5 hul r0 c0 g1 g2 g3 g4 g5 g6
      go_wp2_with fail
      go_roundw
      case rel => exact ⟨k + 1, withL sk i, by go_num, by omega, HWOK.out, HWM.out, HU.out, HB5.out⟩
      case measure => simp [intOf]; omega
    · have hk6 : k = 6 := by omega
      subst hk6
      have hdm : decide (6 < 6) = false := by decide
      have HB4 := Lib.hid hb
      clear hb hsk hmk hsv
      obtain ⟨P, hP⟩ : ∃ P, p % 6 = P := ⟨_, rfl⟩
      obtain ⟨Q, hQ⟩ : ∃ Q, q % 6 = Q := ⟨_, rfl⟩
      have hP6 : P < 6 := by omega
      have hQ6 : Q < 6 := by omega
      have f7 : (p : Int) % 6 = (P : Int) := by rw [← hP]; omega
      have f8 : (q : Int) % 6 = (Q : Int) := by rw [← hQ]; omega
      have f1 : (p : Int).tmod 6 = (P : Int) := (Int.tmod_eq_emod_of_nonneg (by omega)).trans f7
      have f2 : (q : Int).tmod 6 = (Q : Int) := (Int.tmod_eq_emod_of_nonneg (by omega)).trans f8
      have f3 : IntKind.u8.wrap (P : Int) = (P : Int) := IntWalk.u8_in _ (by omega)
      have f4 : IntKind.u8.wrap (Q : Int) = (Q : Int) := IntWalk.u8_in _ (by omega)
      have f5 : IntKind.i64.wrap (P : Int) = (P : Int) := IntWalk.i64_in _ (by omega)
      have f6 : IntKind.i64.wrap (Q : Int) = (Q : Int) := IntWalk.i64_in _ (by omega)
      have hone := one_at wr ((P : Int), (Q : Int))
      have hb5 := HB4.out.alloc HB4.out.size (.cells #[.int .i64 (P : Int), .int .i64 (Q : Int)] 47)
      have CU := Lib.hid (HUN3.out _ _ ((P : Int), (Q : Int)) hb5 hone)
      have HB5 := Lib.hid hb5
      clear hone hb5 hP hQ HB4 hlt hk
      go_wp2_with fail
      clear f1 f2 f3 f4 f5 f6 f7 f8
      generalize wr.alloc (.cells #[.int .i64 (P : Int), .int .i64 (Q : Int)] 47) = w5 at *
      refine (CU.out).mono ?_
      clear CU
      rintro e w6 ⟨aU, cU, rfl, hcU, hrU, hb6, _⟩
      have hmU := union1_mem (L := L) (p := P) (q := Q)
      have hlU : (unionL L [((P : Int), (Q : Int))]).length ≤ 101 := union1_length (by rw [HLL.out]; omega)
      have hinU := inn_more hmU HOK.out.inn hP6 hQ6
      have hascU := union1_asc L ((P : Int), (Q : Int))
      have hsub : ∀ x ∈ L, x ∈ unionL L [((P : Int), (Q : Int))] := fun x hx => (hmU x).2 (.inl hx)
      have HB6 := Lib.hid (HB5.out.trans (hb6.mono HB5.out.size))
      generalize unionL L [((P : Int), (Q : Int))] = U at *
      have C7 := Lib.hid ((HRV3.out.step HB6.out).sets (HT.out.below (HB3.out.trans (HB6.out.mono hs3)) hw1) (by decide))
      have HRU := Lib.hid hrU; have HIN := Lib.hid hinU; have HAS := Lib.hid hascU; have HSUB := Lib.hid hsub; have HLU := Lib.hid hlU; have HCU := Lib.hid hcU
      obtain ⟨ul, hul⟩ : ∃ ul, U.length = ul := ⟨_, rfl⟩
      have HUL := Lib.hid hul
      rw [hul]
      clear hcU hrU hb6 hmU hlU hinU hascU hsub HB5 hul HUN3
      go_wp2_with fail
      refine (C7.out).mono ?_
      clear C7
      rintro e w7 ⟨s1, A1, rfl, hnd1, hm1, hs1, hb7⟩
      have HB7 := Lib.hid (HB6.out.trans (hb7.mono HB6.out.size))
      have HRU7 := Lib.hid (HRU.out.step hb7)
      have HS1 := Lib.hid hs1; have HM1 := Lib.hid hm1; have HN1 := Lib.hid hnd1
      have hl1 : (A1.map idx).length = A1.length := List.length_map ..
      obtain ⟨p1, c1, rfl, _, _⟩ := hs1
      obtain ⟨n1, hn1⟩ : ∃ n1, A1.length = n1 := ⟨_, rfl⟩
      have HL1 := Lib.hid hn1
      rw [hl1, hn1] at HS1 ⊢
      clear hb7 hm1 hnd1 HRU HB6 hl1 hn1
      by_cases hU : Ok 6 U
      · have hRVU : ReqV w7 6 (.slice aU U.length cU) U := ReqV.mk' (by decide) (by decide) hU HAS.out (by have := HLU.out; omega) HCU.out HRU7.out
        rw [HUL.out] at hRVU
        have C8 := Lib.hid (hRVU.sets (HT.out.below (HB3.out.trans (HB7.out.mono hs3)) hw1) (by decide))
        have HRV7 := Lib.hid hRVU; have HOU := Lib.hid hU
        clear hRVU hU
        go_wp2_with fail
        refine (C8.out).mono ?_
        clear C8
        rintro e w8 ⟨s2, A2, rfl, hnd2, hm2, hs2', hb8⟩
        have HB8 := Lib.hid (HB7.out.trans (hb8.mono HB7.out.size))
        have hs18 := HS1.out.step hb8
        have C9 := Lib.hid (HRV7.out.chk w8 hb8)
        have hl2 : (A2.map idx).length = A2.length := List.length_map ..
        have hS2 := hs2'
        obtain ⟨p2, c2, rfl, _, _⟩ := hs2'
        obtain ⟨n2, hn2⟩ : ∃ n2, A2.length = n2 := ⟨_, rfl⟩
        have h12 : n2 ≤ n1 := by
          rw [← hn2, ← HL1.out]
          exact nodup_sub_length hnd2 HN1.out fun x hx => by
            obtain ⟨h1, h2⟩ := (hm2 x).1 hx
            exact (HM1.out x).2 ⟨h1, h2.sub HSUB.out⟩
        have h27 : 7 ≤ n2 := by rw [← hn2]; exact closed_many HOU.out (by decide) hnd2 hm2
        have hlim : n1 ≤ 64 := by rw [← HL1.out]; exact nodup_lt_length 64 _ HN1.out fun x hx => ((HM1.out x).1 hx).1
        have hin : ∀ x ∈ A2, x ∈ A1 := fun x hx => by
          obtain ⟨h1, h2⟩ := (hm2 x).1 hx
          exact (HM1.out x).2 ⟨h1, h2.sub HSUB.out⟩
        have HIN2 := Lib.hid hin; have HS2 := Lib.hid hS2; have HS18 := Lib.hid hs18; have HN2 := Lib.hid hn2
        rw [hl2, hn2] at HS2 ⊢
        clear hb8 hnd2 hm2 hS2 hs18 hl2 hn2 hin HRV7
        go_wp2_with fail
        refine (C9.out).mono ?_
        clear C9
        rintro e w9 ⟨rfl, hb9⟩
        have HB9 := Lib.hid (HB8.out.trans (hb9.mono HB8.out.size))
        have hS1 := HS18.out.step hb9
        have hS2 := HS2.out.step hb9
        have HS29 := Lib.hid hS2
        have CI := Lib.hid (fun W v l (hW : Below w9.heap.size w9 W) (hl : l.length ≤ 1000) (hv : IdxR W v l) => in_any _ (A1.map idx) v l W (by rw [List.length_map, HL1.out]; omega) (fun l hl => by obtain ⟨x, _, rfl⟩ := List.mem_map.1 hl; have := idx_length x; omega) hl (hS1.step hW) hv)
        have HBG := Lib.hid (HB3.out.trans (HB9.out.mono hs3))
        clear hb9 hS1 hS2 HB8 HB7
        go_wp2_with fail
        go_loopw [101] (fun kv wr => ∃ k : Nat, kv = .int .i64 (k : Int) ∧ k ≤ n2 ∧ Below w9.heap.size w9 wr) (fun kv _ => n2 - (intOf kv).toNat)
        case atStart => exact ⟨0, rfl, Nat.zero_le _, Below.refl _ _⟩
        case round =>
          obtain ⟨k, rfl, hk, hb⟩ := hrel
          by_cases hlt : k < n2
          · have hk0 : (0 : Int) ≤ (k : Int) := by omega
            have hk1 : (k : Int) < (n2 : Int) := by omega
            have hdk : decide (k < n2) = true := decide_eq_true hlt
            have hkA : k < A2.length := by rw [HN2.out]; exact hlt
            obtain ⟨_, _, heq, _, hcells⟩ := HS29.out
            obtain ⟨b, o, z, hpe, c0, hz⟩ := hcells k (by rw [List.length_map]; exact hkA)
            injection heq with e1 e2 e3
            rw [hpe] at e1
            subst e1
            have hge : (A2.map idx).getD k [] = idx (A2.getD k 0) := by simp [List.getD, hkA]
            rw [hge] at hz
            have hmem : A2.getD k 0 ∈ A2 := by rw [List.getD, List.getElem?_eq_getElem hkA]; exact List.getElem_mem hkA
            obtain ⟨x, hx⟩ : ∃ x, A2.getD k 0 = x := ⟨_, rfl⟩
            rw [hx] at hz hmem
            have c0 := cell_later' hb c0
            have hz := hz.step hb
            have C1 := CI.out wr z (idx x) hb (by have := idx_length x; omega) hz
            rw [decide_eq_true (List.mem_map_of_mem (HIN2.out x hmem))] at C1
            have C1 := Lib.hid C1
            have HBE := Lib.hid hb
            obtain ⟨pz, cz, rfl, _, _⟩ := hz
            generalize (idx x).length = zl at *
            clear hb hge hmem hx e2 e3 hcells
            go_wp2_with fail
            refine (C1.out).mono ?_
            clear C1
            rintro e w10 ⟨rfl, hb10⟩
            have HB10 := Lib.hid (HBE.out.trans (hb10.mono HBE.out.size))
            clear hb10
            go_wp2_with fail
            go_roundw
            case rel => exact ⟨k + 1, by go_num, by omega, HB10.out⟩
            case measure => simp [intOf]; omega
          · have hkn : k = n2 := by omega
            subst hkn
            have hdk : decide (k < k) = false := by simp
            have hnk : ¬ (k : Int) < (k : Int) := by omega
            have g1 : (k : Int) ≤ (n1 : Int) := by omega
            have g2 : decide (k ≤ n1) = true := decide_eq_true h12
            have g3 : (7 : Int) ≤ (k : Int) := by omega
            have g4 : decide (7 ≤ k) = true := decide_eq_true h27
            have hBW := HBG.out.trans (hb.mono (by rw [← HG.out]; exact HBG.out.size))
            have CA := Lib.hid (awake_any wr (HT.out.below hBW hw1))
            have HBW := Lib.hid hBW
            have hgs : g ≤ wr.heap.size := by rw [← HG.out]; exact hBW.size
            have HGS := Lib.hid hgs
            clear hb hBW hgs
            go_wp2_with (go_at_call 8; refine (CA.out).mono ?_; clear CA; rintro e w11 ⟨rfl, hb11⟩; have HB11 := Lib.hid hb11; clear hb11)
            go_ret
            exact ⟨rfl, by rw [HG.out]; exact HBW.out.trans (HB11.out.mono HGS.out)⟩
      · have C8 := Lib.hid (sets_bad aU cU U 6 w7 (by decide) (by decide) HIN.out HAS.out hU (by have := HLU.out; omega) HRU7.out)
        have C9 := Lib.hid (fun W (hb : Below w7.heap.size w7 W) => check_any aU cU U 6 W (by decide) (by decide) HIN.out HAS.out (by have := HLU.out; omega) (HRU7.out.step hb))
        have HBD := Lib.hid (fun r (hr : ChkR 6 U r) => hr.bad HIN.out hU)
        rw [HUL.out] at C8 C9
        clear hU
        go_wp2_with fail
        refine (C8.out).mono ?_
        clear C8
        rintro e w8 ⟨r, hr0, rfl, hb8⟩
        have HB8 := Lib.hid (HB7.out.trans (hb8.mono HB7.out.size))
        have C10 := Lib.hid (C9.out w8 hb8)
        have g1 : (r == 0) = false := by simpa using hr0
        have HR0 := Lib.hid hr0
        clear hb8 hr0 C9
        go_wp2_with fail
        refine (C10.out).mono ?_
        clear C10
        rintro e w9 ⟨r2, rfl, hr2, hb9⟩
        have hr20 := HBD.out r2 hr2
        have g2 : (r2 == 0) = false := by simpa using hr20
        have HB9 := Lib.hid (HB8.out.trans (hb9.mono HB8.out.size))
        have hBW := HB3.out.trans (HB9.out.mono hs3)
        have CA := Lib.hid (awake_any w9 (HT.out.below hBW hw1))
        have HBW := Lib.hid hBW
        have hgs : g ≤ w9.heap.size := by rw [← HG.out]; exact hBW.size
        have HGS := Lib.hid hgs
        have hr0 := HR0.out
        clear hb9 hr2 hBW hgs
        go_wp2_with (go_at_call 8; refine (CA.out).mono ?_; clear CA; rintro e w11 ⟨rfl, hb11⟩; have HB11 := Lib.hid hb11; clear hb11)
        go_ret
        refine ⟨?_, by rw [HG.out]; exact HBW.out.trans (HB11.out.mono HGS.out)⟩
        show Ending.returned (.bool (r != 0)) = Ending.returned (.bool true)
        rw [show (r != 0) = true by simpa using HR0.out]
theorem firstLaw_any (w : World) (a : Option Addr) (n c : Nat) (p q : Int) (hp : 0 ≤ p ∧ p ≤ 255) (hq : 0 ≤ q ∧ q ≤ 255) (hi : Ints w w.heap.size a n) (hT : Deb w) :
    Calls Tryd.prog 6 #[.slice a n c, .int .u8 p, .int .u8 q] w (BoolP true w) := by
  cases h : decide (n ≤ 400) with
  | false => exact firstLaw_heavy w a n c p q h hT
  | true =>
    obtain ⟨p, rfl⟩ := Int.eq_ofNat_of_zero_le hp.1
    obtain ⟨q, rfl⟩ := Int.eq_ofNat_of_zero_le hq.1
    exact firstLaw_light w a n c p q (by omega) (by omega) h hi hT
end Go.Proofs.YtgeldpkopolnfaaDoor
