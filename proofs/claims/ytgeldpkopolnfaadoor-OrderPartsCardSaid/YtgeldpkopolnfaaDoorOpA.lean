/- OrderParts. -/
import Derived.Test.YtgeldpkopolnfaaDoorOpM
namespace Go.Proofs.YtgeldpkopolnfaaDoor
open Go.RowKit
set_option linter.all false

theorem map_idx_mem {T : List Nat} {t : Nat} (h24 : ∀ x ∈ T, x < 16777216) (ht : t < 16777216) : decide (idx t ∈ T.map idx) = decide (t ∈ T) := by
  rw [decide_eq_decide, List.mem_map]
  constructor
  · rintro ⟨x, hx, e⟩
    rw [← bits_ext (h24 x hx) ht e]; exact hx
  · intro h; exact ⟨t, h, rfl⟩
/-- What is wanted so far, in memory. -/
def WantAt (S : Nat) (W : World) (v : Value) (T : List Nat) : Prop := ∃ vs : List Value, W.ownsRow S 33 1 v T.length vs ∧ ∀ j, j < T.length → W.ownsRow S 3 1 (vs.getD j undef) (idx (T.getD j 0)).length (cellsN (idx (T.getD j 0)))
theorem WantAt.later {S : Nat} {W W' : World} {v : Value} {T : List Nat} (h : WantAt S W v T) (hb : Below W.heap.size W W') : WantAt S W' v T := by
  obtain ⟨vs, h1, h2⟩ := h
  exact ⟨vs, World.ownsRow.later h1 hb, fun j hj => World.ownsRow.later (h2 j hj) hb⟩
theorem WantAt.sets {S : Nat} {W : World} {v : Value} {T : List Nat} (h : WantAt S W v T) : SetsR W v (T.map idx) := by
  obtain ⟨vs, h1, h2⟩ := h
  refine setsR_of_own (b3 := S) (by rw [List.length_map]; exact h1) fun j hj => ?_
  rw [List.length_map] at hj
  have e : (T.map idx).getD j [] = idx (T.getD j 0) := by simp [List.getD, hj]
  rw [e]
  exact h2 j hj
theorem WantAt.nil (S : Nat) (W : World) : WantAt S W (.slice none 0 0) [] := ⟨[], World.ownsRow_nil _ _ _ _, fun j hj => by simp at hj⟩
set_option maxRecDepth 100000 in
set_option maxHeartbeats 4000000 in
theorem partsLaw_heavy (w : World) (a : Option Addr) (n c : Nat) (h : decide (n ≤ 400) = false) (hT : Deb w) :
    Calls Tryd.prog 4 #[.slice a n c] w (BoolP true w) := by
  have CL := Lib.hid (light_any a n c false w h)
  have CA := Lib.hid (awake_any w hT)
  clear h
  go_enter Tryd.func4, Tryd.ntmps4
  go_wp2_with fail
  refine (CL.out).mono ?_
  rintro e w1 ⟨rfl, rfl⟩
  clear CL
  go_wp2_with fail
  refine (CA.out).mono ?_
  rintro e w2 ⟨rfl, hb⟩
  have HB := Lib.hid hb; clear hb
  go_wp2_with fail
  go_ret
  exact ⟨rfl, HB.out⟩

set_option maxRecDepth 100000 in
set_option maxHeartbeats 8000000 in
theorem partsLaw_light (w : World) (a : Option Addr) (n c : Nat) (h : decide (n ≤ 400) = true) (hi : Ints w w.heap.size a n) (hT : Deb w) :
    Calls Tryd.prog 4 #[.slice a n c] w (BoolP true w) := by
  have CL := Lib.hid (light_any a n c true w h)
  have CR := Lib.hid (roll_any a n c w (of_decide_eq_true h) hi)
  have HT := Lib.hid hT
  have hw1 := hT.1
  obtain ⟨i0, hi0, hz0, hz1, hz2⟩ := info_parts info3
  obtain ⟨i1, hi1, hz01, hz11, hz21⟩ := info_parts info33
  clear h hi hT
  go_enter Tryd.func4, Tryd.ntmps4
  go_wp2_with fail
  refine (CL.out).mono ?_
  rintro e w0 ⟨rfl, rfl⟩
  go_wp2_with fail
  refine (CR.out).mono ?_
  rintro e w1 ⟨rfl, hd1, hb1⟩
  obtain ⟨g, hg⟩ : ∃ g, w0.heap.size = g := ⟨_, rfl⟩
  rw [hg] at hd1 hb1 hw1
  have hs0 : g < w1.heap.size := hd1.lt
  have HG := Lib.hid hg
  have HB1 := Lib.hid hb1
  have C1 := Lib.hid (needs_any w1 g 6 (by decide) (by decide) hd1)
  rw [hg]
  clear hg hb1 hd1 CL CR
  go_wp2_with fail
  refine (C1.out).mono ?_
  rintro e w2 ⟨v2, L, rfl, hok, hlL, hSL, hd2, hg2⟩
  obtain ⟨aL, cL, eL, hcL, hrL, hnL⟩ := hSL
  have hs2 : g < w2.heap.size := hd2.lt
  subst eL
  have C2 := Lib.hid (set_any w2 g 6 (by decide) hd2)
  have hb2 : Below g w0 w2 := HB1.out.trans ⟨hg2.os, hg2.tape, hg2.output, hg2.size, fun k hk => hg2.block k (by omega) (by simp; omega)⟩
  have HB2 := Lib.hid hb2; have HOKN := Lib.hid hok; have HRL := Lib.hid hrL; have HNL := Lib.hid hnL
  obtain ⟨ll, hll⟩ : ∃ ll, L.length = ll := ⟨_, rfl⟩
  have HLL := Lib.hid hll
  rw [hll] at hlL hcL ⊢
  clear hok hrL hb2 hnL hd2 hg2 C1 HB1 hll
  go_wp2_with fail
  refine (C2.out).mono ?_
  clear C2
  rintro e w3 ⟨vs, sl, rfl, hsl, hso, hg3⟩
  have hb3 : Below g w0 w3 := HB2.out.trans ⟨hg3.os, hg3.tape, hg3.output, hg3.size, fun k hk => hg3.block k (by omega) (by simp; omega)⟩
  have hs3 : g ≤ w3.heap.size := by have := hg3.size; omega
  have hRV : ReqV w3 6 (.slice aL L.length cL) L := ReqV.mk' (by decide) (by decide) (needok_ok HOKN.out) HOKN.out.1 (by rw [HLL.out]; omega) (by rw [HLL.out]; exact hcL) (HRL.out.grown hg3 HNL.out)
  have HOK := Lib.hid (needok_ok HOKN.out)
  have hsr := idxR_of_own hso
  have C3 := Lib.hid (hRV.part (by decide) hsl hsr)
  have HSL := Lib.hid hsl; have HSR := Lib.hid hsr; have HRV := Lib.hid hRV; have HB3 := Lib.hid hb3
  have hm6 := hsl.length
  obtain ⟨ps, cs, rfl⟩ := own_slice hso
  obtain ⟨M, hM⟩ : ∃ M, sl.length = M := ⟨_, rfl⟩
  have HM := Lib.hid hM
  rw [hM] at hm6
  rw [hM] at C3 HSR ⊢
  rw [HLL.out] at C3 HRV
  clear hsl hso hg3 hb3 hRV hsr hM HRL HNL HB2
  go_wp2_with fail
  refine (C3.out).mono ?_
  clear C3
  rintro e w4 ⟨aP, cP, P, rfl, hcP, hrP, hP, hb4⟩
  have HB4 := Lib.hid (HB3.out.trans (hb4.mono hs3))
  have hs4 : g ≤ w4.heap.size := by have := hb4.size; omega
  have HRV4 := Lib.hid (HRV.out.step hb4); have HSR4 := Lib.hid (HSR.out.step hb4)
  have hRP : ReqV w4 sl.length (.slice aP P.length cP) P := ReqV.part' hP HOK.out HSL.out (by decide) hcP hrP
  have HP := Lib.hid hP
  rw [HM.out] at hRP
  have C4 := Lib.hid (hRP.sets (HT.out.below HB4.out hw1) (by omega))
  obtain ⟨pl, hpl⟩ : ∃ pl, P.length = pl := ⟨_, rfl⟩
  rw [hpl] at C4 ⊢
  clear hcP hrP hP hb4 hRP hpl HRV HSR HB3
  go_wp2_with fail
  refine (C4.out).mono ?_
  clear C4
  rintro e w5 ⟨v1, As, rfl, hnd1, hm1, hs1, hb5⟩
  have HB5 := Lib.hid (HB4.out.trans (hb5.mono hs4))
  have hs5 : g ≤ w5.heap.size := by have := hb5.size; omega
  have HRV5 := Lib.hid (HRV4.out.step hb5); have HSR5 := Lib.hid (HSR4.out.step hb5)
  have HN1 := Lib.hid hnd1; have HM1 := Lib.hid hm1; have HS1 := Lib.hid hs1
  have hl1 : (As.map idx).length = As.length := List.length_map ..
  obtain ⟨p1, c1, rfl, _, _⟩ := hs1
  obtain ⟨n1, hn1⟩ : ∃ n1, As.length = n1 := ⟨_, rfl⟩
  have HL1 := Lib.hid hn1
  rw [hl1, hn1] at HS1 ⊢
  have C5 := Lib.hid (HRV5.out.sets (HT.out.below HB5.out hw1) (by decide))
  clear hnd1 hm1 hb5 hl1 hn1 HRV4 HSR4 HB4
  go_wp2_with fail
  refine (C5.out).mono ?_
  clear C5
  rintro e w6 ⟨v2, A, rfl, hnd, hm, hs, hb6⟩
  have HB6 := Lib.hid (HB5.out.trans (hb6.mono hs5))
  have hs6 : g ≤ w6.heap.size := by have := hb6.size; omega
  have HSR6 := Lib.hid (HSR5.out.step hb6); have HS16 := Lib.hid (HS1.out.step hb6)
  have HNA := Lib.hid hnd; have HMA := Lib.hid hm; have HSA := Lib.hid hs
  have hlA : (A.map idx).length = A.length := List.length_map ..
  obtain ⟨p2, c2, rfl, _, _⟩ := hs
  obtain ⟨N, hN⟩ : ∃ N, A.length = N := ⟨_, rfl⟩
  have HN := Lib.hid hN
  rw [hlA, hN] at HSA ⊢
  have hN64 : N ≤ 64 := by rw [← hN]; exact nodup_lt_length 64 _ hnd fun x hx => ((hm x).1 hx).1
  -- the traces are the closed sets of the part
  have htr : ∀ t, t ∈ trsOf sl A ↔ t ∈ As := fun t => by
    rw [(trsOf_spec sl A).2, HM1.out, ← HM.out]
    constructor
    · rintro ⟨x, hx, rfl⟩
      obtain ⟨h1, h2⟩ := (hm x).1 hx
      exact ⟨trM_lt _ _, (traces HOK.out HSL.out HP.out (trM_lt _ _)).2 ⟨x, h1, h2, rfl⟩⟩
    · rintro ⟨h1, h2⟩
      obtain ⟨x, hx, hc, e⟩ := (traces HOK.out HSL.out HP.out h1).1 h2
      exact ⟨x, (hm x).2 ⟨hx, hc⟩, e.symm⟩
  have HTR := Lib.hid htr
  obtain ⟨S, hS⟩ : ∃ S, w6.heap.size = S := ⟨_, rfl⟩
  have HS := Lib.hid hS
  have HBS := Lib.hid (show Below S w6 w6 from Below.refl _ _)
  have hS6 : g ≤ S := by rw [← hS]; exact hs6
  clear hnd hm hb6 hlA hN hS htr HRV5 HSR5 HB5 HS1
  go_wp2_with fail
  go_loopw [12, 56] (fun wv kv wr => ∃ k : Nat, kv = .int .i64 (k : Int) ∧ k ≤ N ∧ WantAt S wr wv (trsOf sl (A.take k)) ∧ Below S w6 wr) (fun _ kv _ => N - (intOf kv).toNat)
  case atStart => exact ⟨0, rfl, Nat.zero_le _, WantAt.nil _ _, HBS.out⟩
  case round =>
    obtain ⟨k, rfl, hk, hW, hb⟩ := hrel
    have hsW : S ≤ wr.heap.size := by have := hb.size; have := HS.out; omega
    have hbS : Below w6.heap.size w6 wr := by rw [HS.out]; exact hb
    by_cases hlt : k < N
    · have hk0 : (0 : Int) ≤ (k : Int) := by omega
      have hk1 : (k : Int) < (N : Int) := by omega
      have hdk : decide (k < N) = true := decide_eq_true hlt
      have hkA : k < A.length := by rw [HN.out]; exact hlt
      obtain ⟨_, _, heq, _, hcells⟩ := HSA.out
      obtain ⟨b, o, z, hpe, c0, hz⟩ := hcells k (by rw [List.length_map]; exact hkA)
      injection heq with e1 e2 e3
      rw [hpe] at e1
      subst e1
      have hge : (A.map idx).getD k [] = idx (A.getD k 0) := by simp [List.getD, hkA]
      rw [hge] at hz
      have hmemA : A.getD k 0 ∈ A := SetOk.getD_mem hkA
      have htk := trsOf_snoc sl (A.take k) (A.getD k 0)
      rw [← takeN_snoc A k hkA] at htk
      obtain ⟨x, hx⟩ : ∃ x, A.getD k 0 = x := ⟨_, rfl⟩
      rw [hx] at hz hmemA htk
      have hx6 := ((HMA.out x).1 hmemA).1
      have hx24 : x < 16777216 := by omega
      have c0 := cell_later' hbS c0
      have hz := hz.step hbS
      have hxl := idx_length x
      have HZ := Lib.hid hz
      obtain ⟨pz, cz, rfl, _, _⟩ := hz
      obtain ⟨xl, hxl2⟩ : ∃ xl, (idx x).length = xl := ⟨_, rfl⟩
      rw [hxl2] at HZ c0
      have hsk := trsOf_spec sl (A.take k)
      have hTb : (∀ t ∈ trsOf sl (A.take k), t < 16777216) ∧ (trsOf sl (A.take k)).length ≤ 64 := by
        have h1 : ∀ t ∈ trsOf sl (A.take k), t < 64 := fun t ht => by
          obtain ⟨y, _, rfl⟩ := (hsk.2 t).1 ht
          have h2 := trM_lt sl y
          rw [HM.out] at h2
          exact Nat.lt_of_lt_of_le h2 (Nat.pow_le_pow_right (n := 2) (by decide) (j := 6) hm6)
        exact ⟨fun t ht => by have := h1 t ht; omega, nodup_lt_length 64 _ hsk.1 h1⟩
      obtain ⟨T, hTe⟩ : ∃ T, trsOf sl (A.take k) = T := ⟨_, rfl⟩
      rw [hTe] at hW htk hTb
      have HW := Lib.hid hW; have HTK := Lib.hid htk; have HTB := Lib.hid hTb; have HBE := Lib.hid hb
      obtain ⟨pw, cw, rfl⟩ := (show ∃ p c, u12 = .slice p T.length c by obtain ⟨vs, h1, _⟩ := hW; exact own_slice h1)
      obtain ⟨tl, htl⟩ : ∃ tl, T.length = tl := ⟨_, rfl⟩
      have HTL := Lib.hid htl
      rw [htl] at HW ⊢
      have HSRr := Lib.hid (HSR6.out.step hbS); have HS1r := Lib.hid (HS16.out.step hbS)
      have hbg : Below g w0 wr := HB6.out.trans (hbS.mono hs6)
      have HBG := Lib.hid hbg
      obtain ⟨B, hB⟩ : ∃ B, wr.heap.size = B := ⟨_, rfl⟩
      have HBB := Lib.hid hB
      have HR0 := Lib.hid (show Below B wr wr from Below.refl _ _)
      have hSB : S ≤ B := by rw [← hB]; exact hsW
      clear hW htk hTb hb hbS hcells hge hmemA hx hsk hTe htl hxl hxl2 e2 e3 hbg hB hsW
      go_wp2_with fail
      obtain ⟨wm, hwm⟩ : ∃ wm, wr = wm := ⟨_, rfl⟩
      rw [hwm] at HZ HW HSRr HS1r HBB HR0 HBE HBG ⊢
      clear hwm c0
      go_loopw [15, 62] (fun yv jv wr => ∃ j : Nat, jv = .int .i64 (j : Int) ∧ j ≤ M ∧ wr.ownsRow B 3 1 yv (trTo sl x j).length (cellsN (trTo sl x j)) ∧ Below B wm wr) (fun _ jv _ => M - (intOf jv).toNat)
      case atStart => exact ⟨0, rfl, Nat.zero_le _, World.ownsRow_nil _ _ _ _, HR0.out⟩
      case round =>
        obtain ⟨j, rfl, hj, hown, hbi⟩ := hrel
        obtain ⟨py, cy, rfl⟩ := own_slice hown
        have hyl := trTo_length sl x j
        have hsW : B ≤ wr.heap.size := by have := hbi.size; have := HBB.out; omega
        have hbi' : Below wm.heap.size wm wr := by rw [HBB.out]; exact hbi
        by_cases hltj : j < M
        · have hj0 : (0 : Int) ≤ (j : Int) := by omega
          have hj1 : (j : Int) < (M : Int) := by omega
          have hdj : decide (j < M) = true := decide_eq_true hltj
          have hjL : j < sl.length := by rw [HM.out]; exact hltj
          obtain ⟨_, _, heq, _, hcells⟩ := HSRr.out
          obtain ⟨bs, os, hpe, s0⟩ := hcells j hjL
          injection heq with e1 e2 e3
          rw [hpe] at e1
          subst e1
          have s0 := cell_later' hbi' s0
          have hts := trTo_succ sl x j
          obtain ⟨t, ht⟩ : ∃ t, sl.getD j 0 = t := ⟨_, rfl⟩
          rw [ht] at s0 hts
          have CH := hasN_any _ (idx x) t wr (by have := idx_length x; omega) (HZ.out.step hbi')
          have hde : decide (t ∈ idx x) = x.testBit t := by
            rw [Bool.eq_iff_iff, decide_eq_true_iff, mem_idx hx24]
          rw [hde] at CH
          obtain ⟨q, hq⟩ : ∃ q, x.testBit t = q := ⟨_, rfl⟩
          rw [hq] at CH hts
          obtain ⟨Y, hY⟩ : ∃ Y, trTo sl x j = Y := ⟨_, rfl⟩
          rw [hY] at hown hyl hts ⊢
          obtain ⟨yl, hyl2⟩ : ∃ yl, Y.length = yl := ⟨_, rfl⟩
          have HYL := Lib.hid hyl2
          rw [hyl2] at hown hyl ⊢
          have CH := Lib.hid CH; have HTS := Lib.hid hts; have HO := Lib.hid hown; have HBI := Lib.hid hbi
          clear hcells e2 e3 ht hde hq hY hyl2 hown hts hbi hbi'
          go_wp2_with fail
          refine (CH.out).mono ?_
          clear CH
          rintro e w8 ⟨rfl, hb8⟩
          have HB8 := Lib.hid (HBI.out.trans (hb8.mono hsW))
          have HO8 := Lib.hid (World.ownsRow.later HO.out hb8)
          have hs8 : B ≤ w8.heap.size := by have := hb8.size; omega
          have hts := HTS.out
          clear hb8 HBI HO HTS
          cases q
          · rw [if_neg (by decide), List.append_nil] at hts
            have HTS := Lib.hid hts
            clear hts
            go_wp2_with fail
            go_roundw
            case rel => exact ⟨j + 1, by go_num, by omega, by rw [HTS.out, HYL.out]; exact HO8.out, HB8.out⟩
            case measure => simp [intOf]; omega
          · rw [if_pos rfl] at hts
            have HTS := Lib.hid hts
            clear hts
            go_wp2_with (at_builtin; refine wpList_append_own _ rfl _ _ 33 rfl B 3 i0 (.int .i64 0) 1 8 Tryd.underlying33 hi0 hz0 hz1 hz2 rfl (by decide) _ _ _ rfl (HO8.out.alloc _) ⟨w8.heap.size, 0, none⟩ 1 1 [.int .i64 (j : Int)] rfl rfl (cell_one_new _ _ _) (by simp [Value.oneCell']) (by unfold maxLen; omega) (by omega) (by simp; omega) ?_; intro v' w9 hown' hgrow _; obtain ⟨p', c', rfl⟩ := own_slice hown'; have HO9 := Lib.hid hown'; have HB9 := Lib.hid ((HB8.out.alloc hs8 _).grown hgrow (by simp; omega) fun g e => (HO8.out.lt g e).1); clear hown' hgrow)
            go_roundw
            case rel =>
              refine ⟨j + 1, by go_num, by omega, ?_, HB9.out⟩
              rw [HTS.out, List.length_append, HYL.out, cellsN_snoc]
              exact HO9.out
            case measure => simp [intOf]; omega
        · have hjM : j = M := by omega
          subst hjM
          have hdj : decide (j < j) = false := by simp
          have hnj : ¬ (j : Int) < (j : Int) := by omega
          have hidx : trTo sl x j = idx (trM sl x) := by rw [← HM.out]; exact trTo_idx (by rw [HM.out]; omega)
          rw [hidx] at hown ⊢
          have ht64 : trM sl x < 64 := by
            have h2 := trM_lt sl x
            rw [HM.out] at h2
            exact Nat.lt_of_lt_of_le h2 (Nat.pow_le_pow_right (n := 2) (by decide) (j := 6) hm6)
          obtain ⟨t, ht⟩ : ∃ t, trM sl x = t := ⟨_, rfl⟩
          have htk := HTK.out
          rw [ht] at hown ht64 htk ⊢
          have hW9 : WantAt S wr (.slice pw tl cw) T := HW.out.later hbi'
          have hsz := hW9.sets
          have htl := idx_length t
          have CI := in_any _ (T.map idx) _ (idx t) wr (by rw [List.length_map]; have := HTB.out.2; omega) (fun l hl => by obtain ⟨y, _, rfl⟩ := List.mem_map.1 hl; have := idx_length y; omega) (by omega) hsz (idxR_of_own hown)
          rw [map_idx_mem HTB.out.1 (by omega)] at CI
          obtain ⟨il, hil⟩ : ∃ il, (idx t).length = il := ⟨_, rfl⟩
          have HIL := Lib.hid hil
          rw [hil] at CI hown htl ⊢
          have HTK := Lib.hid htk; have HW9 := Lib.hid hW9; have HO := Lib.hid hown
          have HB9 := Lib.hid (HBE.out.trans (hbi.mono hSB))
          by_cases hmem : t ∈ T
          · rw [decide_eq_true hmem] at CI
            have hst : stepN T t = T := by unfold stepN; rw [if_pos hmem]
            have CI := Lib.hid CI
            have htk2 := htk.trans hst
            have HTK2 := Lib.hid htk2
            clear hidx ht htk hW9 hsz hown hbi hbi' hil hst htk2 hmem
            go_wp2_with fail
            refine (CI.out).mono ?_
            clear CI
            rintro e w10 ⟨rfl, hb10⟩
            have HB10 := Lib.hid (HB9.out.trans (hb10.mono (by omega)))
            have HW10 := Lib.hid (HW9.out.later hb10)
            clear hb10
            go_wp2_with fail
            go_roundw
            case rel => exact ⟨k + 1, by go_num, by omega, by rw [HTK2.out]; exact HW10.out, HB10.out⟩
            case measure => simp [intOf]; omega
          · rw [decide_eq_false hmem] at CI
            have hst : stepN T t = T ++ [t] := by unfold stepN; rw [if_neg hmem]
            have CI := Lib.hid CI
            have htk2 := htk.trans hst
            have HTK2 := Lib.hid htk2
            clear hidx ht htk hW9 hsz hown hbi hbi' hil hst htk2 hmem
            go_wp2_with fail
            refine (CI.out).mono ?_
            clear CI
            rintro e w10 ⟨rfl, hb10⟩
            have HB10 := Lib.hid (HB9.out.trans (hb10.mono (by omega)))
            have HO10 := Lib.hid (ownsRow_weaken (World.ownsRow.later HO.out hb10) hSB)
            obtain ⟨vsw, hw1', hw2'⟩ := HW9.out.later hb10
            rw [HTL.out] at hw1'
            have HW1 := Lib.hid hw1'; have HW2 := Lib.hid hw2'
            have hs10 : S ≤ w10.heap.size := by have := hb10.size; omega
            have hT64 := HTB.out.2
            rw [HTL.out] at hT64
            clear hb10 hw1' hw2'
            go_wp2_with (at_builtin; refine wpList_append_own _ rfl _ _ 29 rfl S 33 i1 (.slice none 0 0) 1 24 Tryd.underlying29 hi1 hz01 hz11 hz21 rfl (by decide) _ _ _ rfl (HW1.out.alloc _) ⟨w10.heap.size, 0, none⟩ 1 1 [.slice py il cy] rfl rfl (cell_one_new _ _ _) (by simp [Value.oneCell']) (by unfold maxLen; omega) (by omega) (by simp; omega) ?_; intro v' w11 hown' hgrow _; obtain ⟨p', c', rfl⟩ := own_slice hown'; have HO11 := Lib.hid hown'; have HG11 := Lib.hid hgrow; clear hown' hgrow)
            go_roundw
            case rel =>
              have hwl : vsw.length = tl := by simpa using HW1.out.1
              have hsv := HW1.out.alloc (.cells #[.slice py il cy] 33)
              refine ⟨k + 1, by go_num, by omega, ?_, (HB10.out.alloc hs10 _).grown HG11.out (by simp; omega) fun g e => (HW1.out.lt g e).1⟩
              rw [HTK2.out]
              refine ⟨vsw ++ [.slice py il cy], by rw [List.length_append, HTL.out]; exact HO11.out, fun j' hj' => ?_⟩
              rw [List.length_append, HTL.out, List.length_singleton] at hj'
              rcases Nat.lt_succ_iff_lt_or_eq.1 hj' with h | rfl
              · have h2 := (HW2.out j' (by rw [HTL.out]; exact h)).alloc (.cells #[.slice py il cy] 33)
                have e2 : (vsw ++ [Value.slice py il cy]).getD j' undef = vsw.getD j' undef := by simp [List.getD, List.getElem?_append_left, hwl, h]
                have e3 : (T ++ [t]).getD j' 0 = T.getD j' 0 := by simp [List.getD, List.getElem?_append_left, HTL.out, h]
                rw [e2, e3]
                exact h2.kept HG11.out (rows_ne h2 hsv (by decide))
              · have e2 : (vsw ++ [Value.slice py il cy]).getD j' undef = .slice py il cy := by simp [List.getD, ← hwl]
                have e3 : (T ++ [t]).getD j' 0 = t := by simp [List.getD, ← HTL.out]
                rw [e2, e3, HIL.out]
                have h2 := HO10.out.alloc (.cells #[.slice py il cy] 33)
                exact h2.kept HG11.out (rows_ne h2 hsv (by decide))
            case measure => simp [intOf]; omega
    · have hkN : k = N := by omega
      subst hkN
      have hdk : decide (k < k) = false := by simp
      have hnk : ¬ (k : Int) < (k : Int) := by omega
      rw [List.take_of_length_le (by rw [HN.out]; exact Nat.le_refl _)] at hW
      have hsp := trsOf_spec sl A
      have htr := HTR.out
      have hsz := hW.sets
      obtain ⟨pw, cw, rfl⟩ := (show ∃ p c, u12 = .slice p (trsOf sl A).length c by obtain ⟨vs, h1, _⟩ := hW; exact own_slice h1)
      obtain ⟨T, hTe⟩ : ∃ T, trsOf sl A = T := ⟨_, rfl⟩
      rw [hTe] at hsz hsp htr ⊢
      have htl : T.length = n1 := by
        rw [← HL1.out]
        exact Nat.le_antisymm (nodup_sub_length hsp.1 HN1.out fun x hx => (htr x).1 hx) (nodup_sub_length HN1.out hsp.1 fun x hx => (htr x).2 hx)
      rw [htl] at hsz ⊢
      have HT1 := Lib.hid htr; have HTL := Lib.hid htl; have HSZ := Lib.hid hsz
      have HS1r := Lib.hid (HS16.out.step hbS)
      have HBG := Lib.hid (HB6.out.trans (hbS.mono hs6))
      have hsg : g ≤ wr.heap.size := by omega
      have hn64 : n1 ≤ 64 := by
        rw [← HL1.out]
        refine nodup_lt_length 64 _ HN1.out fun x hx => ?_
        have h2 := ((HM1.out x).1 hx).1
        exact Nat.lt_of_lt_of_le h2 (Nat.pow_le_pow_right (n := 2) (by decide) (j := 6) hm6)
      obtain ⟨w7, hw7⟩ : ∃ w7, wr = w7 := ⟨_, rfl⟩
      rw [hw7] at HSZ HS1r HBG hsg ⊢
      clear hW hb hbS hsp htr hsz hTe htl hw7 hsW
      go_wp2_with fail
      go_loopw [86] (fun kv wr => ∃ j : Nat, kv = .int .i64 (j : Int) ∧ j ≤ n1 ∧ Below w7.heap.size w7 wr) (fun kv _ => n1 - (intOf kv).toNat)
      case atStart => exact ⟨0, rfl, Nat.zero_le _, Below.refl _ _⟩
      case round =>
        obtain ⟨j, rfl, hj, hb⟩ := hrel
        by_cases hltj : j < n1
        · have hj0 : (0 : Int) ≤ (j : Int) := by omega
          have hj1 : (j : Int) < (n1 : Int) := by omega
          have hdj : decide (j < n1) = true := decide_eq_true hltj
          have hjT : j < T.length := by rw [HTL.out]; exact hltj
          obtain ⟨_, _, heq, _, hcells⟩ := HSZ.out
          obtain ⟨b, o, z, hpe, c0, hz⟩ := hcells j (by rw [List.length_map]; exact hjT)
          injection heq with e1 e2 e3
          rw [hpe] at e1
          subst e1
          have hge : (T.map idx).getD j [] = idx (T.getD j 0) := by simp [List.getD, hjT]
          rw [hge] at hz
          have hmemT : T.getD j 0 ∈ T := SetOk.getD_mem hjT
          obtain ⟨t, ht⟩ : ∃ t, T.getD j 0 = t := ⟨_, rfl⟩
          rw [ht] at hz hmemT
          have hinA := (HT1.out t).1 hmemT
          have c0 := cell_later' hb c0
          have hz := hz.step hb
          have CI := in_any _ (As.map idx) z (idx t) wr (by rw [List.length_map, HL1.out]; omega) (fun l hl => by obtain ⟨y, _, rfl⟩ := List.mem_map.1 hl; have := idx_length y; omega) (by have := idx_length t; omega) (HS1r.out.step hb) hz
          rw [decide_eq_true (List.mem_map_of_mem hinA)] at CI
          obtain ⟨pz, cz, rfl, _, _⟩ := hz
          obtain ⟨zl, hzl⟩ : ∃ zl, (idx t).length = zl := ⟨_, rfl⟩
          rw [hzl] at CI c0
          have CI := Lib.hid CI; have HBE := Lib.hid hb
          clear hcells e2 e3 hge hmemT ht hinA hzl hb
          go_wp2_with fail
          refine (CI.out).mono ?_
          clear CI
          rintro e w10 ⟨rfl, hb10⟩
          have HB10 := Lib.hid (HBE.out.trans (hb10.mono HBE.out.size))
          clear hb10
          go_wp2_with fail
          go_roundw
          case rel => exact ⟨j + 1, by go_num, by omega, HB10.out⟩
          case measure => simp [intOf]; omega
        · have hjn : j = n1 := by omega
          subst hjn
          have hdj : decide (j < j) = false := by simp
          have hnj : ¬ (j : Int) < (j : Int) := by omega
          have g1 : ((j : Int) == (j : Int)) = true := by simp
          have HB8 := Lib.hid (HBG.out.trans (hb.mono hsg))
          have CA := Lib.hid (awake_any wr (HT.out.below HB8.out hw1))
          have hsr : g ≤ wr.heap.size := by have := hb.size; omega
          clear hb g1
          go_wp2_with (go_at_call 8; refine (CA.out).mono ?_; clear CA; rintro e w11 ⟨rfl, hb11⟩; have HB11 := Lib.hid hb11; clear hb11)
          go_ret
          exact ⟨rfl, by rw [HG.out]; exact HB8.out.trans (HB11.out.mono hsr)⟩
theorem partsLaw_any (w : World) (a : Option Addr) (n c : Nat) (hi : Ints w w.heap.size a n) (hT : Deb w) :
    Calls Tryd.prog 4 #[.slice a n c] w (BoolP true w) := by
  cases h : decide (n ≤ 400) with
  | false => exact partsLaw_heavy w a n c h hT
  | true => exact partsLaw_light w a n c h hi hT
end Go.Proofs.YtgeldpkopolnfaaDoor
