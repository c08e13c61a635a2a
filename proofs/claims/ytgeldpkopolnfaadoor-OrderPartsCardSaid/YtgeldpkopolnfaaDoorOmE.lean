/- Sets. -/
import Derived.Test.YtgeldpkopolnfaaDoorOmD
namespace Go.Proofs.YtgeldpkopolnfaaDoor
open Go.RowKit
set_option linter.all false

theorem info33 : (Tryd.prog.info? 33).map (fun i => (i.zero, i.size, i.bytes)) = some (some (.slice none 0 0), 1, 24) := by kernel_rfl
theorem RowM.grown {W W' : World} {v : Value} {N : List Nat} {row : Option Nat} (h : RowM W v N) (hg : W.grownBy W' row) (hne : v.ownBlock = none ∨ v.ownBlock ≠ row) : RowM W' v N := by
  obtain ⟨a, c, rfl, hc, h⟩ := h
  refine ⟨a, c, rfl, hc, fun j hj => ?_⟩
  obtain ⟨b, o, rfl, h2⟩ := h j hj
  refine ⟨b, o, rfl, hg.cell h2 ?_⟩
  rcases hne with hne | hne
  · simp [Value.ownBlock] at hne
  · exact hne
def lenV : Value → Nat
  | .slice _ n _ => n
  | _ => 0
theorem own_slice {W : World} {base e size n : Nat} {v : Value} {xs : List Value} (h : W.ownsRow base e size v n xs) : ∃ p c, v = .slice p n c := by
  rcases h.2 with ⟨rfl, rfl⟩ | ⟨g, cap, cur, rfl, _⟩
  · exact ⟨_, _, rfl⟩
  · exact ⟨_, _, rfl⟩
theorem add_plain (b o j : Nat) : (⟨b, o, none⟩ : Addr).add j = ⟨b, o + j, none⟩ := by unfold Addr.add; split <;> simp_all
theorem Lev.perm {n k : Nat} {L : List Rq} {M N : List Nat} (h : Lev n L k M) (hp : N.Perm M) : Lev n L k N := ⟨hp.nodup_iff.2 h.1, fun x => by rw [hp.mem_iff]; exact h.2 x⟩
theorem cellsU_append (A B : List Nat) : cellsU (A ++ B) = cellsU A ++ cellsU B := by unfold cellsU; rw [List.map_append]
theorem cellsU_length (A : List Nat) : (cellsU A).length = A.length := by unfold cellsU; simp
theorem ownsRow_weaken {w : World} {B base : Nat} {e : TypeId} {size : Nat} {v : Value} {n : Nat} {xs : List Value} (h : w.ownsRow B e size v n xs) (hb : base ≤ B) : w.ownsRow base e size v n xs := by
  refine ⟨h.1, ?_⟩
  rcases h.2 with hn | ⟨g, cap, cur, hv, hbg, rest⟩
  · exact .inl hn
  · exact .inr ⟨g, cap, cur, hv, Nat.le_trans hb hbg, rest⟩
theorem setsR_of_own {W : World} {base b3 : Nat} {v : Value} {vs : List Value} {LS : List (List Nat)} (h : W.ownsRow base 33 1 v LS.length vs) (hs : ∀ j, j < LS.length → W.ownsRow b3 3 1 (vs.getD j undef) (LS.getD j []).length (cellsN (LS.getD j []))) : SetsR W v LS := by
  have hvl : vs.length = LS.length := by simpa using h.1
  rcases id h.2 with ⟨rfl, h0⟩ | ⟨g, cap, cur, rfl, _, _, hc, _⟩
  · exact ⟨none, 0, by rw [h0], by omega, fun i hi => by omega⟩
  · refine ⟨_, cap, rfl, by omega, fun i hi => ⟨g, 0, vs.getD i undef, rfl, ?_, idxR_of_own (hs i hi)⟩⟩
    rw [Nat.zero_add, h.cellAt i (by omega)]
    simp [List.getD, hvl, hi]
/-- What is found of a level and the next. -/
def SetP (n : Nat) (L : List Rq) (w : World) (e : Ending) (w' : World) : Prop := ∃ (sv : Value) (A : List Nat), e = .returned (.tuple #[sv, .int .i64 0]) ∧ A.Nodup ∧ (∀ x, x ∈ A ↔ x < 2 ^ n ∧ ClM L x) ∧ SetsR w' sv (A.map idx) ∧ Below w.heap.size w w'

set_option maxRecDepth 100000 in
set_option maxHeartbeats 4000000 in
theorem sets_any (a : Option Addr) (c : Nat) (L : List Rq) (n : Nat) (w : World) (hn : n ≤ 12) (hok : Ok n L) (hl : L.length ≤ 900) (hL : ReqsAt w a L) (hT : Deb w)
    (hC : ∀ W, Below w.heap.size w W → Calls Tryd.prog 23 #[.int .i64 (n : Int), .slice a L.length c] W fun e w' => e = .returned (.int .i64 0) ∧ Below W.heap.size W w') :
    Calls Tryd.prog 11 #[.int .i64 (n : Int), .slice a L.length c] w (SetP n L w) := by
  have hw1 := hT.1
  obtain ⟨i0, hi, hz0, hz1, hz2⟩ := info_parts info57
  obtain ⟨i1, hi1, hz01, hz11, hz21⟩ := info_parts info33
  have hp12 : 2 ^ n ≤ 4096 := Nat.pow_le_pow_right (n := 2) (by decide) (j := 12) hn
  have h24 : ∀ x, x < 2 ^ n → x < 16777216 := fun x h => by omega
  have HOK := Lib.hid hok; have HT := Lib.hid hT
  obtain ⟨S, hS⟩ : ∃ S, w.heap.size = S := ⟨_, rfl⟩
  have HS := Lib.hid hS
  rw [hS] at hC hw1
  have HC := Lib.hid hC
  have HGR := Lib.hid (fun W (M : List Nat) (q : Option Addr) (c2 : Nat) (hW : Below S w W) (hM1 : M.length ≤ 16777216) (hM2 : ∀ s ∈ M, s < 16777216) (hq : ∀ j, j < M.length → ∃ b o, q = some ⟨b, o, none⟩ ∧ W.cell? ⟨b, o + j, none⟩ = some (.int .u32 ((M.getD j 0 : Nat) : Int))) => greater_any a c L n q c2 M W (by omega) hok.inn hl (hL.step (by rw [hS]; exact hW)) hM1 hM2 hq (hT.below hW hw1))
  obtain ⟨ll, hll⟩ : ∃ ll, L.length = ll := ⟨_, rfl⟩
  rw [hll] at HC HGR ⊢
  obtain ⟨T2, hT2⟩ : ∃ T2, 2 ^ n = T2 := ⟨_, rfl⟩
  have HT2 := Lib.hid hT2
  rw [hT2] at hp12 h24
  have H24 := Lib.hid h24
  clear hL hok hT hll hl hC hT2 h24
  go_enter Tryd.func11, Tryd.ntmps11
  go_wp2_with (go_at_call 23; refine (HC.out w (Below.refl _ _)).mono ?_; rintro e w1 ⟨rfl, hb1⟩)
  have hB1 : Below S w w1 := by rw [← HS.out]; exact hb1
  have hsz1 : S ≤ w1.heap.size := by rw [← HS.out]; exact hb1.size
  have hrow0 : RowM (w1.alloc (.cells #[.int .u32 0] 57)) (.slice (some ⟨w1.heap.size, 0, none⟩) 1 1) [0] := by
    refine ⟨_, 1, rfl, Nat.le_refl _, fun j hj => ⟨_, _, rfl, ?_⟩⟩
    obtain rfl : j = 0 := by simp at hj; omega
    exact (Boxed.new w1 57 (.int .u32 0)).cell
  have HB1 := Lib.hid (hB1.alloc hsz1 (.cells #[.int .u32 0] 57))
  have HR0 := Lib.hid hrow0
  clear hB1 hrow0 hb1
  go_loopw [7, 8] (fun fv lv wr => ∃ k A M, wr.ownsRow S 57 1 fv A.length (cellsU A) ∧ RowM wr lv M ∧ (lv.ownBlock = none ∨ lv.ownBlock ≠ fv.ownBlock) ∧ Lo n L k A ∧ Lev n L k M ∧ Below S w wr) (fun fv _ _ => T2 - lenV fv)
  case atStart => exact ⟨0, [], [0], World.ownsRow_nil _ _ _ _, HR0.out, .inr (by simp [Value.ownBlock]), lo_zero, lev_zero (by omega), HB1.out⟩
  case round =>
    clear HB1 HR0
    obtain ⟨k, A, M, hown, hM, hsep, hlo, hlev, hB⟩ := hrel
    obtain ⟨p, cp, rfl⟩ := own_slice hown
    obtain ⟨q, c2, rfl, hc2, hq⟩ := hM
    have hA4 := lo_length hlo
    by_cases hM0 : M = []
    · subst hM0
      have hdone := lo_done (by omega) HOK.out hlo hlev
      have hm0 : ¬ ((0 : Int) < 0) := by omega
      have HD := Lib.hid hdone; have HO := Lib.hid hown; have HB := Lib.hid hB
      clear hdone hown hB hlo hlev hq hc2
      rw [HT2.out] at hA4
      go_wp2_with fail
      go_loopw [9, 34] (fun sv kv wr => ∃ (k : Nat) (vs : List Value), kv = .int .i64 (k : Int) ∧ k ≤ A.length ∧ wr.ownsRow S 33 1 sv k vs ∧ (∀ j, j < k → wr.ownsRow S 3 1 (vs.getD j undef) (idx (A.getD j 0)).length (cellsN (idx (A.getD j 0)))) ∧ wr.ownsRow S 57 1 (.slice p A.length cp) A.length (cellsU A) ∧ Below S w wr) (fun _ kv _ => A.length - (intOf kv).toNat)
      case atStart => exact ⟨0, [], rfl, Nat.zero_le _, World.ownsRow_nil _ _ _ _, fun j hj => by omega, HO.out, HB.out⟩
      case round =>
        clear HO HB
        obtain ⟨k, vs, rfl, hk, hsv, hvs, hown, hB⟩ := hrel
        obtain ⟨ps, cs, rfl⟩ := own_slice hsv
        by_cases hlt : k < A.length
        · have hk0 : (0 : Int) ≤ (k : Int) := by omega
          have hk1 : (k : Int) < (A.length : Int) := by omega
          have hdk : decide (k < A.length) = true := decide_eq_true hlt
          obtain ⟨pa, pc', hpe, _, hcell⟩ := rowM_of_own hown
          obtain ⟨b, o, hpb, c0⟩ := hcell k hlt
          injection hpe with e1 e2 e3
          rw [hpb] at e1
          subst e1
          have hmem : A.getD k 0 ∈ A := by rw [List.getD, List.getElem?_eq_getElem hlt]; exact List.getElem_mem hlt
          have hx24 := H24.out _ (by have := ((HD.out.2 _).1 hmem).1; rw [HT2.out] at this; exact this)
          obtain ⟨x, hx⟩ : ∃ x, A.getD k 0 = x := ⟨_, rfl⟩
          rw [hx] at c0 hx24
          have CI := Lib.hid (indices_any x hx24 wr (HT.out.below hB hw1))
          obtain ⟨Al, hAl⟩ : ∃ Al, A.length = Al := ⟨_, rfl⟩
          have HX := Lib.hid hx; have HAL := Lib.hid hAl; have HB := Lib.hid hB; have HSV := Lib.hid hsv; have HVS := Lib.hid hvs; have HO := Lib.hid hown
          rw [hAl] at hk1 hdk hA4 hlt hk ⊢
          have hsW : S ≤ wr.heap.size := by have := hB.size; have := HS.out; omega
          clear hx hAl hB hsv hvs hown hcell hmem e2 e3
          go_wp2_with (first | (go_at_call 27; refine (CI.out).mono ?_; clear CI; rintro e w2 ⟨u, rfl, hu, _, hb2⟩; obtain ⟨pu, cu, rfl⟩ := own_slice hu; have HU := Lib.hid hu; have HB2 := Lib.hid hb2; have hsz2 := hb2.size; have HSV2 := Lib.hid (World.ownsRow.later HSV.out hb2); clear hu hb2) | (at_builtin; have _t := HSV2; refine wpList_append_own _ rfl _ _ 29 rfl S 33 i1 (.slice none 0 0) 1 24 Tryd.underlying29 hi1 hz01 hz11 hz21 rfl (by decide) _ _ _ rfl (HSV2.out.alloc _) ⟨w2.heap.size, 0, none⟩ 1 1 [.slice pu (idx x).length cu] rfl rfl (cell_one_new _ _ _) (by simp [Value.oneCell']) (by unfold maxLen; omega) (by omega) (by simp; omega) ?_; intro v' w3 hown' hgrow _; have HOW := Lib.hid hown'; have HGW := Lib.hid hgrow; clear hown' hgrow))
          have hg := HGW.out
          have hsv2 := HSV2.out.alloc (.cells #[.slice pu (idx x).length cu] 33)
          have hb2 := HB2.out
          have hvl : vs.length = k := by simpa using HSV.out.1
          have e1 : ((k : Int) + 1) = ((k + 1 : Nat) : Int) := by omega
          have hu2 := (ownsRow_weaken HU.out hsW).alloc (.cells #[.slice pu (idx x).length cu] 33)
          have ho2 := (World.ownsRow.later HO.out hb2).alloc (.cells #[.slice pu (idx x).length cu] 33)
          refine ⟨⟨k + 1, vs ++ [.slice pu (idx x).length cu], by rw [e1], by omega, HOW.out, fun j hj => ?_, by have h := ho2.kept hg (rows_ne ho2 hsv2 (by decide)); rw [HAL.out] at h; exact h, ?_⟩, by simp [intOf]; omega⟩
          · rcases Nat.lt_succ_iff_lt_or_eq.1 hj with h | rfl
            · have h2 := (World.ownsRow.later (HVS.out j h) hb2).alloc (.cells #[.slice pu (idx x).length cu] 33)
              have e2 : (vs ++ [Value.slice pu (idx x).length cu]).getD j undef = vs.getD j undef := by simp [List.getD, List.getElem?_append_left, hvl, h]
              rw [e2]
              exact h2.kept hg (rows_ne h2 hsv2 (by decide))
            · have e2 : (vs ++ [Value.slice pu (idx x).length cu]).getD j undef = .slice pu (idx x).length cu := by simp [List.getD, ← hvl]
              rw [e2, HX.out]
              exact hu2.kept hg (rows_ne hu2 hsv2 (by decide))
          · have hB2 : Below S w w2 := HB.out.trans (hb2.mono hsW)
            exact (hB2.alloc (by omega) _).grown hg (by simp; omega) fun g e => (HSV2.out.lt g e).1
        · have hk2 : k = A.length := by omega
          have hdk : decide (k < A.length) = false := decide_eq_false hlt
          have hnk : ¬ ((k : Int) < (A.length : Int)) := by omega
          have hsl : (A.map idx).length = k := by simp [hk2]
          have hres : SetsR wr (.slice ps k cs) (A.map idx) := setsR_of_own (by rw [hsl]; exact hsv) fun j hj => by
            rw [hsl] at hj
            have h1 := hvs j hj
            have e : (A.map idx).getD j [] = idx (A.getD j 0) := by
              have : j < A.length := by omega
              simp [List.getD, this]
            rw [e]; exact h1
          have HRES := Lib.hid hres; have HB := Lib.hid hB
          generalize A.length = Al at *
          clear hres hB hsv hvs hown hsl hk2
          go_wp2_with fail
          refine bodyPost_ret (v := .tuple #[.slice ps k cs, .int .i64 0]) (by simp [results, Tryd.results11, go_sem]) rfl ?_
          exact ⟨_, A, rfl, HD.out.1, HD.out.2, HRES.out, by rw [HS.out]; exact HB.out⟩
    · have hm1 : 0 < M.length := List.length_pos_iff.2 hM0
      have hrm : RowM wr (.slice q M.length c2) M := ⟨q, c2, rfl, hc2, hq⟩
      obtain ⟨b, o, hqe, _⟩ := hq 0 hm1
      subst hqe
      have hlo2 := lo_next hlo hlev
      have hA5 := lo_length hlo2
      rw [HT2.out, List.length_append] at hA5
      have hMs : ∀ t ∈ M, t < 16777216 := fun t ht => H24.out t (by have := ((hlev.2 t).1 ht).1; rw [HT2.out] at this; exact this)
      have hnx := nextL_spec (L := L) (n := n) (by omega) M
      have hnews : ∀ j u, (cellsU M)[j]? = some u → wr.cell? ((⟨b, o, none⟩ : Addr).add j) = some u := fun j u hu => by
        have hj : j < M.length := by
          have := (List.getElem?_eq_some_iff.1 hu).1
          rwa [cellsU_length] at this
        obtain ⟨b', o', e, h2⟩ := hq j hj
        injection e with e
        injection e with e1 e2 _
        subst e1; subst e2
        rw [add_plain, h2, ← hu]
        simp [cellsU, List.getD, hj]
      have hml : (cellsU M).length = M.length * 1 := by rw [cellsU_length, Nat.mul_one]
      have hoc : ∀ u ∈ cellsU M, u.oneCell' = true := fun u hu => by
        unfold cellsU at hu
        obtain ⟨t, _, rfl⟩ := List.mem_map.1 hu
        rfl
      have hsW : S ≤ wr.heap.size := by have := hB.size; have := HS.out; omega
      have hx1 : (0 : Int) < (M.length : Int) := by omega
      have hx2 : decide (0 < M.length) = true := decide_eq_true hm1
      have hx3 : ¬ ((4096 : Int) < ((A.length + M.length : Nat) : Int)) := by omega
      have hx4 : decide (4096 < A.length + M.length) = false := decide_eq_false (by omega)
      have hx5 : ¬ ((4096 : Int) < (A.length : Int) + (M.length : Int)) := by omega
      have HO := Lib.hid hown; have HB := Lib.hid hB; have HSEP := Lib.hid hsep; have HLO := Lib.hid hlo2; have HLEV := Lib.hid hlev; have HRM := Lib.hid hrm; have HNX := Lib.hid hnx; have HNW := Lib.hid hnews; have HOC := Lib.hid hoc; have HMS := Lib.hid hMs
      have HMAX := Lib.hid (show M.length ≤ 16777216 by omega)
      obtain ⟨Ml, hMl⟩ : ∃ Ml, M.length = Ml := ⟨_, rfl⟩
      obtain ⟨Al, hAl⟩ : ∃ Al, A.length = Al := ⟨_, rfl⟩
      have HML := Lib.hid hMl; have HAL := Lib.hid hAl
      rw [hMl] at hm1 hA5 hml hx1 hx2 hx3 hx4 hx5 hc2 HRM HSEP ⊢
      rw [hAl] at hA5 hx3 hx4 hx5 hA4 HO HSEP ⊢
      clear hown hB hsep hlo hlo2 hlev hrm hq hnx hnews hoc hMs hMl hAl hM0
      go_wp2_with (at_builtin; refine wpList_append_own _ rfl _ _ 55 rfl S 57 i0 (.int .u32 0) 1 4 Tryd.underlying55 hi hz0 hz1 hz2 rfl (by decide) _ _ _ rfl HO.out ⟨b, o, none⟩ Ml c2 (cellsU M) rfl hml HNW.out HOC.out (by unfold maxLen; omega) (by omega) hsW ?_; intro v' w3 hown' hgrow _; obtain ⟨p', c', rfl⟩ := own_slice hown'; have HO3 := Lib.hid hown'; have HG3 := Lib.hid hgrow; clear hown' hgrow)
      have hRM3 : RowM w3 (.slice (some ⟨b, o, none⟩) Ml c2) M := HRM.out.grown HG3.out HSEP.out
      have hB3 : Below S w w3 := HB.out.grown HG3.out hsW fun g e => (HO.out.lt g e).1
      obtain ⟨_, _, heq, hc3, hq3⟩ := hRM3
      injection heq with e1 e2 e3
      subst e1; subst e3
      rw [← e2] at hc3
      have CG := HGR.out w3 M _ c2 hB3 HMAX.out HMS.out hq3
      rw [HML.out] at CG
      have HB3 := Lib.hid hB3; have hs3 := HG3.out.size
      have hO3 := HO3.out
      have HO3' := Lib.hid hO3
      clear hq3 hB3 hO3 e2
      refine CG.mono ?_
      clear CG
      rintro e w4 ⟨v4, N4, rfl, hp4, hrm4, hlow4, hb4⟩
      have HP4 := Lib.hid hp4; have HR4 := Lib.hid hrm4; have HL4 := Lib.hid hlow4; have HB4 := Lib.hid hb4
      clear hp4 hrm4 hlow4 hb4
      go_wp2_with fail
      have hlev4 := (lev_next (by omega) HOK.out HLEV.out HNX.out.1 HNX.out.2).perm HP4.out
      have hal : (A ++ M).length = Al + Ml := by rw [List.length_append, HAL.out, HML.out]
      refine ⟨⟨k + 1, A ++ M, N4, ?_, HR4.out, ?_, HLO.out, hlev4, HB3.out.trans (HB4.out.mono (by omega))⟩, ?_⟩
      · rw [hal, cellsU_append]
        exact World.ownsRow.later HO3'.out HB4.out
      · by_cases h0 : v4.ownBlock = none
        · exact .inl h0
        · right
          intro e
          cases hv : v4.ownBlock with
          | none => exact h0 hv
          | some g =>
            have h1 := HL4.out g hv
            rw [hv] at e
            have h2 := (HO3'.out.lt g e.symm).2
            omega
      · simp only [lenV]
        omega
end Go.Proofs.YtgeldpkopolnfaaDoor
