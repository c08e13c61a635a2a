/- The law of reductions. -/
import Derived.Test.YtcppmkimfoajaaaRdH
import Derived.Test.YtcppmkimfoajaaaUnA
namespace Go.Proofs.Ytcppmkimfoajaaa
open Go.RowKit
set_option linter.all false

theorem any_byd {n : Nat} {B : Nat → Nat} {L : List Rq} (hin : Inn n L) (hW : ∀ i j, i < n → j < n → (bitM B i j = true ↔ Way L i j)) {x : Rq} (hx : x ∈ L) : L.any (behP B x) = true ↔ Byd L x := by
  rw [List.any_eq_true]
  have h2 := hin x hx
  constructor
  · rintro ⟨s, hs, h⟩
    have h1 := hin s hs
    unfold behP at h
    simp only [Bool.and_eq_true, decide_eq_true_eq] at h
    exact ⟨s, hs, h.1, (hW _ _ (by omega) (by omega)).1 h.2⟩
  · rintro ⟨s, hs, e, hw⟩
    have h1 := hin s hs
    refine ⟨s, hs, ?_⟩
    unfold behP
    rw [decide_eq_true e, (hW _ _ (by omega) (by omega)).2 hw]; rfl
theorem redF_mem {n : Nat} {B : Nat → Nat} {L : List Rq} (hin : Inn n L) (hW : ∀ i j, i < n → j < n → (bitM B i j = true ↔ Way L i j)) (x : Rq) : x ∈ redF B L ↔ x ∈ L ∧ ¬ Byd L x := by
  unfold redF
  rw [List.mem_filter]
  constructor
  · rintro ⟨hx, h⟩
    refine ⟨hx, fun hb => ?_⟩
    rw [(any_byd hin hW hx).2 hb] at h; cases h
  · rintro ⟨hx, h⟩
    refine ⟨hx, ?_⟩
    cases he : L.any (behP B x) with
    | false => rfl
    | true => exact absurd ((any_byd hin hW hx).1 he) h
theorem needok_inn {n : Nat} {L : List Rq} (h : NeedOk n L) : Inn n L := fun x hx => by
  have := h.2 x hx; omega
theorem needok_up {n : Int} {L : List Rq} (h : NeedOk n L) : Up L := fun x hx => by
  have := h.2 x hx; omega
theorem needok_ne {n : Int} {L : List Rq} (h : NeedOk n L) : ∀ x ∈ L, x.1 ≠ x.2 := fun x hx => by
  have := h.2 x hx; omega
theorem needok_no {n : Int} {L : List Rq} (h : NeedOk n L) : ∀ i, ¬ Way L i i := fun i hw => Nat.lt_irrefl _ (hw.lt (needok_up h))
theorem needok_red {n : Int} {L : List Rq} {B : Nat → Nat} (h : NeedOk n L) : NeedOk n (redF B L) :=
  ⟨List.Pairwise.sublist List.filter_sublist h.1, fun x hx => h.2 x (List.mem_filter.1 hx).1⟩
theorem redF_self {n : Nat} {B B' : Nat → Nat} {L : List Rq} (h : NeedOk n L) (hW : ∀ i j, i < n → j < n → (bitM B i j = true ↔ Way L i j)) (hW' : ∀ i j, i < n → j < n → (bitM B' i j = true ↔ Way (redF B L) i j)) : redF B' (redF B L) = redF B L := by
  have hn := needok_red (B := B) h
  unfold redF
  rw [List.filter_eq_self]
  intro x hx
  have hx' : x ∈ redF B L := hx
  have h1 := red_red (needok_up h) (redF_mem (needok_inn h) hW) hx'
  cases he : (redF B L).any (behP B' x) with
  | false =>
    have he' := he
    unfold redF at he'
    rw [he']; rfl
  | true => exact absurd ((any_byd (needok_inn hn) hW' hx').1 he) h1
theorem less_mem {P : List Rq} (hP : AscR P) {k : Nat} (hk : k < P.length) : ∀ y ∈ P.take k ++ P.drop (k + 1), y ∈ P ∧ y ≠ P.getD k rq0 := by
  have hg : P.getD k rq0 = P[k] := by rw [List.getD, List.getElem?_eq_getElem hk]; rfl
  intro y hy
  rw [hg]
  rw [List.mem_append] at hy
  rcases hy with hy | hy
  · refine ⟨List.mem_of_mem_take hy, fun e => ?_⟩
    obtain ⟨j, hj, rfl⟩ := List.getElem_of_mem hy
    rw [List.length_take] at hj
    rw [List.getElem_take] at e
    have := List.pairwise_iff_getElem.1 hP j k (by omega) hk (by omega)
    rw [e, less_irrefl] at this; cases this
  · refine ⟨List.mem_of_mem_drop hy, fun e => ?_⟩
    obtain ⟨j, hj, rfl⟩ := List.getElem_of_mem hy
    rw [List.length_drop] at hj
    rw [List.getElem_drop] at e
    have := List.pairwise_iff_getElem.1 hP k (k + 1 + j) hk (by omega) (by omega)
    rw [e, less_irrefl] at this; cases this

set_option maxRecDepth 100000 in
set_option maxHeartbeats 4000000 in
theorem reduces_heavy (w : World) (a : Option Addr) (n c : Nat) (h : decide (n ≤ 400) = false) (CS : SortedC) :
    Calls Try.prog 4 #[.slice a n c] w (BoolP true w) := by
  have CL := Lib.hid (light_any a n c false w h)
  have HCS := Lib.hid CS
  clear h CS
  go_enter Try.func4, Try.ntmps4
  go_wp2_with fail
  refine (CL.out).mono ?_
  rintro e w1 ⟨rfl, rfl⟩
  have CA := Lib.hid (awake28_any w1 HCS.out)
  clear CL
  go_wp2_with fail
  refine (CA.out).mono ?_
  rintro e w2 ⟨rfl, hb⟩
  have HB := Lib.hid hb; clear hb
  go_wp2_with fail
  go_ret
  exact ⟨rfl, HB.out⟩

set_option maxRecDepth 100000 in
set_option maxHeartbeats 8000000 in
theorem reduces_light (w : World) (a : Option Addr) (n c : Nat) (h : decide (n ≤ 400) = true) (hi : Ints w w.heap.size a n) (CS : SortedC) :
    Calls Try.prog 4 #[.slice a n c] w (BoolP true w) := by
  have CL := Lib.hid (light_any a n c true w h)
  have CR := Lib.hid (roll_any a n c w (of_decide_eq_true h) hi)
  have HCS := Lib.hid CS
  clear h hi CS
  go_enter Try.func4, Try.ntmps4
  go_wp2_with fail
  refine (CL.out).mono ?_
  rintro e w0 ⟨rfl, rfl⟩
  go_wp2_with fail
  refine (CR.out).mono ?_
  rintro e w1 ⟨rfl, hd1, hb1⟩
  obtain ⟨g, hg⟩ : ∃ g, w0.heap.size = g := ⟨_, rfl⟩
  rw [hg] at hd1 hb1
  have hs0 : g < w1.heap.size := hd1.lt
  have HG := Lib.hid hg
  have HB1 := Lib.hid hb1
  have C1 := Lib.hid (needs_any w1 g 8 (by decide) (by decide) hd1)
  rw [hg]
  clear hg hb1 hd1 CL CR
  go_wp2_with fail
  refine (C1.out).mono ?_
  rintro e w2 ⟨v2, L, rfl, hok, hlL, hSL, hd2, hg2⟩
  obtain ⟨aL, cL, eL, hcL, hrL, hnL⟩ := hSL
  have hb2 : Below g w0 w2 := HB1.out.trans ⟨hg2.os, hg2.tape, hg2.output, hg2.size, fun k hk => hg2.block k (by omega) (by simp; omega)⟩
  have hs2 : g ≤ w2.heap.size := by have := hg2.size; omega
  have HOK := Lib.hid hok; have RL := Lib.hid hrL; have HB2 := Lib.hid hb2
  subst eL
  clear hok hrL hb2 hnL hd2 hg2 C1 HB1 hcL
  have K1 := Lib.hid (reduce_any aL cL L 8 w2 (by decide) (by decide) (needok_inn HOK.out) HOK.out.1 (needok_ne HOK.out) (fun i _ => needok_no HOK.out i) (by omega) RL.out)
  go_wp2_with fail
  refine (K1.out).mono ?_
  rintro e w3 ⟨aP, cP, B, rfl, hcP, hrP, hb3, hW⟩
  have hokP := needok_red (B := B) HOK.out
  have hmem := redF_mem (needok_inn HOK.out) hW
  have hlP : (redF B L).length ≤ 16 := Nat.le_trans (List.length_filter_le _ _) hlL
  have HB3 := Lib.hid (HB2.out.trans (hb3.mono hs2))
  have hs3 : g ≤ w3.heap.size := by have := hb3.size; omega
  have RL3 := Lib.hid (RL.out.step hb3)
  have hself := fun B' => redF_self (B := B) (B' := B') HOK.out hW
  obtain ⟨P, hP⟩ : ∃ P, redF B L = P := ⟨_, rfl⟩
  rw [hP] at hokP hrP hcP hlP ⊢
  simp only [hP] at hself hmem
  have HSELF := Lib.hid hself; have HMEM := Lib.hid hmem; have HOKP := Lib.hid hokP; have RP := Lib.hid hrP; have HCP := Lib.hid hcP
  clear hself hmem hokP hrP hb3 hW hP hcP K1 RL HB2
  have K2 := Lib.hid (reduce_any aP cP P 8 w3 (by decide) (by decide) (needok_inn HOKP.out) HOKP.out.1 (needok_ne HOKP.out) (fun i _ => needok_no HOKP.out i) (by omega) RP.out)
  go_wp2_with fail
  refine (K2.out).mono ?_
  rintro e w4 ⟨aQ, cQ, B', rfl, hcQ, hrQ, hb4, hW'⟩
  have hPQ := HSELF.out B' hW'
  rw [hPQ] at hrQ ⊢
  have HB4 := Lib.hid (HB3.out.trans (hb4.mono hs3))
  have hs4 : g ≤ w4.heap.size := by have := hb4.size; omega
  have RL4 := Lib.hid (RL3.out.step hb4); have RP4 := Lib.hid (RP.out.step hb4); have RQ4 := Lib.hid hrQ
  clear hb4 hrQ hcQ hW' hPQ K2 RL3 RP HB3 HSELF
  have K3 := Lib.hid (reqSame_any aP aQ cP cQ P P w4 (by omega) (by omega) RP4.out RQ4.out)
  rw [sameL_self] at K3
  go_wp2_with fail
  refine (K3.out).mono ?_
  rintro e w5 ⟨rfl, hb5⟩
  have HB5 := Lib.hid (HB4.out.trans (hb5.mono hs4))
  have hs5 : g ≤ w5.heap.size := by have := hb5.size; omega
  have RL5 := Lib.hid (RL4.out.step hb5); have RP5 := Lib.hid (RP4.out.step hb5)
  clear hb5 K3 RL4 RP4 RQ4 HB4
  have K4 := Lib.hid (ways_any aL cL L 8 w5 (by decide) (by decide) (needok_inn HOK.out) (by omega) RL5.out)
  go_wp2_with fail
  refine (K4.out).mono ?_
  rintro e w6 ⟨q1, c1, bs1, M1, rfl, _, hM1, hW1, hb6⟩
  have HB6 := Lib.hid (HB5.out.trans (hb6.mono hs5))
  have hs6 : g ≤ w6.heap.size := by have := hb6.size; omega
  have RL6 := Lib.hid (RL5.out.step hb6); have RP6 := Lib.hid (RP5.out.step hb6); have HM1 := Lib.hid hM1; have HW1 := Lib.hid hW1
  clear hb6 hM1 hW1 K4 RL5 RP5 HB5
  have K5 := Lib.hid (ways_any aP cP P 8 w6 (by decide) (by decide) (needok_inn HOKP.out) (by omega) RP6.out)
  go_wp2_with fail
  refine (K5.out).mono ?_
  rintro e w7 ⟨q2, c2, bs2, M2, rfl, _, hM2, hW2, hb7⟩
  have HB7 := Lib.hid (HB6.out.trans (hb7.mono hs6))
  have hs7 : g ≤ w7.heap.size := by have := hb7.size; omega
  have RL7 := Lib.hid (RL6.out.step hb7); have RP7 := Lib.hid (RP6.out.step hb7)
  have K6 := Lib.hid (same_any _ _ q1 q2 c1 c2 8 bs1 bs2 M1 M2 w7 (by decide) (HM1.out.step hb7) hM2)
  have hM12 : ∀ i j, i < 8 → j < 8 → M1 i j = M2 i j := fun i j hi hj => by
    have e1 := HW1.out i j hi hj
    have e2 := hW2 i j hi hj
    rw [red_way (needok_up HOK.out) HMEM.out] at e2
    cases h1 : M1 i j <;> cases h2 : M2 i j <;> simp_all
  have HM12 := Lib.hid hM12
  clear hb7 hM2 hW2 hM12 K5 RL6 RP6 HB6 HM1 HW1
  go_wp2_with fail
  refine (K6.out).mono ?_
  rintro e w8 ⟨r, rfl, hr, hb8⟩
  have hrt : r = true := hr.2 HM12.out
  subst hrt
  have HB8 := Lib.hid (HB7.out.trans (hb8.mono hs7))
  have hs8 : g ≤ w8.heap.size := by have := hb8.size; omega
  have RL8 := Lib.hid (RL7.out.step hb8); have RP8 := Lib.hid (RP7.out.step hb8)
  clear hb8 hr K6 RL7 RP7 HB7 HM12
  obtain ⟨N, hN⟩ : ∃ N, P.length = N := ⟨_, rfl⟩
  have HNP := Lib.hid hN
  rw [hN] at hlP HCP
  have hNc := HCP.out
  go_wp2_with fail
  clear hN
  go_loopw [49] (fun kv wr => ∃ k : Nat, kv = .int .i64 (k : Int) ∧ k ≤ N ∧ Below g w0 wr ∧ Below w8.heap.size w8 wr) (fun kv _ => N - (intOf kv).toNat)
  case atStart => exact ⟨0, rfl, Nat.zero_le _, HB8.out, Below.refl _ _⟩
  case round =>
    obtain ⟨k, rfl, hk, hbg, hb⟩ := hrel
    have HBG := Lib.hid hbg; have HBE := Lib.hid hb
    have hsr : g ≤ wr.heap.size := by have := hb.size; omega
    have RLr := Lib.hid (RL8.out.step hb); have RPr := Lib.hid (RP8.out.step hb)
    clear hbg hb
    by_cases hlt : k < N
    · have hkl : k < P.length := by rw [HNP.out]; exact hlt
      obtain ⟨b, o, hp, _, _⟩ := RPr.out k hkl
      subst hp
      have hi0 : (0 : Int) ≤ (k : Int) := by omega
      have hi2 : (k : Int) < (N : Int) := by omega
      have hdd : decide (k < N) = true := decide_eq_true hlt
      have hkN : (k : Int) ≤ (N : Int) := by omega
      have hkc : (k : Int) ≤ (cP : Int) := by omega
      have hNcP : (N : Int) ≤ (cP : Int) := by omega
      have hk1 : (k : Int) + 1 ≤ (N : Int) := by omega
      have hk1' : (0 : Int) ≤ (k : Int) + 1 := by omega
      have hk1c : (k : Int) + 1 ≤ (cP : Int) := by omega
      have sw : IntKind.i64.wrap ((k : Int) + 1) = (k : Int) + 1 := IntWalk.i64_in _ (by omega)
      have htn : ((k : Int) + 1).toNat = k + 1 := by omega
      obtain ⟨S, hS⟩ : ∃ S, wr.heap.size = S := ⟨_, rfl⟩
      have HSW := Lib.hid hS
      have HMK := Lib.hid (show (P.take k).length = k by rw [List.length_take]; omega)
      have HDK := Lib.hid (show (P.drop (k + 1)).length = N - (k + 1) by rw [List.length_drop, HNP.out])
      have HRP := RPr
      obtain ⟨c, hcc⟩ : ∃ c, cP = c := ⟨_, rfl⟩
      subst hcc
      clear hS
      go_upto_region 11 with fail
      refine region_factsC (by kernel_rfl) (GL S b o N cP k P) (fun _ W => Below S wr W ∧ S ≤ W.heap.size) (by kernel_rfl) (by kernel_rfl) ?h0 ?hstep ?hend
      case h0 => exact ⟨below_drewN (Below.refl _ _) 1, by rw [← HSW.out]; exact Nat.le_refl _⟩
      case hstep =>
        intro i oo l a W ho hat K hK
        have hi : i < 10 := (Array.getElem?_eq_some_iff.1 ho).1
        obtain rfl | rfl | rfl | rfl | rfl | rfl | rfl | rfl | rfl | rfl : i = 0 ∨ i = 1 ∨ i = 2 ∨ i = 3 ∨ i = 4 ∨ i = 5 ∨ i = 6 ∨ i = 7 ∨ i = 8 ∨ i = 9 := by omega
        all_goals
          have ho := Option.some.inj (show some _ = some oo from ho)
          subst ho
        · have e0 : a.tmps[4]?.getD undef = .slice (some ⟨b, o, none⟩) N cP := hat.out 4 (by kernel_rfl)
          have HF1 := Lib.hid (hK (.slice (some ⟨b, o, none⟩) N cP) W rfl (fun kk u _ h => h.mono 0) hat.base)
          clear hat hK
          go_simp
          exact HF1.out
        · have e0 : a.tmps[8]?.getD undef = .int .i64 (k : Int) := hat.out 8 (by kernel_rfl)
          have HF1 := Lib.hid (hK (.int .i64 (k : Int)) W rfl (fun kk u _ h => h.mono 1) hat.base)
          clear hat hK
          go_simp
          exact HF1.out
        · have e0 : a.tmps[52]?.getD undef = .slice (some ⟨b, o, none⟩) N cP := hat.have_ 0 52 (by kernel_rfl) (hat.dep 0 (by kernel_rfl))
          have e1 : a.tmps[53]?.getD undef = .int .i64 (k : Int) := hat.have_ 1 53 (by kernel_rfl) (hat.dep 1 (by kernel_rfl))
          have HF1 := Lib.hid (hK (.slice (some ⟨b, o, none⟩) k cP) W rfl (fun kk u _ h => h.mono 2) hat.base)
          clear hat hK
          go_simp
          exact HF1.out
        · have e1 : a.tmps[54]?.getD undef = .slice (some ⟨b, o, none⟩) k cP := hat.have_ 2 54 (by kernel_rfl) (hat.dep 2 (by kernel_rfl))
          have hz := hat.size
          rw [if_pos (by rfl)]
          refine wp_apprq (.const (.slice none 0 0)) (.tmp 54) (.inr rfl) ⟨_, rfl⟩ rfl rfl S (.slice none 0 0) 0 [] (P.take k) rfl (World.ownsRow_nil _ _ _ _) (some ⟨b, o, none⟩) cP ((Array.getD_eq_getD_getElem? ..).trans (e1.trans (by rw [HMK.out]))) (fun hne => src_take (HRP.out.step (by rw [HSW.out]; exact hat.base.1)) hne) (by rw [HMK.out]; omega) hat.base.2 ?_
          intro v' w' ho hg hb
          rw [HMK.out, Nat.zero_add, List.nil_append] at ho
          refine hK _ _ (fun _ => ho) (fun kk u hk h => h.other 3 (fun e => by subst e; rw [hat.open_] at hk; cases hk) (fun e => by rcases e with rfl | rfl <;> (first | (rw [hat.later 8 (by kernel_rfl)] at hk; cases hk) | (rw [hat.later 9 (by kernel_rfl)] at hk; cases hk)))) ⟨hat.base.1.trans hb, Nat.le_trans hat.base.2 hb.size⟩
        · have e0 : a.tmps[4]?.getD undef = .slice (some ⟨b, o, none⟩) N cP := hat.out 4 (by kernel_rfl)
          have HF1 := Lib.hid (hK (.slice (some ⟨b, o, none⟩) N cP) W rfl (fun kk u _ h => h.mono 4) hat.base)
          clear hat hK
          go_simp
          exact HF1.out
        · have e0 : a.tmps[8]?.getD undef = .int .i64 (k : Int) := hat.out 8 (by kernel_rfl)
          have HF1 := Lib.hid (hK (.int .i64 (k : Int)) W rfl (fun kk u _ h => h.mono 5) hat.base)
          clear hat hK
          go_simp
          exact HF1.out
        · have e0 : a.tmps[57]?.getD undef = .int .i64 (k : Int) := hat.have_ 5 57 (by kernel_rfl) (hat.dep 5 (by kernel_rfl))
          have HF1 := Lib.hid (hK (.int .i64 ((k : Int) + 1)) W rfl (fun kk u _ h => h.mono 6) hat.base)
          clear hat hK
          go_simp
          exact HF1.out
        · have e0 : a.tmps[56]?.getD undef = .slice (some ⟨b, o, none⟩) N cP := hat.have_ 4 56 (by kernel_rfl) (hat.dep 4 (by kernel_rfl))
          have e1 : a.tmps[58]?.getD undef = .int .i64 ((k : Int) + 1) := hat.have_ 6 58 (by kernel_rfl) (hat.dep 6 (by kernel_rfl))
          have HH := Lib.hid (And.intro hat hK)
          clear hat hK
          go_simp
          obtain ⟨hat, hK⟩ := HH.out
          first | exact hK _ _ ⟨_, _, rfl, fun _ => rfl⟩ (fun kk u _ h => h.mono 7) hat.base | (split <;> exact hK _ _ ⟨_, _, rfl, fun h => by first | rfl | omega⟩ (fun kk u _ h => h.mono 7) hat.base)
        · obtain ⟨A, cc, e2, hA⟩ := hat.have_ 7 59 (by kernel_rfl) (hat.dep 7 (by kernel_rfl))
          have hown := hat.have_ 3 55 (by kernel_rfl) (hat.dep 3 (by kernel_rfl)) hat.open_
          have hz := hat.size
          rw [if_pos (by rfl)]
          refine wp_apprq (.tmp 55) (.tmp 59) (.inl ⟨_, rfl⟩) ⟨_, rfl⟩ rfl rfl S (a.tmps[55]?.getD undef) k (P.take k) (P.drop (k + 1)) (Array.getD_eq_getD_getElem? ..) hown A cc ((Array.getD_eq_getD_getElem? ..).trans (e2.trans (by rw [HDK.out]))) (fun hne => ?_) (by rw [HDK.out]; omega) hat.base.2 ?_
          · have hlt : k + 1 < N := by have := List.length_pos_iff.2 hne; rw [HDK.out] at this; omega
            rw [hA hlt]
            exact ⟨_, rfl, src_drop (HRP.out.step (by rw [HSW.out]; exact hat.base.1)) (by have := HNP.out; omega)⟩
          intro v' w' ho hg hb
          refine hK _ _ ho (fun kk u hk h => h.other 8 (fun e => fun hl => absurd hl (by rw [set_same (by rw [hz]; decide)]; decide)) (fun e => by rcases e with rfl | rfl <;> (first | (rw [hat.open_] at hk; cases hk) | (rw [hat.later 9 (by kernel_rfl)] at hk; cases hk)))) ⟨hat.base.1.trans hb, Nat.le_trans hat.base.2 hb.size⟩
        · have h12 := hat.have_ 8 60 (by kernel_rfl) (hat.dep 8 (by kernel_rfl))
          generalize hv : a.tmps[60]?.getD undef = v at h12
          have HF1 := Lib.hid (hK v W h12 (fun kk u _ h => h.mono 9) hat.base)
          clear hat hK
          go_simp
          exact HF1.out
      case hend =>
        intro l u wc hall hG hB
        have e9 : wc.ownsRow S 87 2 (u 9) (k + (P.drop (k + 1)).length) (flatR (P.take k ++ P.drop (k + 1))) := hG 9 9 (by kernel_rfl)
        have hbc : Below wr.heap.size wr wc := by rw [HSW.out]; exact hB.1
        obtain ⟨af, cf, ef, hcf, hRf, hbf⟩ := reqs_of_own e9 (by rw [List.length_append, HMK.out])
        have hll : (P.take k ++ P.drop (k + 1)).length ≤ 400 := by rw [List.length_append, HMK.out, HDK.out]; omega
        have hll2 : k + (P.drop (k + 1)).length = (P.take k ++ P.drop (k + 1)).length := by rw [List.length_append, HMK.out]
        rw [hll2] at ef
        have hlm := less_mem HOKP.out.1 hkl
        have hxm : P.getD k rq0 ∈ P := getD_mem' hkl
        have hxin := HOKP.out.2 _ hxm
        have hnw := red_less (needok_up HOK.out) HMEM.out hxm hlm
        have hyw : Way L (P.getD k rq0).1.toNat (P.getD k rq0).2.toNat := .one (by
          rw [Int.toNat_of_nonneg (by omega), Int.toNat_of_nonneg (by omega)]
          exact ((HMEM.out _).1 hxm).1)
        have hinl : Inn 8 (P.take k ++ P.drop (k + 1)) := fun y hy => needok_inn HOKP.out y (hlm y hy).1
        have HE := Lib.hid ef; have HRF := Lib.hid hRf; have HBC := Lib.hid hbc; have HNW := Lib.hid hnw; have HYW := Lib.hid hyw; have HINL := Lib.hid hinl; have HLL := Lib.hid hll; have HXIN := Lib.hid (show (P.getD k rq0).1.toNat < 8 ∧ (P.getD k rq0).2.toNat < 8 from ⟨by omega, by omega⟩)
        clear hG hB hall e9 hcf hRf hbf hll hll2 hlm hxm hxin hnw hyw hinl hbc
        simp only [putAll, Act.put, List.setIfInBounds_toArray, List.set_cons_zero, List.set_cons_succ, Nat.zero_add, Nat.reduceAdd]
        rw [ef]
        clear ef
        generalize (P.getD k rq0).1.toNat = xi at *
        generalize (P.getD k rq0).2.toNat = xj at *
        generalize P.take k ++ P.drop (k + 1) = m at *
        generalize u 0 = y0; generalize u 1 = y1; generalize u 2 = y2; generalize u 3 = y3; generalize u 4 = y4; generalize u 5 = y5; generalize u 6 = y6; generalize u 7 = y7; generalize u 8 = y8
        have hbgc := HBG.out.trans (HBC.out.mono hsr)
        have hsc : g ≤ wc.heap.size := by have := HBC.out.size; omega
        have HBGC := Lib.hid hbgc
        have K7 := Lib.hid (ways_any aL cL L 8 wc (by decide) (by decide) (needok_inn HOK.out) (by omega) (RLr.out.step HBC.out))
        clear hbgc
        go_wp2_with fail
        refine (K7.out).mono ?_
        rintro e wd ⟨q3, c3, bs3, M3, rfl, _, hM3, hW3, hbd⟩
        have HBD := Lib.hid (HBGC.out.trans (hbd.mono hsc))
        have hsd : g ≤ wd.heap.size := by have := hbd.size; omega
        have HM3 := Lib.hid hM3; have HW3 := Lib.hid hW3
        have HB8d := Lib.hid ((HBE.out.trans (HBC.out.mono HBE.out.size)).trans (hbd.mono (by have := HBE.out.size; have := HBC.out.size; omega)))
        have K8 := Lib.hid (ways_any af cf m 8 wd (by decide) (by decide) HINL.out HLL.out (HRF.out.step hbd))
        clear hbd hM3 hW3 K7
        go_wp2_with fail
        refine (K8.out).mono ?_
        rintro e we ⟨q4, c4, bs4, M4, rfl, _, hM4, hW4, hbe⟩
        have HBEE := Lib.hid (HBD.out.trans (hbe.mono hsd))
        have hse : g ≤ we.heap.size := by have := hbe.size; omega
        have HB8e := Lib.hid (HB8d.out.trans (hbe.mono HB8d.out.size))
        have K9 := Lib.hid (same_any _ _ q3 q4 c3 c4 8 bs3 bs4 M3 M4 we (by decide) (HM3.out.step hbe) hM4)
        have hdif : ¬ ∀ i j, i < 8 → j < 8 → M3 i j = M4 i j := fun h => by
          obtain ⟨hx8, hy8⟩ := HXIN.out
          have e1 := (HW3.out xi xj hx8 hy8).2 HYW.out
          rw [h xi xj hx8 hy8] at e1
          exact HNW.out ((hW4 xi xj hx8 hy8).1 e1)
        have HDIF := Lib.hid hdif
        clear hbe hM4 hW4 hdif K8
        go_wp2_with fail
        refine (K9.out).mono ?_
        rintro e wf ⟨r, rfl, hr, hbf⟩
        have hrf : r = false := by
          cases r with
          | false => rfl
          | true => exact absurd (hr.1 rfl) HDIF.out
        subst hrf
        have HBF := Lib.hid (HBEE.out.trans (hbf.mono hse))
        have HB8f := Lib.hid (HB8e.out.trans (hbf.mono HB8e.out.size))
        clear hbf hr K9
        go_wp2_with fail
        go_roundw
        case rel => exact ⟨k + 1, by go_num, by omega, HBF.out, HB8f.out⟩
        case measure => simp [intOf]; omega
    · have hkN : k = N := by omega
      subst hkN
      have hdd : decide (k < k) = false := by simp
      have hni : ¬ (k : Int) < (k : Int) := by omega
      have CA := Lib.hid (awake28_any wr HCS.out)
      go_wp2_with fail
      refine (CA.out).mono ?_
      rintro e w9 ⟨rfl, hb9⟩
      have HB9 := Lib.hid (HBG.out.trans (hb9.mono hsr))
      clear hb9 CA
      go_wp2_with fail
      go_ret
      exact ⟨rfl, by rw [HG.out]; exact HB9.out⟩
theorem reduces_any (w : World) (a : Option Addr) (n c : Nat) (hi : Ints w w.heap.size a n) (CS : SortedC) :
    Calls Try.prog 4 #[.slice a n c] w (BoolP true w) := by
  cases h : decide (n ≤ 400) with
  | false => exact reduces_heavy w a n c h CS
  | true => exact reduces_light w a n c h hi CS
end Go.Proofs.Ytcppmkimfoajaaa
