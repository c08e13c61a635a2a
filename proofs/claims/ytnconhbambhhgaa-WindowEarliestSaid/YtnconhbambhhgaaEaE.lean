/- The law WindowEarliest: the walk. -/
import Derived.Test.YtnconhbambhhgaaEaF
namespace Go.Proofs.Ytnconhbambhhgaa
open Go.RowKit
set_option linter.all false

set_option maxRecDepth 100000 in
set_option maxHeartbeats 8000000 in
theorem early_light (w : World) (a : Option Addr) (n c : Nat) (x : Int) (hxx : 0 ≤ x ∧ x ≤ 255) (h : decide (n ≤ 400) = true) (hi : Ints w w.heap.size a n) :
    Calls Try.prog 4 #[.slice a n c, .int .u8 x] w (BoolP true w) := by
  have CL := Lib.hid (light_any a n c true w h)
  have CR := Lib.hid (roll_any a n c w (of_decide_eq_true h) hi)
  clear h hi
  obtain ⟨i0, hi0, hz0, hz1, hz2⟩ := info_parts info3
  obtain ⟨fr, hfr⟩ : ∃ fr : Nat, x % 60 = fr := ⟨(x % 60).toNat, by omega⟩
  have hf60 : fr < 60 := by omega
  go_enter Try.func4, Try.ntmps4
  go_wp2_with fail
  refine (CL.out).mono ?_
  rintro e w0 ⟨rfl, rfl⟩
  go_wp2_with fail
  refine (CR.out).mono ?_
  rintro e w1 ⟨rfl, hd1, hb1⟩
  obtain ⟨g, hg⟩ : ∃ g, w0.heap.size = g := ⟨_, rfl⟩
  rw [hg] at hd1 hb1
  have hs0 : g < w1.heap.size := hd1.lt
  have CC := Lib.hid (fill_any w1 g hd1)
  have HB1 := Lib.hid hb1; have HG := Lib.hid hg
  rw [hg]
  clear hd1 hb1 hg CL CR
  go_wp2_with fail
  refine (CC.out).mono ?_
  rintro e w2 ⟨p, q, r, ta, da, c1, c2, ct, cd, L, T, Q, R, TS, DS, rfl, hd2, hg2, hgood, hR, hQ, hL2, hL5, hto, hC, h6⟩
  have cN := next_any (w2.alloc (.cells #[.slice p L.length c1, .slice q Q.length c2, .slice r R.length 2] 38)) g 2 (by decide) (by decide) (hd2.below ((Below.refl _ _).alloc (Nat.le_refl _) _))
  have CN := Lib.hid cN
  have HGD := Lib.hid hgood
  have hb2 : Below g w0 w2 := HB1.out.trans ⟨hg2.os, hg2.tape, hg2.output, hg2.size, fun k hk => hg2.block k (by omega) (by simp; omega)⟩
  have HB2 := Lib.hid hb2
  have HTO := Lib.hid hto; have HR := Lib.hid hR; have HCX := Lib.hid hC
  have hsz2 : g < w2.heap.size := hd2.lt
  clear hd2 hg2 hgood cN hb2 hto CC hR hQ hC
  go_wp2_with fail
  refine (CN.out).mono ?_
  rintro e w3 ⟨team, rfl, ht0, ht1, hd3, hg3⟩
  obtain ⟨hG3, hT3, hD3⟩ := HGD.out w3 ((World.grownBy_alloc w2 (.cells #[.slice p L.length c1, .slice q Q.length c2, .slice r R.length 2] 38) (some g)).trans hg3)
  have hx3 : CalBox w2.heap.size p q r L.length c1 Q.length c2 R.length 2 w3 := by
    have hh : w3.heap[w2.heap.size]? = some (.cells #[.slice p L.length c1, .slice q Q.length c2, .slice r R.length 2] 38 (0, 0)) :=
      (hg3.block _ (by simp) (by simp; omega)).trans (heap_alloc_new _ _)
    refine ⟨?_, ?_, ?_⟩ <;> rw [cell_of_row _ _ _ _ _ _ hh] <;> rfl
  have hb3 : Below g w0 w3 := HB2.out.trans ⟨hg3.os, hg3.tape, hg3.output, by have := hg3.size; simp at this; omega, fun k hk => (hg3.block k (by simp; omega) (by simp; omega)).trans (Below.heap_alloc _ _ _ (by omega))⟩
  obtain ⟨team, rfl⟩ := Int.eq_ofNat_of_zero_le ht0
  have htm : team < R.length := by rw [HR.out]; omega
  have hgw3 : g < w3.heap.size := hd3.lt
  have CE := Lib.hid (earliest_good p q r ta da L T Q R TS DS c1 c2 2 ct cd team (fr : Int) w3 hG3 hT3 hD3 HCX.out.len (by omega) HCX.out.tin htm HCX.out.may HCX.out.fit)
  have CF := Lib.hid (fun (W W' : World) ta2 da2 c4 c5 k (hW : Below w3.heap.size w3 W) h1 h2 => fits_snoc p q r ta2 da2 L T Q R TS DS c1 c2 2 c4 c5 team k W (hG3.step hW) HCX.out (by omega) htm h1 h2)
  have HG3 := Lib.hid hG3; have HX3 := Lib.hid hx3; have HB3 := Lib.hid hb3; have HT3 := Lib.hid hT3; have HD3 := Lib.hid hD3
  have HDY := Lib.hid (show DaysOk L from ⟨fun j hj => (days_of (hG3.days j hj)).2, hG3.asc⟩)
  rw [HCX.out.len] at CE
  obtain ⟨x0, x1, x2⟩ := hx3
  clear hG3 hT3 hD3 hb3 hd3 hg3 HGD CN HB2
  have hw1 : w0.heap.size ≤ g := by have := HG.out; omega
  clear HB1 hs0
  go_wp2_with fail
  refine (CE.out).mono ?_
  rintro e w4 ⟨day, ok, rfl, hF, hb4⟩
  have hok1 : ok = true → day ≤ 259 := fun e => by
    subst e
    obtain ⟨_, _, j, hj, h⟩ := earl_may HDY.out hF
    have := HTO.out j hj
    omega
  have HF := Lib.hid hF; have HOK := Lib.hid hok1; have HB4 := Lib.hid hb4
  clear hF hok1 hb4 CE x0 x1 x2
  go_wp2_with fail
  have hgw4 : g < w4.heap.size := Nat.lt_of_lt_of_le hgw3 HB4.out.size
  go_loopw [14] (fun kv wr => ∃ k : Nat, kv = .int .i64 (k : Int) ∧ fr ≤ k ∧ k ≤ 260 ∧ (ok = true → (k : Int) ≤ day) ∧ Below w4.heap.size w4 wr) (fun kv _ => 260 - (intOf kv).toNat)
  case atStart => exact ⟨fr, rfl, Nat.le_refl _, by omega, fun e => by subst e; exact (earl_may HDY.out HF.out).2.1, Below.refl _ _⟩
  case round =>
    obtain ⟨k, rfl, hk0, hk, hkd, hb⟩ := hrel
    have HBE := Lib.hid hb; have HKD := Lib.hid hkd
    clear hb hkd
    by_cases hlt : k < 260
    · have hi2 : (k : Int) < 260 := by omega
      have hdd : decide (k < 260) = true := decide_eq_true hlt
      go_upto_region 12 with fail
      have HW3 := Lib.hid (HB4.out.trans (HBE.out.mono HB4.out.size))
      obtain ⟨gd, hgd⟩ : ∃ b, goodF L T R TS DS team (k : Int) = b := ⟨_, rfl⟩
      have HGD := Lib.hid hgd
      clear hgd
      refine region_facts3 (by kernel_rfl) (G12 (.agg #[.slice p L.length c1, .slice q Q.length c2, .slice r R.length 2]) (.slice ta TS.length ct) (.slice da TS.length cd) wr.heap.size TS DS (team : Int) (k : Int) gd) X12 (fun _ W => Below wr.heap.size wr W) (by kernel_rfl) (by kernel_rfl) ?h0 ?hstep ?hend
      case h0 => exact below_drewN (Below.refl _ _) 1
      case hstep =>
        intro i2 oo l a W ho hat hX K hK
        have hi2 : i2 < 14 := (Array.getElem?_eq_some_iff.1 ho).1
        obtain rfl | rfl | rfl | rfl | rfl | rfl | rfl | rfl | rfl | rfl | rfl | rfl | rfl | rfl : i2 = 0 ∨ i2 = 1 ∨ i2 = 2 ∨ i2 = 3 ∨ i2 = 4 ∨ i2 = 5 ∨ i2 = 6 ∨ i2 = 7 ∨ i2 = 8 ∨ i2 = 9 ∨ i2 = 10 ∨ i2 = 11 ∨ i2 = 12 ∨ i2 = 13 := by omega
        all_goals
          have ho := Option.some.inj (show some _ = some oo from ho)
          subst ho
        · have e0 : a.tmps[6]?.getD undef = .pointer (some ⟨w2.heap.size, 0, none⟩) := hat.out 6 (by kernel_rfl)
          obtain ⟨y0, y1, y2⟩ := HX3.out.step (HW3.out.trans (hat.base.mono HW3.out.size))
          have HF1 := Lib.hid (hK (.agg #[.slice p L.length c1, .slice q Q.length c2, .slice r R.length 2]) W (rfl) (fun k d hk hl => (hat.have_ k d hk hl).mono 0) (fun k d _ _ _ => ⟨X12.other (by omega), X12.other (by omega)⟩) hat.base)
          clear hat hX hK
          go_simp
          exact HF1.out
        · have e0 : a.tmps[7]?.getD undef = .slice ta TS.length ct := hat.out 7 (by kernel_rfl)
          have HF1 := Lib.hid (hK (.slice ta TS.length ct) W (rfl) (fun k d hk hl => (hat.have_ k d hk hl).mono 1) (fun k d _ _ _ => ⟨X12.other (by omega), X12.other (by omega)⟩) hat.base)
          clear hat hX hK
          go_simp
          exact HF1.out
        · have e1 : a.tmps[51]?.getD undef = .slice ta TS.length ct := hat.have_ 1 51 (by kernel_rfl) (hat.dep 1 (by kernel_rfl))
          rcases Nat.eq_zero_or_pos TS.length with hi00 | hi00
          · have HF1 := Lib.hid (hK (.slice none 0 0) W (⟨(fun b e => by cases e), (fun _ => by rw [hi00, show TS = [] from List.length_eq_zero_iff.1 hi00]; exact World.ownsRow_nil _ _ _ _)⟩) (fun k d hk hl => (hat.have_ k d hk hl).mono 2) (fun k d hk hl hki => ⟨(fun _ b hb e => by cases e), (fun _ b hb => by cases hb)⟩) hat.base)
            rw [hi00] at e1
            clear hat hX hK
            cases ta with
            | none =>
              go_simp
              exact HF1.out
            | some ad =>
              go_simp
              exact HF1.out
          · obtain ⟨q0, o0, hq0, _⟩ := HT3.out 0 (by have := HCX.out.len; omega)
            have hsrc : ∀ (j : Nat) (u : Value), (vi TS)[j]? = some u → W.cell? ((⟨q0, o0, none⟩ : Addr).add j) = some u := fun j u hu => by
              have hj : j < TS.length := by
                have := (List.getElem?_eq_some_iff.1 hu).1
                unfold vi at this
                simpa using this
              obtain ⟨b, o', e, hc⟩ := (HT3.out.step (HW3.out.trans (hat.base.mono HW3.out.size))) j hj
              rw [hq0] at e
              injection e with e; injection e with e1 e2
              subst e1; subst e2
              rw [vi_get TS j hj] at hu
              injection hu with hu
              subst hu
              rw [Addr.add_lit]; exact hc
            rw [hq0] at e1
            have hz := hat.size
            refine step_append_lies W rfl (.const (.slice none 0 0)) (.tmp 51) 22 rfl wr.heap.size 3 i0 (.int .i64 0) 1 8 (by kernel_rfl) hi0 hz0 hz1 hz2 rfl (by decide) (.slice none 0 0) 0 [] rfl (World.ownsRow_nil _ _ _ _) ⟨q0, o0, none⟩ TS.length ct (vi TS) ((Array.getD_eq_getD_getElem? ..).trans e1) (by rw [vi_length]; have := HCX.out.len; omega) hsrc (fun u hu => vi_one hu) (by omega) (by unfold maxLen; omega) (by omega) hat.base.size W.heap.size rfl ?_
            intro g5 cap w' ho hg hq hglt
            rw [Nat.zero_add, List.nil_append] at ho
            rw [Nat.zero_add]
            have hgs : g5 = W.heap.size := by rcases hq with e | e; cases e; exact e
            refine hK _ _ (⟨fun b e => by simp only [Value.ownBlock, Option.some.injEq] at e; omega, fun _ => ho⟩) (fun k d hk hl => (hat.have_ k d hk hl).grow 2 hg (fun b e => by cases e) hat.open_ hl (by rw [hz]; decide)) (fun k d hk hl hki => ?_) (below_grown hat.base hg (fun k e => by cases e) hat.base.size)
            by_cases h7 : k = 9
            · subst h7
              have hd : d = 59 := by injection hk with hk; exact hk.symm
              subst hd
              have h7 := (hat.have_ 9 59 (by kernel_rfl) hl (hat.later 10 (by kernel_rfl))).lt
              exact ⟨fun _ b hb e => by simp only [Value.ownBlock, Option.some.injEq] at e; have := h7 b hb; omega, fun _ b hb e => by simp only [Value.ownBlock, Option.some.injEq] at hb; have := h7 b e; omega⟩
            · exact ⟨X12.other (by omega), X12.other (by omega)⟩
        · have e0 : a.tmps[9]?.getD undef = .int .i64 (team : Int) := hat.out 9 (by kernel_rfl)
          have HF1 := Lib.hid (hK (.int .i64 (team : Int)) W (rfl) (fun k d hk hl => (hat.have_ k d hk hl).mono 3) (fun k d _ _ _ => ⟨X12.other (by omega), X12.other (by omega)⟩) hat.base)
          clear hat hX hK
          go_simp
          exact HF1.out
        · have e0 : a.tmps[53]?.getD undef = .int .i64 (team : Int) := hat.have_ 3 53 (by kernel_rfl) (hat.dep 3 (by kernel_rfl))
          have hs : OneAt (W.alloc (.cells #[.int .i64 (team : Int)] 3)) wr.heap.size (.slice (some ⟨W.heap.size, 0, none⟩) 1 1) (team : Int) := ⟨W.heap.size, rfl, hat.base.size, heap_alloc_new _ _⟩
          have HF1 := Lib.hid (hK (.slice (some ⟨W.heap.size, 0, none⟩) 1 1) (W.alloc (.cells #[.int .i64 (team : Int)] 3)) (fun _ => hs) (fun k d hk hl => (hat.have_ k d hk hl).grow 4 (World.grownBy_alloc W _ none) (fun b e => by cases e) hat.open_ hl (by rw [hat.size]; decide)) (fun k d _ _ _ => ⟨X12.other (by omega), X12.other (by omega)⟩) (hat.base.alloc hat.base.size _))
          clear hat hX hK hs
          go_simp
          exact HF1.out
        · have hown := ((hat.have_ 2 52 (by kernel_rfl) (hat.dep 2 (by kernel_rfl))).2 hat.open_)
          obtain ⟨b, e2, hbS, hh⟩ := hat.have_ 4 54 (by kernel_rfl) (hat.dep 4 (by kernel_rfl)) hat.open_
          have hz := hat.size
          refine step_append_lies W rfl (.tmp 52) (.tmp 54) 22 rfl wr.heap.size 3 i0 (.int .i64 0) 1 8 (by kernel_rfl) hi0 hz0 hz1 hz2 rfl (by decide) (a.tmps[52]?.getD undef) TS.length (vi TS) (Array.getD_eq_getD_getElem? ..) hown ⟨b, 0, none⟩ 1 1 [.int .i64 (team : Int)] ((Array.getD_eq_getD_getElem? ..).trans e2) rfl (World.news_of_block (cs := #[.int .i64 (team : Int)]) hh) (fun u hu => by simp at hu; subst hu; rfl) (by decide) (by have := HCX.out.len; unfold maxLen; omega) (by have := HCX.out.len; omega) hat.base.size W.heap.size rfl ?_
          intro g5 cap w' ho hg hq hglt
          have hrow : RowAt w' wr.heap.size (.slice (some ⟨g5, 0, none⟩) (TS.length + 1) cap) (TS ++ [(team : Int)]) := by
            rw [← vi_snoc] at ho
            obtain ⟨a', c', ea, ht⟩ := teams_of_own ho (by simp)
            injection ea with ea1 ea2 ea3
            subst ea1
            exact ⟨g5, cap, by rw [List.length_append]; rfl, hglt, ht⟩
          refine hK _ _ (fun _ => hrow) (fun k d hk hl => (hat.have_ k d hk hl).grow 5 hg (fun b' e hk6 => ?_) hat.open_ hl (by rw [hz]; decide)) (fun k d hk hl hki => ?_) (below_grown hat.base hg (fun k e => (hown.lt k e).1) hat.base.size)
          · rcases hk6 with rfl | rfl | rfl | rfl | rfl | rfl
            · exact .inr (.inl ⟨.inl rfl, .inl rfl⟩)
            · exact .inr (.inl ⟨.inr rfl, .inl rfl⟩)
            · exact .inl (.inl rfl)
            · rw [hat.later 7 (by kernel_rfl)] at hl; cases hl
            · exact .inl (.inr fun e' => hX 2 52 9 d (by kernel_rfl) hk (hat.dep 2 (by kernel_rfl)) hl (by decide) (.inl ⟨rfl, rfl⟩) b' e e')
            · rw [hat.later 10 (by kernel_rfl)] at hl; cases hl
          · by_cases h6 : k = 7
            · subst h6
              rw [hat.later 7 (by kernel_rfl)] at hl; cases hl
            · exact ⟨X12.other (by omega), X12.other (by omega)⟩
        · have e0 : a.tmps[8]?.getD undef = .slice da TS.length cd := hat.out 8 (by kernel_rfl)
          have HF1 := Lib.hid (hK (.slice da TS.length cd) W (rfl) (fun k d hk hl => (hat.have_ k d hk hl).mono 6) (fun k d _ _ _ => ⟨X12.other (by omega), X12.other (by omega)⟩) hat.base)
          clear hat hX hK
          go_simp
          exact HF1.out
        · have e1 : a.tmps[56]?.getD undef = .slice da TS.length cd := hat.have_ 6 56 (by kernel_rfl) (hat.dep 6 (by kernel_rfl))
          rcases Nat.eq_zero_or_pos TS.length with hi00 | hi00
          · have HF1 := Lib.hid (hK (.slice none 0 0) W (⟨getD_set_true (hat.dep 5 (by kernel_rfl)), (fun _ => by rw [HCX.out.len, hi00, show DS = [] from List.length_eq_zero_iff.1 (by rw [HCX.out.len]; exact hi00)]; exact World.ownsRow_nil _ _ _ _)⟩) (fun k d hk hl => (hat.have_ k d hk hl).mono 7) (fun k d hk hl hki => ⟨(fun _ b hb e => by cases e), (fun _ b hb => by cases hb)⟩) hat.base)
            rw [hi00] at e1
            clear hat hX hK
            cases da with
            | none =>
              go_simp
              exact HF1.out
            | some ad =>
              go_simp
              exact HF1.out
          · obtain ⟨q0, o0, hq0, _⟩ := HD3.out 0 (by have := HCX.out.len; omega)
            have hsrc : ∀ (j : Nat) (u : Value), (vi DS)[j]? = some u → W.cell? ((⟨q0, o0, none⟩ : Addr).add j) = some u := fun j u hu => by
              have hj : j < DS.length := by
                have := (List.getElem?_eq_some_iff.1 hu).1
                unfold vi at this
                simpa using this
              obtain ⟨b, o', e, hc⟩ := (HD3.out.step (HW3.out.trans (hat.base.mono HW3.out.size))) j hj
              rw [hq0] at e
              injection e with e; injection e with e1 e2
              subst e1; subst e2
              rw [vi_get DS j hj] at hu
              injection hu with hu
              subst hu
              rw [Addr.add_lit]; exact hc
            rw [hq0] at e1
            have hz := hat.size
            refine step_append_lies W rfl (.const (.slice none 0 0)) (.tmp 56) 22 rfl wr.heap.size 3 i0 (.int .i64 0) 1 8 (by kernel_rfl) hi0 hz0 hz1 hz2 rfl (by decide) (.slice none 0 0) 0 [] rfl (World.ownsRow_nil _ _ _ _) ⟨q0, o0, none⟩ TS.length cd (vi DS) ((Array.getD_eq_getD_getElem? ..).trans e1) (by rw [vi_length]; have := HCX.out.len; omega) hsrc (fun u hu => vi_one hu) (by omega) (by unfold maxLen; omega) (by omega) hat.base.size W.heap.size rfl ?_
            intro g5 cap w' ho hg hq hglt
            rw [Nat.zero_add, List.nil_append] at ho
            rw [Nat.zero_add]
            have hgs : g5 = W.heap.size := by rcases hq with e | e; cases e; exact e
            refine hK _ _ (⟨getD_set_true (hat.dep 5 (by kernel_rfl)), (fun _ => by rw [HCX.out.len]; exact ho)⟩) (fun k d hk hl => (hat.have_ k d hk hl).grow 7 hg (fun b e => by cases e) hat.open_ hl (by rw [hz]; decide)) (fun k d hk hl hki => ?_) (below_grown hat.base hg (fun k e => by cases e) hat.base.size)
            by_cases h7 : k = 5
            · subst h7
              have hd : d = 55 := by injection hk with hk; exact hk.symm
              subst hd
              have h7 := (hat.have_ 5 55 (by kernel_rfl) hl (hat.later 11 (by kernel_rfl))).lt
              exact ⟨fun _ b hb e => by simp only [Value.ownBlock, Option.some.injEq] at e; have := h7 b hb; omega, fun _ b hb e => by simp only [Value.ownBlock, Option.some.injEq] at hb; have := h7 b e; omega⟩
            · exact ⟨X12.other (by omega), X12.other (by omega)⟩
        · have e0 : a.tmps[14]?.getD undef = .int .i64 (k : Int) := hat.out 14 (by kernel_rfl)
          have HF1 := Lib.hid (hK (.int .i64 (k : Int)) W (rfl) (fun k d hk hl => (hat.have_ k d hk hl).mono 8) (fun k d _ _ _ => ⟨X12.other (by omega), X12.other (by omega)⟩) hat.base)
          clear hat hX hK
          go_simp
          exact HF1.out
        · have e0 : a.tmps[58]?.getD undef = .int .i64 (k : Int) := hat.have_ 8 58 (by kernel_rfl) (hat.dep 8 (by kernel_rfl))
          have hs : OneAt (W.alloc (.cells #[.int .i64 (k : Int)] 3)) wr.heap.size (.slice (some ⟨W.heap.size, 0, none⟩) 1 1) (k : Int) := ⟨W.heap.size, rfl, hat.base.size, heap_alloc_new _ _⟩
          have HF1 := Lib.hid (hK (.slice (some ⟨W.heap.size, 0, none⟩) 1 1) (W.alloc (.cells #[.int .i64 (k : Int)] 3)) (fun _ => hs) (fun k d hk hl => (hat.have_ k d hk hl).grow 9 (World.grownBy_alloc W _ none) (fun b e => by cases e) hat.open_ hl (by rw [hat.size]; decide)) (fun k d hk hl hki => by
            by_cases h2 : k = 2
            · subst h2
              have hd : d = 52 := by injection hk with hk; exact hk.symm
              subst hd
              have h2 := (hat.have_ 2 52 (by kernel_rfl) hl).1
              refine ⟨fun _ b hb e => ?_, fun _ b hb e => ?_⟩
              · simp only [Value.ownBlock, Option.some.injEq] at e
                have := h2 b hb; omega
              · simp only [Value.ownBlock, Option.some.injEq] at hb
                have := h2 b e; omega
            · exact ⟨X12.other (by omega), X12.other (by omega)⟩) (hat.base.alloc hat.base.size _))
          clear hat hX hK hs
          go_simp
          exact HF1.out
        · have hown := ((hat.have_ 7 57 (by kernel_rfl) (hat.dep 7 (by kernel_rfl))).2 hat.open_)
          obtain ⟨b, e2, hbS, hh⟩ := hat.have_ 9 59 (by kernel_rfl) (hat.dep 9 (by kernel_rfl)) hat.open_
          have hz := hat.size
          refine step_append_lies W rfl (.tmp 57) (.tmp 59) 22 rfl wr.heap.size 3 i0 (.int .i64 0) 1 8 (by kernel_rfl) hi0 hz0 hz1 hz2 rfl (by decide) (a.tmps[57]?.getD undef) DS.length (vi DS) (Array.getD_eq_getD_getElem? ..) hown ⟨b, 0, none⟩ 1 1 [.int .i64 (k : Int)] ((Array.getD_eq_getD_getElem? ..).trans e2) rfl (World.news_of_block (cs := #[.int .i64 (k : Int)]) hh) (fun u hu => by simp at hu; subst hu; rfl) (by decide) (by have := HCX.out.len; unfold maxLen; omega) (by have := HCX.out.len; omega) hat.base.size W.heap.size rfl ?_
          intro g5 cap w' ho hg hq hglt
          have hrow : RowAt w' wr.heap.size (.slice (some ⟨g5, 0, none⟩) (DS.length + 1) cap) (DS ++ [(k : Int)]) := by
            rw [← vi_snoc] at ho
            obtain ⟨a', c', ea, ht⟩ := teams_of_own ho (by simp)
            injection ea with ea1 ea2 ea3
            subst ea1
            exact ⟨g5, cap, by rw [List.length_append]; rfl, hglt, ht⟩
          refine hK _ _ (fun _ => hrow) (fun k d hk hl => (hat.have_ k d hk hl).grow 10 hg (fun b' e hk6 => ?_) hat.open_ hl (by rw [hz]; decide)) (fun k d hk hl hki => ?_) (below_grown hat.base hg (fun k e => (hown.lt k e).1) hat.base.size)
          · rcases hk6 with rfl | rfl | rfl | rfl | rfl | rfl
            · exact .inr (.inl ⟨.inl rfl, .inr (hat.have_ 7 57 (by kernel_rfl) (hat.dep 7 (by kernel_rfl))).1⟩)
            · exact .inr (.inl ⟨.inr rfl, .inr (hat.have_ 7 57 (by kernel_rfl) (hat.dep 7 (by kernel_rfl))).1⟩)
            · exact .inl (.inr fun e' => hX 5 d 7 57 hk (by kernel_rfl) hl (hat.dep 7 (by kernel_rfl)) (by decide) (.inr (.inr (.inl ⟨rfl, rfl⟩))) b' e' e)
            · exact .inr (.inr ⟨.inl rfl, .inl rfl⟩)
            · exact .inr (.inr ⟨.inr rfl, .inl rfl⟩)
            · exact .inl (.inl rfl)
          · exact ⟨X12.other (by omega), X12.other (by omega)⟩
        · have e0 : a.tmps[50]?.getD undef = .agg #[.slice p L.length c1, .slice q Q.length c2, .slice r R.length 2] := hat.have_ 0 50 (by kernel_rfl) (hat.dep 0 (by kernel_rfl))
          obtain ⟨q4, k4, e4, _, ht4⟩ := hat.have_ 5 55 (by kernel_rfl) (hat.dep 5 (by kernel_rfl)) hat.open_
          obtain ⟨q8, k8, e8, _, ht8⟩ := hat.have_ 10 60 (by kernel_rfl) (hat.dep 10 (by kernel_rfl)) hat.open_
          have CFW := Lib.hid (CF.out W w3 (some ⟨q4, 0, none⟩) (some ⟨q8, 0, none⟩) k4 k8 (k : Int) (HW3.out.trans (hat.base.mono HW3.out.size)) ht4 ht8)
          have HH := Lib.hid (And.intro hat (And.intro hX hK))
          generalize hl1 : (TS ++ [(team : Int)]).length = n1 at *
          generalize hl2 : (DS ++ [(k : Int)]).length = n2 at *
          clear hat hX hK ht4 ht8 hl1 hl2
          go_simp
          refine (CFW.out).mono ?_
          rintro e w' ⟨x, rfl, hx, hbw⟩
          obtain ⟨hat, hX, hK⟩ := HH.out
          exact hK _ _ ⟨x, rfl, by rw [hx, HGD.out]⟩ (fun k d hk hl => (hat.have_ k d hk hl).grow 11 (row := none) ⟨hbw.os, hbw.tape, hbw.output, hbw.size, fun k hk _ => hbw.block k hk⟩ (fun b e => by cases e) hat.open_ hl (by rw [hat.size]; decide)) (fun k d _ _ _ => ⟨X12.other (by omega), X12.other (by omega)⟩) (hat.base.trans (hbw.mono hat.base.size))
        · obtain ⟨x1, e0, hx1⟩ := hat.have_ 11 61 (by kernel_rfl) (hat.dep 11 (by kernel_rfl))
          have HF1 := Lib.hid (hK (.bool gd) W (rfl) (fun k d hk hl => (hat.have_ k d hk hl).mono 12) (fun k d _ _ _ => ⟨X12.other (by omega), X12.other (by omega)⟩) hat.base)
          clear hat hX hK
          by_cases hx0 : x1 = 0
          · subst hx0
            have hgt : gd = true := by rw [← hx1]; rfl
            subst hgt
            go_simp
            exact HF1.out
          · have hgt : gd = false := by rw [← hx1, decide_eq_false hx0]
            subst hgt
            have hdx : decide (x1 = 0) = false := decide_eq_false hx0
            have hdx2 : (x1 == 0) = false := beq_eq_false_iff_ne.2 hx0
            go_simp
            first | exact HF1.out | (rw [beq_eq_false_iff_ne.2 hx0]; exact HF1.out)
        · have e0 : a.tmps[62]?.getD undef = .bool gd := hat.have_ 12 62 (by kernel_rfl) (hat.dep 12 (by kernel_rfl))
          have HF1 := Lib.hid (hK (.bool gd) W (rfl) (fun k d hk hl => (hat.have_ k d hk hl).mono 13) (fun k d _ _ _ => ⟨X12.other (by omega), X12.other (by omega)⟩) hat.base)
          clear hat hX hK
          go_simp
          exact HF1.out
      case hend =>
        intro l u wc hall hG _ hB
        have e13 : u 13 = .bool gd := hG 13 15 (by kernel_rfl)
        have HBC := Lib.hid (HBE.out.trans (hB.mono HBE.out.size))
        clear hG hB hall
        simp only [putAll, Act.put, List.setIfInBounds_toArray, List.set_cons_zero, List.set_cons_succ, Nat.zero_add, Nat.reduceAdd]
        rw [e13]
        clear e13
        generalize u 0 = v0; generalize u 1 = v1; generalize u 2 = v2; generalize u 3 = v3; generalize u 4 = v4; generalize u 5 = v5; generalize u 6 = v6; generalize u 7 = v7; generalize u 8 = v8; generalize u 9 = v9; generalize u 10 = v10; generalize u 11 = v11; generalize u 12 = v12
        have hfk : (fr : Int) ≤ (k : Int) := by omega
        cases ok with
        | false =>
          have hgf : gd = false := by rw [← HGD.out]; exact earl_before HDY.out HF.out hfk (fun e => by cases e)
          subst hgf
          go_wp2_with fail
          go_roundw
          case rel => exact ⟨k + 1, by go_num, by omega, by omega, (fun e => by cases e), HBC.out⟩
          case measure => simp [intOf]; omega
        | true =>
          by_cases hkd : (k : Int) = day
          · have hgt : gd = true := by rw [← HGD.out, hkd]; exact (earl_may HDY.out HF.out).1
            subst hgt
            have hdk : decide ((k : Int) = day) = true := decide_eq_true hkd
            have CA := Lib.hid (awake_any wc)
            go_wp2_with fail
            refine (CA.out).mono ?_
            rintro e w5 ⟨rfl, hb5⟩
            have HB5 := Lib.hid hb5; clear hb5
            go_wp2_with fail
            go_ret
            refine ⟨rfl, ?_⟩
            have hsF := HBC.out.size
            rw [HG.out]
            exact HB3.out.trans ((HB4.out.mono (by omega)).trans ((HBC.out.mono (by omega)).trans (HB5.out.mono (by omega))))
          · have hgf : gd = false := by rw [← HGD.out]; exact earl_before HDY.out HF.out hfk (fun _ => by have := HKD.out rfl; omega)
            subst hgf
            have hdk : decide ((k : Int) = day) = false := decide_eq_false hkd
            go_wp2_with fail
            go_roundw
            case rel => exact ⟨k + 1, by go_num, by omega, by omega, (fun _ => by have := HKD.out rfl; omega), HBC.out⟩
            case measure => simp [intOf]; omega
    · have hk2 : k = 260 := by omega
      have hdd : decide (k < 260) = false := decide_eq_false hlt
      have hi2 : ¬ (k : Int) < 260 := by omega
      have hok : ok = false := by
        cases h : ok with
        | false => rfl
        | true => have := HKD.out h; have := HOK.out h; omega
      subst hok
      have CA := Lib.hid (awake_any wr)
      go_wp2_with fail
      refine (CA.out).mono ?_
      rintro e w5 ⟨rfl, hb5⟩
      have HB5 := Lib.hid hb5; clear hb5
      go_wp2_with fail
      go_ret
      refine ⟨rfl, ?_⟩
      have hsF := HBE.out.size
      rw [HG.out]
      exact HB3.out.trans ((HB4.out.mono (by omega)).trans ((HBE.out.mono (by omega)).trans (HB5.out.mono (by omega))))

theorem early_any (w : World) (a : Option Addr) (n c : Nat) (x : Int) (hx : 0 ≤ x ∧ x ≤ 255) (hi : Ints w w.heap.size a n) : Calls Try.prog 4 #[.slice a n c, .int .u8 x] w fun e w' => e = .returned (.bool true) ∧ Below w.heap.size w w' := by
  cases h : decide (n ≤ 400) with
  | false => exact early_heavy w a n c x h
  | true => exact early_light w a n c x hx h hi
end Go.Proofs.Ytnconhbambhhgaa
