/- The law of a full window. -/
import Derived.Test.YtcppmkimfoajaaaFlG
namespace Go.Proofs.Ytcppmkimfoajaaa
open Go.RowKit
set_option linter.all false

set_option maxRecDepth 100000 in
set_option maxHeartbeats 4000000 in
theorem full_any (w : World) (x0 x1 x2 : Int) (h0 : 0 ≤ x0 ∧ x0 ≤ 255) (h1 : 0 ≤ x1 ∧ x1 ≤ 255) (h2 : 0 ≤ x2 ∧ x2 ≤ 255) :
    Calls Try.prog 7 #[.int .u8 x0, .int .u8 x1, .int .u8 x2] w (BoolP true w) := by
  obtain ⟨B, hB⟩ : ∃ B, w.heap.size = B := ⟨_, rfl⟩
  obtain ⟨i0, hi0, hz0, hz1, hz2⟩ := info_parts info3
  obtain ⟨n, hn⟩ : ∃ n : Nat, x0 % 24 = n := ⟨(x0 % 24).toNat, by omega⟩
  obtain ⟨m, hm⟩ : ∃ m : Nat, x1 % 5 = m := ⟨(x1 % 5).toNat, by omega⟩
  have hn24 : n < 24 := by omega
  have hm5 : m < 5 := by omega
  obtain ⟨hGC, hX, hBl, hSz⟩ := fl_good (n := (n : Int)) hB (by omega) (by omega)
  have HG := Lib.hid hGC; have HBL := Lib.hid hBl; have HSZ := Lib.hid hSz; have HX := Lib.hid hX
  clear hGC hBl hSz hX
  go_enter Try.func7, Try.ntmps7
  go_wp2_with fail
  rw [hn, hm]
  change Code.wp _ _ _ _ (FlW w B n)
  generalize FlW w B n = W0 at *
  have hn0 : (0 : Int) ≤ (n : Int) := by omega
  clear hn hm
  have HBB := Lib.hid hB; clear hB
  go_loopw [10, 11, 12] (fun tv dv iv wr => ∃ (i : Nat) (TS DS : List Int), iv = .int .i64 (i : Int) ∧ i ≤ n ∧ TS.length = i ∧ (i = 0 → tv = .slice none 0 0 ∧ dv = .slice none 0 0) ∧ Chg n TS DS ∧ FMid W0 wr tv dv TS DS) (fun _ _ iv _ => n - (intOf iv).toNat)
  case atStart => exact ⟨0, [], [], rfl, Nat.zero_le _, rfl, fun _ => ⟨rfl, rfl⟩, Chg.nil n, ⟨Below.refl _ _, World.ownsRow_nil _ _ _ _, World.ownsRow_nil _ _ _ _, fun k hk => by cases hk⟩⟩
  case round =>
    obtain ⟨i, TS, DS, rfl, hin, hTS, hnil, hC, hF⟩ := hrel
    have HF := Lib.hid hF; have HC := Lib.hid hC; have HNIL := Lib.hid hnil
    clear hF hC hnil
    by_cases hlt : i < n
    · have hdd : decide (i < n) = true := decide_eq_true hlt
      have hi2 : (i : Int) < (n : Int) := by omega
      have hnn : (0 : Int) ≤ (i : Int) + x2 := by omega
      have s1 : IntKind.i64.wrap ((i : Int) + x2) = (i : Int) + x2 := IntWalk.i64_in _ (by omega)
      have s2 : IntKind.i64.wrap (10 + ((i : Int) + x2) % 20) = 10 + ((i : Int) + x2) % 20 := IntWalk.i64_in _ (by omega)
      have HTS := Lib.hid hTS
      have HDL := Lib.hid (HC.out.len.trans hTS)
      have tok1 : True := trivial
      have hwr : W0.heap.size ≤ wr.heap.size := HF.out.below.size
      go_wp2_with (first | (at_builtin; have _t := tok1; refine wpList_append_lies _ rfl (.tmp 42) (.tmp 43) 29 rfl W0.heap.size 3 i0 (.int .i64 0) 1 8 (by kernel_rfl) hi0 hz0 hz1 hz2 rfl (by decide) u10 TS.length (vi TS) rfl (HF.out.ownt.alloc _) ⟨wr.heap.size, 0, none⟩ 1 1 [.int .i64 0] rfl rfl (World.news_of_block (cs := #[.int .i64 0]) (heap_alloc_new wr _)) (fun u hu => by simp at hu; subst hu; rfl) (by decide) (by unfold maxLen; omega) (by omega) (by simp; omega) _ rfl ?_; intro g1 cap1 w1 ho1 hg1 hq1 _; have HF1 := Lib.hid (HF.out.appt ho1 hg1 hq1); have tok2 : True := trivial; clear ho1 hg1 hq1 tok1) | (at_builtin; have _t := tok2; refine wpList_append_lies _ rfl (.tmp 45) (.tmp 52) 29 rfl W0.heap.size 3 i0 (.int .i64 0) 1 8 (by kernel_rfl) hi0 hz0 hz1 hz2 rfl (by decide) u11 DS.length (vi DS) rfl (HF1.out.ownd.alloc _) ⟨w1.heap.size, 0, none⟩ 1 1 [.int .i64 (10 + ((i : Int) + x2) % 20)] rfl rfl (World.news_of_block (cs := #[.int .i64 (10 + ((i : Int) + x2) % 20)]) (heap_alloc_new w1 _)) (fun u hu => by simp at hu; subst hu; rfl) (by decide) (by have := HDL.out; unfold maxLen; omega) (by have := HDL.out; omega) (by have := HF1.out.below.size; simp; omega) _ rfl ?_; intro g2 cap2 w2 ho2 hg2 hq2 _; have HF2 := Lib.hid (HF1.out.appd ho2 hg2 hq2); clear ho2 hg2 hq2 tok2))
      go_roundw
      case rel => exact ⟨i + 1, TS ++ [0], DS ++ [10 + ((i : Int) + x2) % 20], by go_num, by omega, by have := HTS.out; simp; omega, (fun h => by omega), HC.out.snoc (.inl ⟨by have := HTS.out; omega, rfl⟩) ⟨by omega, by omega⟩, by have := HF2.out; rw [HTS.out] at this; exact this⟩
      case measure => simp [intOf]; omega
    · have hin' : i = n := by omega
      subst hin'
      have hdd : decide (i < i) = false := by simp
      have hni : ¬ (i : Int) < (i : Int) := by omega
      go_upto_region 8 with fail
      have HTS := Lib.hid hTS
      have HDL := Lib.hid (HC.out.len.trans hTS)
      have hC2 : Chg (i + 1) (TS ++ [0]) (DS ++ [12]) := by
        have hC1 : Chg (i + 1) TS DS := ⟨HC.out.len, fun j hj _ => HC.out.t0 j hj (by have := HTS.out; omega), fun j hj h => by have := HTS.out; omega, HC.out.d⟩
        exact hC1.snoc (.inl ⟨by have := HTS.out; omega, rfl⟩) ⟨by decide, by decide⟩
      have HC2 := Lib.hid hC2; clear hC2
      have HX1 := Lib.hid (HX.out.step HF.out.below)
      have HG1 := Lib.hid (HG.out.step HF.out.below)
      refine region_facts2 (by kernel_rfl) (G8 (.agg #[.slice (some ⟨B + 1 + 1, 0, none⟩) 2 2, .slice (some ⟨B + 1 + 1 + 1, 0, none⟩) 2 2, .slice (some ⟨B + 1 + 1 + 1 + 1, 0, none⟩) 2 2]) u10 u11 wr.heap.size TS DS) X8 (fun _ W => Below wr.heap.size wr W) (by kernel_rfl) (by kernel_rfl) ?h0 ?hstep ?hend
      case h0 => exact below_drewN (Below.refl _ _) 1
      case hstep =>
        intro j o l a W ho hat hX K hK
        have hj : j < 11 := (Array.getElem?_eq_some_iff.1 ho).1
        obtain rfl | rfl | rfl | rfl | rfl | rfl | rfl | rfl | rfl | rfl | rfl : j = 0 ∨ j = 1 ∨ j = 2 ∨ j = 3 ∨ j = 4 ∨ j = 5 ∨ j = 6 ∨ j = 7 ∨ j = 8 ∨ j = 9 ∨ j = 10 := by omega
        all_goals
          have ho := Option.some.inj (show some _ = some o from ho)
          subst ho
        · have e0 : a.tmps[9]?.getD undef = .pointer (some ⟨B + 1 + 1 + 1 + 1 + 1, 0, none⟩) := hat.out 9 (by kernel_rfl)
          obtain ⟨y0, y1, y2⟩ := HX1.out.step hat.base
          have HF1 := Lib.hid (hK (.agg #[.slice (some ⟨B + 1 + 1, 0, none⟩) 2 2, .slice (some ⟨B + 1 + 1 + 1, 0, none⟩) 2 2, .slice (some ⟨B + 1 + 1 + 1 + 1, 0, none⟩) 2 2]) W (rfl) (fun k d hk hl => (hat.have_ k d hk hl).mono 0) (fun k d _ _ _ => ⟨X8.other (by omega), X8.other (by omega)⟩) hat.base)
          clear hat hX hK
          go_simp
          exact HF1.out
        · have e0 : a.tmps[10]?.getD undef = u10 := hat.out 10 (by kernel_rfl)
          have HF1 := Lib.hid (hK (u10) W (rfl) (fun k d hk hl => (hat.have_ k d hk hl).mono 1) (fun k d _ _ _ => ⟨X8.other (by omega), X8.other (by omega)⟩) hat.base)
          clear hat hX hK
          go_simp
          exact HF1.out
        · have e1 : a.tmps[55]?.getD undef = u10 := hat.have_ 1 55 (by kernel_rfl) (hat.dep 1 (by kernel_rfl))
          rcases Nat.eq_zero_or_pos i with hi00 | hi00
          · have hv0 := (HNIL.out hi00).1
            have HF1 := Lib.hid (hK (.slice none 0 0) W (⟨(fun b e => by cases e), (fun _ => by rw [show TS.length = 0 by have := HTS.out; omega, show TS = [] from List.length_eq_zero_iff.1 (by have := HTS.out; omega)]; exact World.ownsRow_nil _ _ _ _)⟩) (fun k d hk hl => (hat.have_ k d hk hl).mono 2) (fun k d hk hl hki => ⟨(fun _ b hb e => by cases e), (fun _ b hb => by cases hb)⟩) hat.base)
            rw [hv0] at e1
            clear hat hX hK hv0
            go_simp
            exact HF1.out
          · obtain ⟨q0, cap0, hv0, hq0, hq1⟩ := HF.out.ownt.form (by have := HTS.out; omega)
            have hcs := HF.out.ownt.cells (g := q0) (by rw [hv0]; rfl)
            have hz := hat.size
            refine step_append_lies W rfl (.const (.slice none 0 0)) (.tmp 55) 29 rfl wr.heap.size 3 i0 (.int .i64 0) 1 8 (by kernel_rfl) hi0 hz0 hz1 hz2 rfl (by decide) (.slice none 0 0) 0 [] rfl (World.ownsRow_nil _ _ _ _) ⟨q0, 0, none⟩ TS.length cap0 (vi TS) ((Array.getD_eq_getD_getElem? ..).trans (e1.trans hv0)) (by rw [vi_length]; omega) (fun j u hu => by
              have := hcs j u hu
              rw [Addr.add_lit] at this ⊢
              exact cell_later' hat.base this) (fun u hu => vi_one hu) (by have := HTS.out; omega) (by have := HTS.out; unfold maxLen; omega) (by have := HTS.out; omega) hat.base.size W.heap.size rfl ?_
            intro g cap w' ho hg hq hglt
            rw [Nat.zero_add, List.nil_append] at ho
            rw [Nat.zero_add]
            have hgs : g = W.heap.size := by rcases hq with e | e; cases e; exact e
            refine hK _ _ (⟨fun b e => by simp only [Value.ownBlock, Option.some.injEq] at e; omega, fun _ => ho⟩) (fun k d hk hl => (hat.have_ k d hk hl).grow 2 hg (fun b e => by cases e) hat.open_ hl (by rw [hz]; decide)) (fun k d hk hl hki => ?_) (below_grown hat.base hg (fun k e => by cases e) hat.base.size)
            by_cases h7 : k = 7
            · subst h7
              have hd : d = 61 := by injection hk with hk; exact hk.symm
              subst hd
              have h7 := (hat.have_ 7 61 (by kernel_rfl) hl (hat.later 8 (by kernel_rfl))).lt
              exact ⟨fun _ b hb e => by simp only [Value.ownBlock, Option.some.injEq] at e; have := h7 b hb; omega, fun _ b hb e => by simp only [Value.ownBlock, Option.some.injEq] at hb; have := h7 b e; omega⟩
            · exact ⟨X8.other (by omega), X8.other (by omega)⟩
        · have hs : OneAt (W.alloc (.cells #[.int .i64 0] 3)) wr.heap.size (.slice (some ⟨W.heap.size, 0, none⟩) 1 1) 0 := ⟨W.heap.size, rfl, hat.base.size, heap_alloc_new _ _⟩
          have HF1 := Lib.hid (hK (.slice (some ⟨W.heap.size, 0, none⟩) 1 1) (W.alloc (.cells #[.int .i64 0] 3)) (fun _ => hs) (fun k d hk hl => (hat.have_ k d hk hl).grow 3 (World.grownBy_alloc W _ none) (fun b e => by cases e) hat.open_ hl (by rw [hat.size]; decide)) (fun k d _ _ _ => ⟨X8.other (by omega), X8.other (by omega)⟩) (hat.base.alloc hat.base.size _))
          clear hat hX hK hs
          go_simp
          exact HF1.out
        · have hown := ((hat.have_ 2 56 (by kernel_rfl) (hat.dep 2 (by kernel_rfl))).2 hat.open_)
          obtain ⟨b, e2, hbS, hh⟩ := hat.have_ 3 57 (by kernel_rfl) (hat.dep 3 (by kernel_rfl)) hat.open_
          have hz := hat.size
          refine step_append_lies W rfl (.tmp 56) (.tmp 57) 29 rfl wr.heap.size 3 i0 (.int .i64 0) 1 8 (by kernel_rfl) hi0 hz0 hz1 hz2 rfl (by decide) (a.tmps[56]?.getD undef) TS.length (vi TS) (Array.getD_eq_getD_getElem? ..) hown ⟨b, 0, none⟩ 1 1 [.int .i64 0] ((Array.getD_eq_getD_getElem? ..).trans e2) rfl (World.news_of_block (cs := #[.int .i64 0]) hh) (fun u hu => by simp at hu; subst hu; rfl) (by decide) (by have := HTS.out; unfold maxLen; omega) (by have := HTS.out; omega) hat.base.size W.heap.size rfl ?_
          intro g cap w' ho hg hq hglt
          have hrow : RowAt w' wr.heap.size (.slice (some ⟨g, 0, none⟩) (TS.length + 1) cap) (TS ++ [0]) := by
            rw [← vi_snoc] at ho
            obtain ⟨a', c', ea, ht⟩ := teams_of_own ho (by simp)
            injection ea with ea1 ea2 ea3
            subst ea1
            exact ⟨g, cap, by rw [List.length_append]; rfl, hglt, ht⟩
          refine hK _ _ (fun _ => hrow) (fun k d hk hl => (hat.have_ k d hk hl).grow 4 hg (fun b' e hk6 => ?_) hat.open_ hl (by rw [hz]; decide)) (fun k d hk hl hki => ?_) (below_grown hat.base hg (fun k e => (hown.lt k e).1) hat.base.size)
          · rcases hk6 with rfl | rfl | rfl | rfl | rfl | rfl
            · exact .inr (.inl ⟨.inl rfl, .inl rfl⟩)
            · exact .inr (.inl ⟨.inr rfl, .inl rfl⟩)
            · exact .inl (.inl rfl)
            · rw [hat.later 6 (by kernel_rfl)] at hl; cases hl
            · exact .inl (.inr fun e' => hX 2 56 7 d (by kernel_rfl) hk (hat.dep 2 (by kernel_rfl)) hl (by decide) (.inl ⟨rfl, rfl⟩) b' e e')
            · rw [hat.later 8 (by kernel_rfl)] at hl; cases hl
          · by_cases h6 : k = 6
            · subst h6
              rw [hat.later 6 (by kernel_rfl)] at hl; cases hl
            · exact ⟨X8.other (by omega), X8.other (by omega)⟩
        · have e0 : a.tmps[11]?.getD undef = u11 := hat.out 11 (by kernel_rfl)
          have HF1 := Lib.hid (hK (u11) W (rfl) (fun k d hk hl => (hat.have_ k d hk hl).mono 5) (fun k d _ _ _ => ⟨X8.other (by omega), X8.other (by omega)⟩) hat.base)
          clear hat hX hK
          go_simp
          exact HF1.out
        · have e1 : a.tmps[59]?.getD undef = u11 := hat.have_ 5 59 (by kernel_rfl) (hat.dep 5 (by kernel_rfl))
          rcases Nat.eq_zero_or_pos i with hi00 | hi00
          · have hv0 := (HNIL.out hi00).2
            have HF1 := Lib.hid (hK (.slice none 0 0) W (⟨getD_set_true (hat.dep 4 (by kernel_rfl)), (fun _ => by rw [show DS.length = 0 by have := HDL.out; omega, show DS = [] from List.length_eq_zero_iff.1 (by have := HDL.out; omega)]; exact World.ownsRow_nil _ _ _ _)⟩) (fun k d hk hl => (hat.have_ k d hk hl).mono 6) (fun k d hk hl hki => ⟨(fun _ b hb e => by cases e), (fun _ b hb => by cases hb)⟩) hat.base)
            rw [hv0] at e1
            clear hat hX hK hv0
            go_simp
            exact HF1.out
          · obtain ⟨q0, cap0, hv0, hq0, hq1⟩ := HF.out.ownd.form (by have := HDL.out; omega)
            have hcs := HF.out.ownd.cells (g := q0) (by rw [hv0]; rfl)
            have hz := hat.size
            refine step_append_lies W rfl (.const (.slice none 0 0)) (.tmp 59) 29 rfl wr.heap.size 3 i0 (.int .i64 0) 1 8 (by kernel_rfl) hi0 hz0 hz1 hz2 rfl (by decide) (.slice none 0 0) 0 [] rfl (World.ownsRow_nil _ _ _ _) ⟨q0, 0, none⟩ DS.length cap0 (vi DS) ((Array.getD_eq_getD_getElem? ..).trans (e1.trans hv0)) (by rw [vi_length]; omega) (fun j u hu => by
              have := hcs j u hu
              rw [Addr.add_lit] at this ⊢
              exact cell_later' hat.base this) (fun u hu => vi_one hu) (by have := HDL.out; omega) (by have := HDL.out; unfold maxLen; omega) (by have := HDL.out; omega) hat.base.size W.heap.size rfl ?_
            intro g cap w' ho hg hq hglt
            rw [Nat.zero_add, List.nil_append] at ho
            rw [Nat.zero_add]
            have hgs : g = W.heap.size := by rcases hq with e | e; cases e; exact e
            refine hK _ _ (⟨getD_set_true (hat.dep 4 (by kernel_rfl)), (fun _ => ho)⟩) (fun k d hk hl => (hat.have_ k d hk hl).grow 6 hg (fun b e => by cases e) hat.open_ hl (by rw [hz]; decide)) (fun k d hk hl hki => ?_) (below_grown hat.base hg (fun k e => by cases e) hat.base.size)
            by_cases h4 : k = 4
            · subst h4
              have hd : d = 58 := by injection hk with hk; exact hk.symm
              subst hd
              have h7 := (hat.have_ 4 58 (by kernel_rfl) hl (hat.later 9 (by kernel_rfl))).lt
              exact ⟨fun _ b hb e => by simp only [Value.ownBlock, Option.some.injEq] at e; have := h7 b hb; omega, fun _ b hb e => by simp only [Value.ownBlock, Option.some.injEq] at hb; have := h7 b e; omega⟩
            · exact ⟨X8.other (by omega), X8.other (by omega)⟩
        · have hs : OneAt (W.alloc (.cells #[.int .i64 12] 3)) wr.heap.size (.slice (some ⟨W.heap.size, 0, none⟩) 1 1) 12 := ⟨W.heap.size, rfl, hat.base.size, heap_alloc_new _ _⟩
          have HF1 := Lib.hid (hK (.slice (some ⟨W.heap.size, 0, none⟩) 1 1) (W.alloc (.cells #[.int .i64 12] 3)) (fun _ => hs) (fun k d hk hl => (hat.have_ k d hk hl).grow 7 (World.grownBy_alloc W _ none) (fun b e => by cases e) hat.open_ hl (by rw [hat.size]; decide)) (fun k d hk hl hki => by
            by_cases h2 : k = 2
            · subst h2
              have hd : d = 56 := by injection hk with hk; exact hk.symm
              subst hd
              have h2 := (hat.have_ 2 56 (by kernel_rfl) hl).1
              refine ⟨fun _ b hb e => ?_, fun _ b hb e => ?_⟩
              · simp only [Value.ownBlock, Option.some.injEq] at e
                have := h2 b hb; omega
              · simp only [Value.ownBlock, Option.some.injEq] at hb
                have := h2 b e; omega
            · exact ⟨X8.other (by omega), X8.other (by omega)⟩) (hat.base.alloc hat.base.size _))
          clear hat hX hK hs
          go_simp
          exact HF1.out
        · have hown := ((hat.have_ 6 60 (by kernel_rfl) (hat.dep 6 (by kernel_rfl))).2 hat.open_)
          obtain ⟨b, e2, hbS, hh⟩ := hat.have_ 7 61 (by kernel_rfl) (hat.dep 7 (by kernel_rfl)) hat.open_
          have hz := hat.size
          refine step_append_lies W rfl (.tmp 60) (.tmp 61) 29 rfl wr.heap.size 3 i0 (.int .i64 0) 1 8 (by kernel_rfl) hi0 hz0 hz1 hz2 rfl (by decide) (a.tmps[60]?.getD undef) DS.length (vi DS) (Array.getD_eq_getD_getElem? ..) hown ⟨b, 0, none⟩ 1 1 [.int .i64 12] ((Array.getD_eq_getD_getElem? ..).trans e2) rfl (World.news_of_block (cs := #[.int .i64 12]) hh) (fun u hu => by simp at hu; subst hu; rfl) (by decide) (by have := HDL.out; unfold maxLen; omega) (by have := HDL.out; omega) hat.base.size W.heap.size rfl ?_
          intro g cap w' ho hg hq hglt
          have hrow : RowAt w' wr.heap.size (.slice (some ⟨g, 0, none⟩) (DS.length + 1) cap) (DS ++ [12]) := by
            rw [← vi_snoc] at ho
            obtain ⟨a', c', ea, ht⟩ := teams_of_own ho (by simp)
            injection ea with ea1 ea2 ea3
            subst ea1
            exact ⟨g, cap, by rw [List.length_append]; rfl, hglt, ht⟩
          refine hK _ _ (fun _ => hrow) (fun k d hk hl => (hat.have_ k d hk hl).grow 8 hg (fun b' e hk6 => ?_) hat.open_ hl (by rw [hz]; decide)) (fun k d hk hl hki => ?_) (below_grown hat.base hg (fun k e => (hown.lt k e).1) hat.base.size)
          · rcases hk6 with rfl | rfl | rfl | rfl | rfl | rfl
            · exact .inr (.inl ⟨.inl rfl, .inr (hat.have_ 6 60 (by kernel_rfl) (hat.dep 6 (by kernel_rfl))).1⟩)
            · exact .inr (.inl ⟨.inr rfl, .inr (hat.have_ 6 60 (by kernel_rfl) (hat.dep 6 (by kernel_rfl))).1⟩)
            · exact .inl (.inr fun e' => hX 4 d 6 60 hk (by kernel_rfl) hl (hat.dep 6 (by kernel_rfl)) (by decide) (.inr (.inr (.inl ⟨rfl, rfl⟩))) b' e' e)
            · exact .inr (.inr ⟨.inl rfl, .inl rfl⟩)
            · exact .inr (.inr ⟨.inr rfl, .inl rfl⟩)
            · exact .inl (.inl rfl)
          · exact ⟨X8.other (by omega), X8.other (by omega)⟩
        · have e0 : a.tmps[54]?.getD undef = .agg #[.slice (some ⟨B + 1 + 1, 0, none⟩) 2 2, .slice (some ⟨B + 1 + 1 + 1, 0, none⟩) 2 2, .slice (some ⟨B + 1 + 1 + 1 + 1, 0, none⟩) 2 2] := hat.have_ 0 54 (by kernel_rfl) (hat.dep 0 (by kernel_rfl))
          obtain ⟨q4, k4, e4, _, ht4⟩ := hat.have_ 4 58 (by kernel_rfl) (hat.dep 4 (by kernel_rfl)) hat.open_
          obtain ⟨q8, k8, e8, _, ht8⟩ := hat.have_ 8 62 (by kernel_rfl) (hat.dep 8 (by kernel_rfl)) hat.open_
          have hl1 : (TS ++ [0]).length = i + 1 := by have := HTS.out; simp; omega
          have hl2 : (DS ++ [12]).length = i + 1 := by have := HDL.out; simp; omega
          have CF := Lib.hid (fits_good _ _ _ _ _ (flL B) flT [0, 1] [(i : Int), 5] (TS ++ [0]) (DS ++ [12]) 2 2 2 k4 k8 W (HG1.out.step hat.base) ht4 ht8 HC2.out.len (by rw [hl1]; omega) HC2.out.all HC2.out.may)
          rw [show (flL B).length = 2 from rfl, show ([0, 1] : List Int).length = 2 from rfl, show [(i : Int), 5].length = 2 from rfl, hl1, hl2] at CF
          rw [hl1] at e4
          rw [hl2] at e8
          have HH := Lib.hid (And.intro hat hK)
          have HL1 := Lib.hid hl1
          clear hat hX hK ht4 ht8 hl1 hl2
          go_simp
          refine (CF.out).mono ?_
          rintro e w' ⟨cs, x, rfl, hF, hbw⟩
          obtain ⟨hat, hK⟩ := HH.out
          have hx48 : x = 48 := by
            rcases hF with ⟨_, _, hf⟩ | ⟨hf, _⟩
            · have h1 := hf 0 0 (by simp [flL]) (by simp)
              rw [HL1.out] at h1
              have h2 := (HC2.out.cnt (B := B) (i + 1) (by rw [HL1.out]; exact Nat.le_refl _)).1
              rw [h2] at h1
              have h3 : ([(i : Int), 5] : List Int).getD 0 0 = i := rfl
              rw [h3] at h1
              omega
            · exact hf
          subst hx48
          exact hK _ _ rfl (fun k d hk hl => (hat.have_ k d hk hl).grow 9 (row := none) ⟨hbw.os, hbw.tape, hbw.output, hbw.size, fun k hk _ => hbw.block k hk⟩ (fun b e => by cases e) hat.open_ hl (by rw [hat.size]; decide)) (fun k d _ _ _ => ⟨X8.other (by omega), X8.other (by omega)⟩) (hat.base.trans (hbw.mono hat.base.size))
        · have e0 : a.tmps[63]?.getD undef = .int .i64 48 := hat.have_ 9 63 (by kernel_rfl) (hat.dep 9 (by kernel_rfl))
          have HF1 := Lib.hid (hK (.int .i64 48) W (rfl) (fun k d hk hl => (hat.have_ k d hk hl).mono 10) (fun k d _ _ _ => ⟨X8.other (by omega), X8.other (by omega)⟩) hat.base)
          clear hat hX hK
          go_simp
          exact HF1.out
      case hend =>
        intro l u W hall hG hB
        have e10 : u 10 = .int .i64 48 := hG 10 13 (by kernel_rfl)
        have HBC := Lib.hid hB
        clear hG hB hall
        simp only [putAll, Act.put, List.setIfInBounds_toArray, List.set_cons_zero, List.set_cons_succ, Nat.zero_add, Nat.reduceAdd]
        rw [e10]
        clear e10
        generalize u 0 = v0
        generalize u 1 = v1
        generalize u 2 = v2
        generalize u 3 = v3
        generalize u 4 = v4
        generalize u 5 = v5
        generalize u 6 = v6
        generalize u 7 = v7
        generalize u 8 = v8
        generalize u 9 = v9
        have HFW := Lib.hid (HF.out.step HBC.out)
        obtain ⟨aw0, cw0, ew0, _⟩ := teams_of_own HFW.out.ownt rfl
        rw [HTS.out] at ew0
        subst ew0
        have hbe : IntKind.i64.wrap ((i : Int) + (m : Int)) = ((i + m : Nat) : Int) := by rw [IntWalk.i64_in _ (by omega)]; omega
        have hTL0 : TS.length = i + 0 := by have := HTS.out; omega
        by_cases hle : i + m ≤ 24
        · have hdl : decide (i + m ≤ 24) = true := decide_eq_true hle
          have hil : (i : Int) + (m : Int) ≤ 24 := by omega
          go_upto_region 11 with fail
          go_loopw [10, 11, 14] (fun tv dv kv wr => ∃ (k : Nat) (TS2 DS2 : List Int), kv = .int .i64 (k : Int) ∧ k ≤ m ∧ TS2.length = i + k ∧ Chg i TS2 DS2 ∧ FMid W0 wr tv dv TS2 DS2) (fun _ _ kv _ => m - (intOf kv).toNat)
          case atStart => exact ⟨0, TS, DS, rfl, Nat.zero_le _, hTL0, HC.out, HFW.out⟩
          case round =>
            obtain ⟨k, TS2, DS2, rfl, hkm, hTL2, hC7, hF7⟩ := hrel
            have HF7 := Lib.hid hF7; have HC7 := Lib.hid hC7
            clear hF7 hC7
            by_cases hlt2 : k < m
            · have hdd2 : decide (k < m) = true := decide_eq_true hlt2
              have hi3 : (k : Int) < (m : Int) := by omega
              have HT7 := Lib.hid hTL2
              have HD7 := Lib.hid (HC7.out.len.trans hTL2)
              have tok1 : True := trivial
              have hwr7 : W0.heap.size ≤ wr.heap.size := HF7.out.below.size
              clear hTL2
              go_wp2_with (first | (at_builtin; have _t := tok1; refine wpList_append_lies _ rfl (.tmp 74) (.tmp 75) 29 rfl W0.heap.size 3 i0 (.int .i64 0) 1 8 (by kernel_rfl) hi0 hz0 hz1 hz2 rfl (by decide) u10 TS2.length (vi TS2) rfl (HF7.out.ownt.alloc _) ⟨wr.heap.size, 0, none⟩ 1 1 [.int .i64 1] rfl rfl (World.news_of_block (cs := #[.int .i64 1]) (heap_alloc_new wr _)) (fun u hu => by simp at hu; subst hu; rfl) (by decide) (by have := HT7.out; unfold maxLen; omega) (by have := HT7.out; omega) (by simp; omega) _ rfl ?_; intro g1 cap1 w1 ho1 hg1 hq1 _; have HF1 := Lib.hid (HF7.out.appt ho1 hg1 hq1); have tok2 : True := trivial; clear ho1 hg1 hq1 tok1) | (at_builtin; have _t := tok2; refine wpList_append_lies _ rfl (.tmp 77) (.tmp 78) 29 rfl W0.heap.size 3 i0 (.int .i64 0) 1 8 (by kernel_rfl) hi0 hz0 hz1 hz2 rfl (by decide) u11 DS2.length (vi DS2) rfl (HF1.out.ownd.alloc _) ⟨w1.heap.size, 0, none⟩ 1 1 [.int .i64 29] rfl rfl (World.news_of_block (cs := #[.int .i64 29]) (heap_alloc_new w1 _)) (fun u hu => by simp at hu; subst hu; rfl) (by decide) (by have := HD7.out; unfold maxLen; omega) (by have := HD7.out; omega) (by have := HF1.out.below.size; simp; omega) _ rfl ?_; intro g2 cap2 w2 ho2 hg2 hq2 _; have HF2 := Lib.hid (HF1.out.appd ho2 hg2 hq2); clear ho2 hg2 hq2 tok2))
              go_roundw
              case rel => exact ⟨k + 1, TS2 ++ [1], DS2 ++ [29], by go_num, by omega, by have := HT7.out; simp; omega, HC7.out.snoc (.inr ⟨by have := HT7.out; omega, rfl⟩) ⟨by decide, by decide⟩, HF2.out⟩
              case measure => simp [intOf]; omega
            · have hkm2 : k = m := by omega
              subst hkm2
              have hdd2 : decide (k < k) = false := by simp
              have hi3 : ¬ (k : Int) < (k : Int) := by omega
              go_upto_region 14 with fail
              obtain ⟨ta, kt, etv, htt⟩ := teams_of_own HF7.out.ownt rfl
              obtain ⟨da, kd, edv, htd⟩ := teams_of_own HF7.out.ownd rfl
              have hGW := HG.out.step HF7.out.below
              have CE := Lib.hid (earliest_good _ _ _ ta da (flL B) flT [0, 1] [(i : Int), 5] TS2 DS2 2 2 2 kt kd 0 11 wr hGW htt htd HC7.out.len (by have := hTL2; omega) HC7.out.all (by simp) HC7.out.may (HC7.out.fit (k := k) hTL2 (by omega)))
              rw [show (flL B).length = 2 from rfl, show ([0, 1] : List Int).length = 2 from rfl, show ([(i : Int), 5] : List Int).length = 2 from rfl, show ((0 : Nat) : Int) = 0 from rfl] at CE
              have CFI := Lib.hid (fun V (hV : Below (wr).heap.size wr V) => fits_good _ _ _ ta da (flL B) flT [0, 1] [(i : Int), 5] TS2 DS2 2 2 2 kt kd V (hGW.step hV) (htt.step hV) (htd.step hV) HC7.out.len (by have := hTL2; omega) HC7.out.all HC7.out.may)
              rw [show (flL B).length = 2 from rfl, show ([0, 1] : List Int).length = 2 from rfl, show ([(i : Int), 5] : List Int).length = 2 from rfl] at CFI
              rw [HC7.out.len, hTL2] at CE
              rw [HC7.out.len, hTL2] at CFI
              rw [hTL2] at etv
              rw [HC7.out.len, hTL2] at edv
              have HXW := Lib.hid (HX.out.step HF7.out.below)
              obtain ⟨y0, y1, y2⟩ := HXW.out
              have HRM := Lib.hid (HC7.out.room0 (B := B) hTL2)
              have HFIT := Lib.hid (HC7.out.fit (B := B) (k := k) hTL2 (by omega))
              have HBW := Lib.hid (HBL.out.trans (HF7.out.below.mono HBL.out.size))
              have HSW := Lib.hid HF7.out.below.size
              rw [etv, edv]
              clear hGW htt htd etv edv
              go_wp2_with fail
              refine (CE.out).mono ?_
              rintro e we ⟨rr, ok, rfl, hfr, hbe⟩
              have hfe := fl_first hfr HRM.out.1
              rw [HRM.out.2] at hfe
              have HBE := Lib.hid hbe
              have HFE := Lib.hid hfe
              clear hfr hbe hfe y0 y1 y2 CE
              obtain ⟨y0, y1, y2⟩ := HXW.out.step HBE.out
              have CFT := Lib.hid (CFI.out we HBE.out)
              clear CFI
              have hok : ∃ hb : Bool, decide (0 < i) = hb ∧ ok = hb ∧ (hb = true → rr = 40) := by
                cases hd : decide (0 < i) with
                | true => exact ⟨true, rfl, (HFE.out.1 hd).2, fun _ => (HFE.out.1 hd).1⟩
                | false => exact ⟨false, rfl, (HFE.out.2 hd).2, fun h => by cases h⟩
              obtain ⟨hb, hd, rfl, hrr⟩ := hok
              cases ok with
              | true =>
                have hr40 := hrr rfl
                subst hr40
                have hip : (0 : Int) < (i : Int) := by have := of_decide_eq_true hd; omega
                clear hrr
                go_wp2_with fail
                refine (CFT.out).mono ?_
                rintro e wf ⟨cs, x, rfl, hF9, hbf⟩
                have hx0 : x = 0 := by
                  rcases hF9 with ⟨h, _⟩ | ⟨_, _, i', t', a1, a2, a3⟩
                  · exact h
                  · have := HFIT.out i' t' a1 a2; omega
                subst hx0
                have CA := Lib.hid (awake_any wf)
                have HBF := Lib.hid hbf
                clear hF9 hbf
                go_wp2_with fail
                refine (CA.out).mono ?_
                rintro e wg ⟨rfl, hbg⟩
                have HBG := Lib.hid hbg
                clear hbg
                go_wp2_with fail
                go_ret
                exact ⟨rfl, HBW.out.trans ((HBE.out.trans ((HBF.out.mono HBE.out.size).trans (HBG.out.mono (Nat.le_trans HBE.out.size HBF.out.size)))).mono HBW.out.size)⟩
              | false =>
                have hip : ¬ (0 : Int) < (i : Int) := by have := of_decide_eq_false hd; omega
                clear hrr
                go_wp2_with fail
                refine (CFT.out).mono ?_
                rintro e wf ⟨cs, x, rfl, hF9, hbf⟩
                have hx0 : x = 0 := by
                  rcases hF9 with ⟨h, _⟩ | ⟨_, _, i', t', a1, a2, a3⟩
                  · exact h
                  · have := HFIT.out i' t' a1 a2; omega
                subst hx0
                have CA := Lib.hid (awake_any wf)
                have HBF := Lib.hid hbf
                clear hF9 hbf
                go_wp2_with fail
                refine (CA.out).mono ?_
                rintro e wg ⟨rfl, hbg⟩
                have HBG := Lib.hid hbg
                clear hbg
                go_wp2_with fail
                go_ret
                exact ⟨rfl, HBW.out.trans ((HBE.out.trans ((HBF.out.mono HBE.out.size).trans (HBG.out.mono (Nat.le_trans HBE.out.size HBF.out.size)))).mono HBW.out.size)⟩
        · have hdl : decide (i + m ≤ 24) = false := decide_eq_false hle
          have hil : ¬ (i : Int) + (m : Int) ≤ 24 := by omega
          go_upto_region 14 with fail
          obtain ⟨ta, kt, etv, htt⟩ := teams_of_own HFW.out.ownt rfl
          obtain ⟨da, kd, edv, htd⟩ := teams_of_own HFW.out.ownd rfl
          have hGW := HG.out.step HFW.out.below
          have CE := Lib.hid (earliest_good _ _ _ ta da (flL B) flT [0, 1] [(i : Int), 5] TS DS 2 2 2 kt kd 0 11 W hGW htt htd HC.out.len (by have := hTL0; omega) HC.out.all (by simp) HC.out.may (HC.out.fit (k := 0) hTL0 (by omega)))
          rw [show (flL B).length = 2 from rfl, show ([0, 1] : List Int).length = 2 from rfl, show ([(i : Int), 5] : List Int).length = 2 from rfl, show ((0 : Nat) : Int) = 0 from rfl] at CE
          have CFI := Lib.hid (fun V (hV : Below (W).heap.size W V) => fits_good _ _ _ ta da (flL B) flT [0, 1] [(i : Int), 5] TS DS 2 2 2 kt kd V (hGW.step hV) (htt.step hV) (htd.step hV) HC.out.len (by have := hTL0; omega) HC.out.all HC.out.may)
          rw [show (flL B).length = 2 from rfl, show ([0, 1] : List Int).length = 2 from rfl, show ([(i : Int), 5] : List Int).length = 2 from rfl] at CFI
          rw [HC.out.len, hTL0] at CE
          rw [HC.out.len, hTL0] at CFI
          rw [hTL0] at etv
          rw [HC.out.len, hTL0] at edv
          have HXW := Lib.hid (HX.out.step HFW.out.below)
          obtain ⟨y0, y1, y2⟩ := HXW.out
          have HRM := Lib.hid (HC.out.room0 (B := B) hTL0)
          have HFIT := Lib.hid (HC.out.fit (B := B) (k := 0) hTL0 (by omega))
          have HBW := Lib.hid (HBL.out.trans (HFW.out.below.mono HBL.out.size))
          have HSW := Lib.hid HFW.out.below.size
          rw [etv, edv]
          clear hGW htt htd etv edv
          go_wp2_with fail
          refine (CE.out).mono ?_
          rintro e we ⟨rr, ok, rfl, hfr, hbe⟩
          have hfe := fl_first hfr HRM.out.1
          rw [HRM.out.2] at hfe
          have HBE := Lib.hid hbe
          have HFE := Lib.hid hfe
          clear hfr hbe hfe y0 y1 y2 CE
          obtain ⟨y0, y1, y2⟩ := HXW.out.step HBE.out
          have CFT := Lib.hid (CFI.out we HBE.out)
          clear CFI
          have hok : ∃ hb : Bool, decide (0 < i) = hb ∧ ok = hb ∧ (hb = true → rr = 40) := by
            cases hd : decide (0 < i) with
            | true => exact ⟨true, rfl, (HFE.out.1 hd).2, fun _ => (HFE.out.1 hd).1⟩
            | false => exact ⟨false, rfl, (HFE.out.2 hd).2, fun h => by cases h⟩
          obtain ⟨hb, hd, rfl, hrr⟩ := hok
          cases ok with
          | true =>
            have hr40 := hrr rfl
            subst hr40
            have hip : (0 : Int) < (i : Int) := by have := of_decide_eq_true hd; omega
            clear hrr
            go_wp2_with fail
            refine (CFT.out).mono ?_
            rintro e wf ⟨cs, x, rfl, hF9, hbf⟩
            have hx0 : x = 0 := by
              rcases hF9 with ⟨h, _⟩ | ⟨_, _, i', t', a1, a2, a3⟩
              · exact h
              · have := HFIT.out i' t' a1 a2; omega
            subst hx0
            have CA := Lib.hid (awake_any wf)
            have HBF := Lib.hid hbf
            clear hF9 hbf
            go_wp2_with fail
            refine (CA.out).mono ?_
            rintro e wg ⟨rfl, hbg⟩
            have HBG := Lib.hid hbg
            clear hbg
            go_wp2_with fail
            go_ret
            exact ⟨rfl, HBW.out.trans ((HBE.out.trans ((HBF.out.mono HBE.out.size).trans (HBG.out.mono (Nat.le_trans HBE.out.size HBF.out.size)))).mono HBW.out.size)⟩
          | false =>
            have hip : ¬ (0 : Int) < (i : Int) := by have := of_decide_eq_false hd; omega
            clear hrr
            go_wp2_with fail
            refine (CFT.out).mono ?_
            rintro e wf ⟨cs, x, rfl, hF9, hbf⟩
            have hx0 : x = 0 := by
              rcases hF9 with ⟨h, _⟩ | ⟨_, _, i', t', a1, a2, a3⟩
              · exact h
              · have := HFIT.out i' t' a1 a2; omega
            subst hx0
            have CA := Lib.hid (awake_any wf)
            have HBF := Lib.hid hbf
            clear hF9 hbf
            go_wp2_with fail
            refine (CA.out).mono ?_
            rintro e wg ⟨rfl, hbg⟩
            have HBG := Lib.hid hbg
            clear hbg
            go_wp2_with fail
            go_ret
            exact ⟨rfl, HBW.out.trans ((HBE.out.trans ((HBF.out.mono HBE.out.size).trans (HBG.out.mono (Nat.le_trans HBE.out.size HBF.out.size)))).mono HBW.out.size)⟩
end Go.Proofs.Ytcppmkimfoajaaa
