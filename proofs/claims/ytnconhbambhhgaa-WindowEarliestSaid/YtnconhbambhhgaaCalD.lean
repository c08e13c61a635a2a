/- The walk of move.Calendar. -/
import Derived.Test.YtnconhbambhhgaaCalE
import Derived.Deep.Cut
import Derived.Deep.CutRange
namespace Go.Proofs.Ytnconhbambhhgaa
open Go.RowKit
set_option linter.all false

set_option maxRecDepth 100000 in
set_option maxHeartbeats 4000000 in
theorem calendar_any (w : World) (g : Nat) (h : DiceAt w g) :
    Calls Try.prog 28 #[.pointer (some ⟨g, 0, none⟩), .int .i64 3] w (CalP w g) := by
  have hlt := h.lt
  obtain ⟨i0, hi0, hz0, hz1, hz2⟩ := info_parts info3
  obtain ⟨i5, hi5, hy0, hy1, hy2⟩ := info_parts info58
  have hd1 := h.below ((Below.refl w.heap.size w).alloc (Nat.le_refl _) (.cells #[.slice none 0 0, .slice none 0 0, .slice none 0 0] 38))
  have c1 := of3 (w.alloc (.cells #[.slice none 0 0, .slice none 0 0, .slice none 0 0] 38)) g (w.heap.size + 1) (by simp) hd1 24 2 1
  have CO := Lib.hid (fun W (hW : DiceAt W g) => of2 W g _ rfl hW 24 3)
  have C1 := Lib.hid c1
  clear c1 hd1 h
  go_enter Try.func28, Try.ntmps28
  go_wp2_with fail
  refine (C1.out).mono ?_
  rintro e w1 ⟨r0, hr0, rfl, hd1, hg1⟩
  clear C1
  have C2 := Lib.hid (CO.out w1 hd1)
  have H1 := Lib.hid hg1; have R0 := Lib.hid hr0
  clear hd1 hg1 hr0
  go_wp2_with fail
  refine (C2.out).mono ?_
  rintro e w2 ⟨r1, hr1, rfl, hd2, hg2⟩
  have hM : CMid w ((w2.alloc (.cells #[.int .i64 r0, .int .i64 r1] 3)).alloc (.cells #[.slice none 0 0, .slice none 0 0, .slice (some ⟨w2.heap.size, 0, none⟩) 2 2] 38)) g (w2.heap.size + 1) w2.heap.size r0 r1 (.slice none 0 0) (.slice none 0 0) [] [] [] := by
    have hgA : w.grownBy w2 (some g) := ((World.grownBy_alloc _ _ _).trans H1.out).trans hg2
    have hsz := H1.out.size
    have hsz2 := hg2.size
    simp at hsz
    refine ⟨(hd2.below ((Below.refl _ _).alloc (Nat.le_refl _) _)).below ((Below.refl _ _).alloc (Nat.le_refl _) _), (hgA.trans (World.grownBy_alloc _ _ _)).trans (World.grownBy_alloc _ _ _), ?_, ?_, World.ownsRow_nil _ _ _ _, World.ownsRow_nil _ _ _ _, (fun k hk => by cases hk), rfl, (fun j hj => by cases hj), ?_, hlt, by omega, by omega⟩
    · have := heap_alloc_new (w2.alloc (.cells #[.int .i64 r0, .int .i64 r1] 3)) (.cells #[.slice none 0 0, .slice none 0 0, .slice (some ⟨w2.heap.size, 0, none⟩) 2 2] 38)
      simpa using this
    · rw [heap_alloc_old _ _ (by simp)]; exact heap_alloc_new _ _
    · rw [heap_alloc_old _ _ (by simp; omega), heap_alloc_old _ _ (by omega), hg2.block _ (by omega) (by simp; omega), H1.out.block _ (by simp) (by simp; omega)]
      exact heap_alloc_new _ _
  have R1 := Lib.hid hr1
  clear hd2 hg2 hr1 C2 CO H1
  go_wp2_with fail
  generalize (w2.alloc (.cells #[.int .i64 r0, .int .i64 r1] 3)).alloc (.cells #[.slice none 0 0, .slice none 0 0, .slice (some ⟨w2.heap.size, 0, none⟩) 2 2] 38) = W at *
  generalize hC : w2.heap.size + 1 = C at *
  generalize w2.heap.size = r at *
  have HM := Lib.hid hM
  clear hM
  go_loopw [6] (fun iv wr => ∃ (tq : Value) (Q : List Int), iv = .int .i64 Q.length ∧ Q.length ≤ 3 ∧ CMid w wr g C r r0 r1 (.slice none 0 0) tq Q [] [] ∧ ∀ x ∈ Q, 0 ≤ x ∧ x < 2) (fun iv _ => 3 - (intOf iv).toNat)
  case atStart => exact ⟨_, [], rfl, by decide, HM.out, (fun x hx => by cases hx)⟩
  case round =>
    clear HM
    obtain ⟨tq, Q, rfl, hQ, hM, hx⟩ := hrel
    have HM := Lib.hid hM; have HX := Lib.hid hx
    clear hM hx
    by_cases hk : Q.length < 3
    · have hi2 : (Q.length : Int) < 3 := by omega
      have hd0 : decide (Q.length < 3) = true := decide_eq_true hk
      go_upto_region 5 with fail
      refine region_facts (by kernel_rfl) (G5 w g C r r0 r1 tq Q) (B5 w g C r r0 r1 tq Q) (by kernel_rfl) (by kernel_rfl) ?h0 ?hstep ?hend
      case h0 => exact ⟨fun _ => HM.out.drewN 1, fun h => by simp at h⟩
      case hstep =>
        intro i o l a W ho hat K hK
        have hi : i < 8 := (Array.getElem?_eq_some_iff.1 ho).1
        obtain rfl | rfl | rfl | rfl | rfl | rfl | rfl | rfl : i = 0 ∨ i = 1 ∨ i = 2 ∨ i = 3 ∨ i = 4 ∨ i = 5 ∨ i = 6 ∨ i = 7 := by omega
        all_goals
          have ho := Option.some.inj (show some _ = some o from ho)
          subst ho
        · have e0 : a.tmps[5]?.getD undef = .pointer (some ⟨C, 0, none⟩) := hat.out 5 (by kernel_rfl)
          have hfin := hK (.pointer (some ⟨C, 1, none⟩)) W rfl (fun k u _ h => h.mono 0) (hat.base.mono (by decide))
          have HF := Lib.hid hfin
          clear hat hK
          go_simp
          exact HF.out
        · have e0 : a.tmps[23]?.getD undef = .pointer (some ⟨C, 1, none⟩) := hat.have_ 0 23 (by kernel_rfl) (hat.dep 0 (by kernel_rfl))
          have e1 := (hat.base.1 (hat.later 5 (by kernel_rfl))).hC
          have e2 := cell_of_row _ C 1 _ _ _ e1
          simp at e2
          have hfin := hK tq W rfl (fun k u _ h => h.mono 1) (hat.base.mono (by decide))
          have HF := Lib.hid hfin
          clear hat hK e1
          go_simp
          exact HF.out
        · have e0 : a.tmps[0]?.getD undef = .pointer (some ⟨g, 0, none⟩) := hat.out 0 (by kernel_rfl)
          have hfin := hK (.pointer (some ⟨g, 0, none⟩)) W rfl (fun k u _ h => h.mono 2) (hat.base.mono (by decide))
          have HF := Lib.hid hfin
          clear hat hK
          go_simp
          exact HF.out
        · have e0 : a.tmps[25]?.getD undef = .pointer (some ⟨g, 0, none⟩) := hat.have_ 2 25 (by kernel_rfl) (hat.dep 2 (by kernel_rfl))
          have l5 := hat.later 5 (by kernel_rfl)
          have l4 := hat.later 4 (by kernel_rfl)
          have l7 := hat.later 7 (by kernel_rfl)
          have hM := hat.base.1 l5
          have CN := Lib.hid (next_any W g 2 (by decide) (by decide) hM.dice)
          have HH := Lib.hid (And.intro hM (And.intro hat hK))
          clear hat hK hM l5 l4 l7
          go_simp
          refine (CN.out).mono ?_
          rintro e w' ⟨x, rfl, hx0, hx1, hd, hg⟩
          obtain ⟨hM, hat, hK⟩ := HH.out
          refine hK _ _ ⟨x, rfl, hx0, hx1⟩ (fun k u hl h => ?_) ⟨fun _ => hM.threw hd hg, fun h7 => ?_⟩
          · match k with
            | 0 => exact h
            | 1 => exact h
            | 2 => exact h
            | 3 => exact h
            | 4 => rw [hat.later 4 (by kernel_rfl)] at hl; cases hl
            | 5 => rw [hat.later 5 (by kernel_rfl)] at hl; cases hl
            | 6 => exact h
            | _ + 7 => exact h
          · rw [getD_set_ne false (by decide), hat.later 7 (by kernel_rfl)] at h7; cases h7
        · obtain ⟨x, e0, hx0, hx1⟩ := hat.have_ 3 26 (by kernel_rfl) (hat.dep 3 (by kernel_rfl))
          have hM := hat.base.1 (hat.later 5 (by kernel_rfl))
          have HH := Lib.hid (And.intro hM (And.intro hat hK))
          have hfin : K (a.put (some 27) (.slice (some ⟨W.heap.size, 0, none⟩) 1 1)) (W.alloc (.cells #[.int .i64 x] 3)) := by
            refine hK _ _ (fun _ => ⟨x, _, rfl, hx0, hx1, heap_alloc_new _ _⟩) (fun k u hl h => ?_) ⟨fun _ => hM.alloc _, fun h7 => ?_⟩
            · match k with
              | 0 => exact h
              | 1 => exact h
              | 2 => exact h
              | 3 => exact h
              | 4 => rw [hat.open_] at hl; cases hl
              | 5 => rw [hat.later 5 (by kernel_rfl)] at hl; cases hl
              | 6 => exact h
              | _ + 7 => exact h
            · rw [getD_set_ne false (by decide), hat.later 7 (by kernel_rfl)] at h7; cases h7
          have HF := Lib.hid hfin
          clear hat hK hM hfin
          go_simp
          exact HF.out
        · have hM := hat.base.1 hat.open_
          obtain ⟨x, b, e4, hx0, hx1, hb⟩ := hat.have_ 4 27 (by kernel_rfl) (hat.dep 4 (by kernel_rfl)) hat.open_
          have e1 : a.tmps[24]?.getD undef = tq := hat.have_ 1 24 (by kernel_rfl) (hat.dep 1 (by kernel_rfl))
          have hz := hat.size
          refine step_append_lies W rfl (.tmp 24) (.tmp 27) 22 rfl (C + 1) 3 i0 (.int .i64 0) 1 8 (by kernel_rfl) hi0 hz0 hz1 hz2 rfl (by decide) tq Q.length (vi Q) ((Array.getD_eq_getD_getElem? ..).trans e1) hM.ownq ⟨b, 0, none⟩ 1 1 [.int .i64 x] ((Array.getD_eq_getD_getElem? ..).trans e4) rfl (World.news_of_block (cs := #[.int .i64 x]) hb) (fun u hu => by simp at hu; subst hu; rfl) (by decide) (by unfold maxLen; omega) (by omega) hM.size W.heap.size rfl ?_
          intro q cap w' ho hg hq _
          obtain ⟨hC5, hM'⟩ := hM.appendq ho hg hq
          have hs5 : (l.setIfInBounds 5 true).getD 5 false = true := set_same (by rw [hz]; decide)
          refine hK _ _ (fun _ => ⟨x, hx0, hx1, hC5, hM'⟩) (fun k u hl h => ?_) ⟨fun h5 => ?_, fun h7 => ?_⟩
          · match k with
            | 0 => exact h
            | 1 => exact h
            | 2 => exact h
            | 3 => exact h
            | 4 => intro h5; rw [hs5] at h5; cases h5
            | 5 => rw [hat.open_] at hl; cases hl
            | 6 => exact h
            | _ + 7 => exact h
          · rw [hs5] at h5; cases h5
          · rw [getD_set_ne false (by decide), hat.later 7 (by kernel_rfl)] at h7; cases h7
        · have e0 : a.tmps[5]?.getD undef = .pointer (some ⟨C, 0, none⟩) := hat.out 5 (by kernel_rfl)
          have hfin := hK (.pointer (some ⟨C, 1, none⟩)) W rfl (fun k u _ h => h.mono 6) (hat.base.mono (by decide))
          have HF := Lib.hid hfin
          clear hat hK
          go_simp
          exact HF.out
        · have e6 : a.tmps[29]?.getD undef = .pointer (some ⟨C, 1, none⟩) := hat.have_ 6 29 (by kernel_rfl) (hat.dep 6 (by kernel_rfl))
          obtain ⟨x, hx0, hx1, hC5, hM'⟩ := hat.have_ 5 28 (by kernel_rfl) (hat.dep 5 (by kernel_rfl)) hat.open_
          obtain ⟨q, cap, e5, _, _⟩ := hM'.ownq.form (by simp)
          rw [show (Q ++ [x]).length = Q.length + 1 by simp] at e5
          rw [e5] at hM'
          have hz := hat.size
          have hs7 : (l.setIfInBounds 7 true).getD 7 false = true := set_same (by rw [hz]; decide)
          have l5 := hat.dep 5 (by kernel_rfl)
          have f1 : W.frozen? ⟨C, 1, none⟩ = false := by simp [World.frozen?, hC5]
          have c1 := cell_of_row _ C 1 _ _ _ hC5
          simp at c1
          have hfin : K (a.put none undef) (W.setCell ⟨C, 1, none⟩ (.slice (some ⟨q, 0, none⟩) (Q.length + 1) cap)) := by
            refine hK _ _ trivial (fun k u hl h => ?_) ⟨fun h5 => ?_, fun _ => ⟨_, x, hM', hx0, hx1⟩⟩
            · match k with
              | 0 => exact h
              | 1 => exact h
              | 2 => exact h
              | 3 => exact h
              | 4 => intro h5; rw [getD_set_true l5] at h5; cases h5
              | 5 => intro h7; rw [hs7] at h7; cases h7
              | 6 => exact h
              | _ + 7 => exact h
            · rw [getD_set_true l5] at h5; cases h5
          have HF := Lib.hid hfin
          clear hat hK hM' hfin hC5 hz hs7 l5
          go_simp
          exact HF.out
      case hend =>
        intro l u W hall hG hB
        obtain ⟨tq', x, hM', hx0, hx1⟩ := hB.2 (hall 7 (by decide))
        have HM' := Lib.hid hM'
        clear hM' hB hG hall HM
        simp only [putAll, Act.put, List.setIfInBounds_toArray, List.set_cons_zero, List.set_cons_succ]
        generalize u 0 = v0
        generalize u (0 + 1) = v1
        generalize u (0 + 1 + 1) = v2
        generalize u (0 + 1 + 1 + 1) = v3
        generalize u (0 + 1 + 1 + 1 + 1) = v4
        generalize u (0 + 1 + 1 + 1 + 1 + 1) = v5
        generalize u (0 + 1 + 1 + 1 + 1 + 1 + 1) = v6
        go_wp2_with fail
        go_roundw
        case rel => exact ⟨tq', Q ++ [x], by rw [show (Q ++ [x]).length = Q.length + 1 by simp]; go_num, by simp; omega, HM'.out, fun y hy => by
          rcases List.mem_append.1 hy with h | h
          · exact HX.out y h
          · simp at h; subst h; exact ⟨hx0, hx1⟩⟩
        case measure => simp [intOf]; omega
    · have hQ3 : Q.length = 3 := by omega
      have hd0 : decide (Q.length < 3) = false := decide_eq_false hk
      have D1 := Lib.hid (next_any wr g 4 (by decide) (by decide) HM.out.dice)
      go_wp2_with fail
      refine (D1.out).mono ?_
      rintro e w3 ⟨f, rfl, hf0, hf1, hd3, hg3⟩
      have hM3 := HM.out.threw hd3 hg3
      have D2 := Lib.hid (next_any w3 g 4 (by decide) (by decide) hM3.dice)
      have HM3 := Lib.hid hM3
      clear hd3 hg3 hM3 HM D1
      go_wp2_with fail
      refine (D2.out).mono ?_
      rintro e w4 ⟨x, rfl, hx0, hx1, hd4, hg4⟩
      obtain ⟨k0, rfl⟩ : ∃ k : Nat, x = k := ⟨x.toNat, by omega⟩
      have HM4 := Lib.hid (HM3.out.threw hd4 hg4)
      have s0 : IntKind.i64.wrap (2 + (k0 : Int)) = ((2 + k0 : Nat) : Int) := by rw [IntWalk.i64_in _ (by omega)]; omega
      clear hd4 hg4 HM3 D2
      go_wp2_with fail
      go_loopw [7, 8, 9] (fun fv kv _ wr => ∃ (f : Int) (k : Nat) (tp : Value) (L : List Win) (TL : List (List Int)), fv = .int .i64 f ∧ kv = .int .i64 (k : Int) ∧ 2 ≤ k + L.length ∧ k + L.length ≤ 5 ∧ 0 ≤ f ∧ f ≤ 4 + 40 * L.length ∧ Wok f L ∧ CMid w wr g C r r0 r1 tp tq Q L TL) (fun _ kv _ _ => (intOf kv).toNat)
      case atStart => exact ⟨f, 2 + k0, _, [], [], rfl, by first | rfl | (rw [s0]) | go_num, by simp, by simp; omega, hf0, by simp; omega, ⟨fun j hj => by simp at hj, fun j hj => by simp at hj⟩, HM4.out⟩
      case round =>
        clear HM4 s0
        obtain ⟨f, k, tp, L, TL, rfl, rfl, hk1, hk2, hf0, hf1, hW, hM⟩ := hrel
        have HM := Lib.hid hM; have HW := Lib.hid hW
        clear hM hW
        by_cases hk0 : 0 < k
        · have hk0' : decide (0 < k) = true := decide_eq_true hk0
          have hki : (0 : Int) < (k : Int) := by omega
          have CO := Lib.hid (of3 wr g _ rfl HM.out.dice 30 5 1)
          go_wp2_with fail
          refine (CO.out).mono ?_
          rintro e w5 ⟨z, hz, rfl, hd5, hg5⟩
          have hz2 : 1 ≤ z ∧ z ≤ 30 := by
            simp only [List.mem_cons, List.not_mem_nil, or_false] at hz
            omega
          have HM5 := Lib.hid (HM.out.threw hd5 hg5)
          have s1 : IntKind.i64.wrap (f + 1) = f + 1 := IntWalk.i64_in _ (by omega)
          have s2 : IntKind.i64.wrap (f + 1 + z) = f + 1 + z := IntWalk.i64_in _ (by omega)
          obtain ⟨t, ht⟩ : ∃ t, f + 1 + z = t := ⟨_, rfl⟩
          rw [ht] at s2
          clear hz hd5 hg5 HM CO
          go_upto_region 11 with fail
          refine region_facts (by kernel_rfl) (G11 w g C r r0 r1 tp tq Q L TL f t) (B11 w g C r r0 r1 tp tq Q L TL f t) (by kernel_rfl) (by kernel_rfl) ?h0 ?hstep ?hend
          case h0 => exact ⟨fun _ => HM5.out.drewN 1, fun h => by simp at h⟩
          case hstep =>
            intro i o l a W ho hat K hK
            have hi : i < 19 := (Array.getElem?_eq_some_iff.1 ho).1
            obtain rfl | rfl | rfl | rfl | rfl | rfl | rfl | rfl | rfl | rfl | rfl | rfl | rfl | rfl | rfl | rfl | rfl | rfl | rfl : i = 0 ∨ i = 1 ∨ i = 2 ∨ i = 3 ∨ i = 4 ∨ i = 5 ∨ i = 6 ∨ i = 7 ∨ i = 8 ∨ i = 9 ∨ i = 10 ∨ i = 11 ∨ i = 12 ∨ i = 13 ∨ i = 14 ∨ i = 15 ∨ i = 16 ∨ i = 17 ∨ i = 18 := by omega
            all_goals
              have ho := Option.some.inj (show some _ = some o from ho)
              subst ho
            · have e0 : a.tmps[5]?.getD undef = .pointer (some ⟨C, 0, none⟩) := hat.out 5 (by kernel_rfl)
              have hfin := hK (.pointer (some ⟨C, 0, none⟩)) W (rfl) (fun k u _ h => h.mono 0) (hat.base.mono (by decide))
              have HF := Lib.hid hfin
              clear hat hK
              go_simp
              exact HF.out
            · have e0 : a.tmps[45]?.getD undef = .pointer (some ⟨C, 0, none⟩) := hat.have_ 0 45 (by kernel_rfl) (hat.dep 0 (by kernel_rfl))
              have e1 := (hat.base.1 (hat.later 16 (by kernel_rfl))).hC
              have e2 := cell_of_row _ C 0 _ _ _ e1
              simp at e2
              have hfin := hK tp W rfl (fun k u _ h => h.mono 1) (hat.base.mono (by decide))
              have HF := Lib.hid hfin
              clear hat hK e1
              go_simp
              exact HF.out
            · have e0 : a.tmps[7]?.getD undef = .int .i64 f := hat.out 7 (by kernel_rfl)
              have hfin := hK (.int .i64 f) W (rfl) (fun k u _ h => h.mono 2) (hat.base.mono (by decide))
              have HF := Lib.hid hfin
              clear hat hK
              go_simp
              exact HF.out
            · have e0 : a.tmps[9]?.getD undef = .int .i64 t := hat.out 9 (by kernel_rfl)
              have hfin := hK (.int .i64 t) W (rfl) (fun k u _ h => h.mono 3) (hat.base.mono (by decide))
              have HF := Lib.hid hfin
              clear hat hK
              go_simp
              exact HF.out
            · have e0 : a.tmps[47]?.getD undef = .int .i64 f := hat.have_ 2 47 (by kernel_rfl) (hat.dep 2 (by kernel_rfl))
              have e1 : a.tmps[48]?.getD undef = .int .i64 t := hat.have_ 3 48 (by kernel_rfl) (hat.dep 3 (by kernel_rfl))
              have hfin := hK (.agg #[.int .i64 f, .int .i64 t]) W (rfl) (fun k u _ h => h.mono 4) (hat.base.mono (by decide))
              have HF := Lib.hid hfin
              clear hat hK
              go_simp
              exact HF.out
            · have h16 := hat.later 16 (by kernel_rfl)
              have hM := hat.base.1 h16
              have hs := SlT.new hM [0, 1] (by decide)
              have hfin := hK (.slice (some ⟨W.heap.size, 0, none⟩) 2 2) (W.alloc (.cells #[.int .i64 0, .int .i64 1] 3)) (fun _ => hs) (fun k u hk h => h.grow 5 hM.hgC (World.grownBy_alloc _ _ _) hk h16) (hat.base.grow (by decide) (hM.dice.below ((Below.refl _ _).alloc (Nat.le_refl _) _)) (World.grownBy_alloc _ _ _) (hat.later 18 (by kernel_rfl)))
              have HF := Lib.hid hfin
              clear hat hK hM hs h16 hfin
              go_simp
              exact HF.out
            · have h16 := hat.later 16 (by kernel_rfl)
              have hM := hat.base.1 h16
              have hs := SlT.new hM [0, 1] (by decide)
              have hfin := hK (.slice (some ⟨W.heap.size, 0, none⟩) 2 2) (W.alloc (.cells #[.int .i64 0, .int .i64 1] 3)) (fun _ => hs) (fun k u hk h => h.grow 6 hM.hgC (World.grownBy_alloc _ _ _) hk h16) (hat.base.grow (by decide) (hM.dice.below ((Below.refl _ _).alloc (Nat.le_refl _) _)) (World.grownBy_alloc _ _ _) (hat.later 18 (by kernel_rfl)))
              have HF := Lib.hid hfin
              clear hat hK hM hs h16 hfin
              go_simp
              exact HF.out
            · have h16 := hat.later 16 (by kernel_rfl)
              have hM := hat.base.1 h16
              have hs := SlT.new hM [0] (by decide)
              have hfin := hK (.slice (some ⟨W.heap.size, 0, none⟩) 1 1) (W.alloc (.cells #[.int .i64 0] 3)) (fun _ => hs) (fun k u hk h => h.grow 7 hM.hgC (World.grownBy_alloc _ _ _) hk h16) (hat.base.grow (by decide) (hM.dice.below ((Below.refl _ _).alloc (Nat.le_refl _) _)) (World.grownBy_alloc _ _ _) (hat.later 18 (by kernel_rfl)))
              have HF := Lib.hid hfin
              clear hat hK hM hs h16 hfin
              go_simp
              exact HF.out
            · have h16 := hat.later 16 (by kernel_rfl)
              have hM := hat.base.1 h16
              have hs := SlT.new hM [1] (by decide)
              have hfin := hK (.slice (some ⟨W.heap.size, 0, none⟩) 1 1) (W.alloc (.cells #[.int .i64 1] 3)) (fun _ => hs) (fun k u hk h => h.grow 8 hM.hgC (World.grownBy_alloc _ _ _) hk h16) (hat.base.grow (by decide) (hM.dice.below ((Below.refl _ _).alloc (Nat.le_refl _) _)) (World.grownBy_alloc _ _ _) (hat.later 18 (by kernel_rfl)))
              have HF := Lib.hid hfin
              clear hat hK hM hs h16 hfin
              go_simp
              exact HF.out
            · have h16 := hat.later 16 (by kernel_rfl)
              have hM := hat.base.1 h16
              have s1 := hat.have_ 5 50 (by kernel_rfl) (hat.dep 5 (by kernel_rfl)) h16
              have s2 := hat.have_ 6 51 (by kernel_rfl) (hat.dep 6 (by kernel_rfl)) h16
              have s3 := hat.have_ 7 52 (by kernel_rfl) (hat.dep 7 (by kernel_rfl)) h16
              have s4 := hat.have_ 8 53 (by kernel_rfl) (hat.dep 8 (by kernel_rfl)) h16
              obtain ⟨a1, n1, c1, e1, _⟩ := id s1
              obtain ⟨a2, n2, c2, e2, _⟩ := id s2
              obtain ⟨a3, n3, c3, e3, _⟩ := id s3
              obtain ⟨a4, n4, c4, e4, _⟩ := id s4
              rw [e1] at s1; rw [e2] at s2; rw [e3] at s3; rw [e4] at s4
              have hg := World.grownBy_alloc W (.cells #[.slice a1 n1 c1, .slice a2 n2 c2, .slice a3 n3 c3, .slice a4 n4 c4, .slice none 0 0] 22) (some g)
              have hfin := hK (.slice (some ⟨W.heap.size, 0, none⟩) 5 5) (W.alloc (.cells #[.slice a1 n1 c1, .slice a2 n2 c2, .slice a3 n3 c3, .slice a4 n4 c4, .slice none 0 0] 22)) (fun _ => ⟨_, _, _, _, _, rfl, hM.size, heap_alloc_new _ _, s1.grow hM.hgC hg, s2.grow hM.hgC hg, s3.grow hM.hgC hg, s4.grow hM.hgC hg⟩) (fun k u hk h => h.grow 9 hM.hgC hg hk h16) (hat.base.grow (by decide) (hM.dice.below ((Below.refl _ _).alloc (Nat.le_refl _) _)) hg (hat.later 18 (by kernel_rfl)))
              have HF := Lib.hid hfin
              clear hat hK hM s1 s2 s3 s4 h16 hfin hg
              go_simp
              exact HF.out
            · have e0 : a.tmps[0]?.getD undef = .pointer (some ⟨g, 0, none⟩) := hat.out 0 (by kernel_rfl)
              have hfin := hK (.pointer (some ⟨g, 0, none⟩)) W (rfl) (fun k u _ h => h.mono 10) (hat.base.mono (by decide))
              have HF := Lib.hid hfin
              clear hat hK
              go_simp
              exact HF.out
            · have e0 : a.tmps[55]?.getD undef = .pointer (some ⟨g, 0, none⟩) := hat.have_ 10 55 (by kernel_rfl) (hat.dep 10 (by kernel_rfl))
              have hM := hat.base.1 (hat.later 16 (by kernel_rfl))
              have CN := Lib.hid (next_any W g 5 (by decide) (by decide) hM.dice)
              have HH := Lib.hid (And.intro hM (And.intro hat hK))
              clear hat hK hM
              go_simp
              refine (CN.out).mono ?_
              rintro e w' ⟨x, rfl, hx0, hx1, hd, hg⟩
              obtain ⟨hM, hat, hK⟩ := HH.out
              exact hK _ _ ⟨x, rfl, hx0, hx1⟩ (fun k u hk h => h.grow 11 hM.hgC hg hk (hat.later 16 (by kernel_rfl))) (hat.base.grow (by decide) hd hg (hat.later 18 (by kernel_rfl)))
            · have h16 := hat.later 16 (by kernel_rfl)
              obtain ⟨b, v1, v2, v3, v4, e9, hC, hh, s1, s2, s3, s4⟩ := hat.have_ 9 54 (by kernel_rfl) (hat.dep 9 (by kernel_rfl)) h16
              obtain ⟨x, e11, hx0, hx1⟩ := hat.have_ 11 56 (by kernel_rfl) (hat.dep 11 (by kernel_rfl))
              have sN : SlT W C tp tq (.slice none 0 0) [] := ⟨none, 0, 0, rfl, rfl, by decide, .inl rfl⟩
              have c0 := cell_of_row _ b 0 _ _ _ hh
              have c1 := cell_of_row _ b 1 _ _ _ hh
              have c2 := cell_of_row _ b 2 _ _ _ hh
              have c3 := cell_of_row _ b 3 _ _ _ hh
              have c4 := cell_of_row _ b 4 _ _ _ hh
              have hall : ∃ (j : Nat) (u : Value) (t : List Int), x = j ∧ W.cell? ⟨b, j, none⟩ = some u ∧ SlT W C tp tq u t := by
                obtain rfl | rfl | rfl | rfl | rfl : x = 0 ∨ x = 1 ∨ x = 2 ∨ x = 3 ∨ x = 4 := by omega
                · exact ⟨0, _, _, rfl, c0, s1⟩
                · exact ⟨1, _, _, rfl, c1, s2⟩
                · exact ⟨2, _, _, rfl, c2, s3⟩
                · exact ⟨3, _, _, rfl, c3, s4⟩
                · exact ⟨4, _, _, rfl, c4, sN⟩
              obtain ⟨j, u, tl, rfl, cj, sj⟩ := hall
              have hfin := hK (.pointer (some ⟨b, j, none⟩)) W (fun _ => ⟨b, j, u, tl, rfl, hC, cj, sj⟩) (fun k u _ h => h.mono 12) (hat.base.mono (by decide))
              have HF := Lib.hid hfin
              clear hat hK h16 hfin c0 c1 c2 c3 c4 s1 s2 s3 s4 sN hh sj cj
              go_simp
              exact HF.out
            · have h16 := hat.later 16 (by kernel_rfl)
              obtain ⟨b, j, u, tl, e12, hC, cj, sj⟩ := hat.have_ 12 57 (by kernel_rfl) (hat.dep 12 (by kernel_rfl)) h16
              obtain ⟨a1, n1, c1, rfl, hr1⟩ := id sj
              have hfin := hK (.slice a1 n1 c1) W (fun _ => ⟨tl, sj⟩) (fun k u _ h => h.mono 13) (hat.base.mono (by decide))
              have HF := Lib.hid hfin
              clear hat hK h16 hfin sj hr1
              go_simp
              exact HF.out
            · have h16 := hat.later 16 (by kernel_rfl)
              obtain ⟨tl, sj⟩ := hat.have_ 13 58 (by kernel_rfl) (hat.dep 13 (by kernel_rfl)) h16
              have e4 : a.tmps[49]?.getD undef = .agg #[.int .i64 f, .int .i64 t] := hat.have_ 4 49 (by kernel_rfl) (hat.dep 4 (by kernel_rfl))
              obtain ⟨a1, n1, c1, e13, hr1⟩ := id sj
              rw [e13] at sj
              have hfin := hK (.agg #[.int .i64 f, .int .i64 t, .slice a1 n1 c1]) W (fun _ => ⟨_, tl, rfl, sj⟩) (fun k u _ h => h.mono 14) (hat.base.mono (by decide))
              have HF := Lib.hid hfin
              clear hat hK h16 hfin sj hr1
              go_simp
              exact HF.out
            · have h16 := hat.later 16 (by kernel_rfl)
              have hM := hat.base.1 h16
              obtain ⟨u, tl, e14, sj⟩ := hat.have_ 14 59 (by kernel_rfl) (hat.dep 14 (by kernel_rfl)) h16
              obtain ⟨a1, n1, c1, rfl, hr1⟩ := id sj
              have hg := World.grownBy_alloc W (.cells #[.int .i64 f, .int .i64 t, .slice a1 n1 c1] 77) (some g)
              have hfin := hK (.slice (some ⟨W.heap.size, 0, none⟩) 1 1) (W.alloc (.cells #[.int .i64 f, .int .i64 t, .slice a1 n1 c1] 77)) (fun _ => ⟨_, tl, _, rfl, heap_alloc_new _ _, hM.size, sj.grow hM.hgC hg⟩) (fun k u hk h => h.grow 15 hM.hgC hg hk h16) (hat.base.grow (by decide) (hM.dice.below ((Below.refl _ _).alloc (Nat.le_refl _) _)) hg (hat.later 18 (by kernel_rfl)))
              have HF := Lib.hid hfin
              clear hat hK hM sj h16 hfin hg hr1
              go_simp
              exact HF.out
            · have hM := hat.base.1 hat.open_
              obtain ⟨u, tl, b, e15, hb, hCb, sj⟩ := hat.have_ 15 60 (by kernel_rfl) (hat.dep 15 (by kernel_rfl)) hat.open_
              have e1 : a.tmps[46]?.getD undef = tp := hat.have_ 1 46 (by kernel_rfl) (hat.dep 1 (by kernel_rfl))
              obtain ⟨a1, n1, c1, rfl, hr1⟩ := id sj
              have hz := hat.size
              refine step_append_lies W rfl (.tmp 46) (.tmp 60) 36 rfl (C + 1) 77 i5 (.agg #[.int .i64 0, .int .i64 0, .slice none 0 0]) 3 40 (by kernel_rfl) hi5 hy0 hy1 hy2 rfl (by decide) tp L.length (flatW L) ((Array.getD_eq_getD_getElem? ..).trans e1) hM.ownp ⟨b, 0, none⟩ 1 1 [.int .i64 f, .int .i64 t, .slice a1 n1 c1] ((Array.getD_eq_getD_getElem? ..).trans e15) rfl (World.news_of_block (cs := #[.int .i64 f, .int .i64 t, .slice a1 n1 c1]) hb) (fun u hu => by simp at hu; rcases hu with rfl | rfl | rfl <;> rfl) (by decide) (by unfold maxLen; omega) (by omega) hM.size W.heap.size rfl ?_
              intro q cap w' ho hg hq _
              obtain ⟨hC5, hM'⟩ := hM.appendp (x := ⟨f, t, a1, n1, c1⟩) (t := tl) hr1 ho hg hq
              have hs16 : (l.setIfInBounds 16 true).getD 16 false = true := set_same (by rw [hz]; decide)
              refine hK _ _ (fun _ => ⟨_, tl, rfl, rfl, hC5, hM'⟩) (fun k u hl h => ?_) ⟨fun h5 => ?_, fun h7 => ?_⟩
              · match k with
                | 0 => exact h
                | 1 => exact h
                | 2 => exact h
                | 3 => exact h
                | 4 => exact h
                | 5 => intro h5; rw [hs16] at h5; cases h5
                | 6 => intro h5; rw [hs16] at h5; cases h5
                | 7 => intro h5; rw [hs16] at h5; cases h5
                | 8 => intro h5; rw [hs16] at h5; cases h5
                | 9 => intro h5; rw [hs16] at h5; cases h5
                | 10 => exact h
                | 11 => exact h
                | 12 => intro h5; rw [hs16] at h5; cases h5
                | 13 => intro h5; rw [hs16] at h5; cases h5
                | 14 => intro h5; rw [hs16] at h5; cases h5
                | 15 => intro h5; rw [hs16] at h5; cases h5
                | 16 => rw [hat.open_] at hl; cases hl
                | 17 => exact h
                | _ + 18 => exact h
              · rw [hs16] at h5; cases h5
              · rw [getD_set_ne false (by decide), hat.later 18 (by kernel_rfl)] at h7; cases h7
            · have e0 : a.tmps[5]?.getD undef = .pointer (some ⟨C, 0, none⟩) := hat.out 5 (by kernel_rfl)
              have hfin := hK (.pointer (some ⟨C, 0, none⟩)) W (rfl) (fun k u _ h => h.mono 17) (hat.base.mono (by decide))
              have HF := Lib.hid hfin
              clear hat hK
              go_simp
              exact HF.out
            · have e6 : a.tmps[62]?.getD undef = .pointer (some ⟨C, 0, none⟩) := hat.have_ 17 62 (by kernel_rfl) (hat.dep 17 (by kernel_rfl))
              obtain ⟨x, tl, hxf, hxt, hC5, hM'⟩ := hat.have_ 16 61 (by kernel_rfl) (hat.dep 16 (by kernel_rfl)) hat.open_
              obtain ⟨q, cap, e5, _, _⟩ := hM'.ownp.form (by simp)
              rw [show (L ++ [x]).length = L.length + 1 by simp] at e5
              rw [e5] at hM'
              have hz := hat.size
              have hs18 : (l.setIfInBounds 18 true).getD 18 false = true := set_same (by rw [hz]; decide)
              have l16 := getD_set_true (i := 18) (hat.dep 16 (by kernel_rfl))
              have f1 : W.frozen? ⟨C, 0, none⟩ = false := by simp [World.frozen?, hC5]
              have c1 := cell_of_row _ C 0 _ _ _ hC5
              simp at c1
              have hfin : K (a.put none undef) (W.setCell ⟨C, 0, none⟩ (.slice (some ⟨q, 0, none⟩) (L.length + 1) cap)) := by
                refine hK _ _ trivial (fun k u hl h => ?_) ⟨fun h5 => ?_, fun _ => ⟨_, x, tl, hM', hxf, hxt⟩⟩
                · match k with
                  | 0 => exact h
                  | 1 => exact h
                  | 2 => exact h
                  | 3 => exact h
                  | 4 => exact h
                  | 5 => intro h5; rw [l16] at h5; cases h5
                  | 6 => intro h5; rw [l16] at h5; cases h5
                  | 7 => intro h5; rw [l16] at h5; cases h5
                  | 8 => intro h5; rw [l16] at h5; cases h5
                  | 9 => intro h5; rw [l16] at h5; cases h5
                  | 10 => exact h
                  | 11 => exact h
                  | 12 => intro h5; rw [l16] at h5; cases h5
                  | 13 => intro h5; rw [l16] at h5; cases h5
                  | 14 => intro h5; rw [l16] at h5; cases h5
                  | 15 => intro h5; rw [l16] at h5; cases h5
                  | 16 => intro h7; rw [hs18] at h7; cases h7
                  | 17 => exact h
                  | _ + 18 => exact h
                · rw [l16] at h5; cases h5
              have HF := Lib.hid hfin
              clear hat hK hM' hfin hC5 hz hs18 l16
              go_simp
              exact HF.out

          case hend =>
            intro l u W hall hG hB
            obtain ⟨tp', x, tl, hM', hxf, hxt⟩ := hB.2 (hall 18 (by decide))
            have D5 := Lib.hid (next_any W g 5 (by decide) (by decide) hM'.dice)
            have HM' := Lib.hid hM'
            have HW' := Lib.hid (HW.out.snoc (x := x) (f' := t) (by omega) (by omega) (by omega) (by omega))
            have hL : (L ++ [x]).length = L.length + 1 := by simp
            clear hM' hB hG hall HM5
            simp only [putAll, Act.put, List.setIfInBounds_toArray, List.set_cons_zero, List.set_cons_succ]
            generalize u 0 = v0
            generalize u (0 + 1) = v1
            generalize u (0 + 1 + 1) = v2
            generalize u (0 + 1 + 1 + 1) = v3
            generalize u (0 + 1 + 1 + 1 + 1) = v4
            generalize u (0 + 1 + 1 + 1 + 1 + 1) = v5
            generalize u (0 + 1 + 1 + 1 + 1 + 1 + 1) = v6
            generalize u (0 + 1 + 1 + 1 + 1 + 1 + 1 + 1) = v7
            generalize u (0 + 1 + 1 + 1 + 1 + 1 + 1 + 1 + 1) = v8
            generalize u (0 + 1 + 1 + 1 + 1 + 1 + 1 + 1 + 1 + 1) = v9
            generalize u (0 + 1 + 1 + 1 + 1 + 1 + 1 + 1 + 1 + 1 + 1) = v10
            generalize u (0 + 1 + 1 + 1 + 1 + 1 + 1 + 1 + 1 + 1 + 1 + 1) = v11
            generalize u (0 + 1 + 1 + 1 + 1 + 1 + 1 + 1 + 1 + 1 + 1 + 1 + 1) = v12
            generalize u (0 + 1 + 1 + 1 + 1 + 1 + 1 + 1 + 1 + 1 + 1 + 1 + 1 + 1) = v13
            generalize u (0 + 1 + 1 + 1 + 1 + 1 + 1 + 1 + 1 + 1 + 1 + 1 + 1 + 1 + 1) = v14
            generalize u (0 + 1 + 1 + 1 + 1 + 1 + 1 + 1 + 1 + 1 + 1 + 1 + 1 + 1 + 1 + 1) = v15
            generalize u (0 + 1 + 1 + 1 + 1 + 1 + 1 + 1 + 1 + 1 + 1 + 1 + 1 + 1 + 1 + 1 + 1) = v16
            generalize u (0 + 1 + 1 + 1 + 1 + 1 + 1 + 1 + 1 + 1 + 1 + 1 + 1 + 1 + 1 + 1 + 1 + 1) = v17
            go_wp2_with fail
            refine (D5.out).mono ?_
            rintro e w6 ⟨y, rfl, hy0', hy1', hd6, hg6⟩
            have s3 : IntKind.i64.wrap (t + y) = t + y := IntWalk.i64_in _ (by omega)
            have HM6 := Lib.hid (HM'.out.threw hd6 hg6)
            have s4 : IntKind.i64.wrap ((k : Int) - 1) = ((k - 1 : Nat) : Int) := by rw [IntWalk.i64_in _ (by omega)]; omega
            clear hd6 hg6 HM' D5
            go_wp2_with fail
            go_roundw
            case rel => exact ⟨t + y, k - 1, tp', L ++ [x], TL ++ [tl], by first | rfl | (rw [s3]) | go_num, by first | rfl | (rw [s4]) | go_num, by omega, by omega, by omega, by omega, ⟨fun j hj => by have := HW'.out.1 j hj; omega, HW'.out.2⟩, HM6.out⟩
            case measure => simp [intOf]; omega
        · have hk1' : k = 0 := by omega
          subst hk1'
          have hd0' : decide (0 < 0) = false := rfl
          obtain ⟨q, c2, e2, _, _⟩ := HM.out.ownq.form (by omega)
          obtain ⟨p, c1, e1, _, _⟩ := HM.out.ownp.form (by omega)
          subst e1; subst e2
          have eB := HM.out.hB
          have eC := HM.out.hC
          have k0 := cell_of_row _ C 0 _ _ _ eC
          have k1 := cell_of_row _ C 1 _ _ _ eC
          have k2 := cell_of_row _ C 2 _ _ _ eC
          have j0 := cell_of_row _ w.heap.size 0 _ _ _ eB
          have j1 := cell_of_row _ w.heap.size 1 _ _ _ eB
          have j2 := cell_of_row _ w.heap.size 2 _ _ _ eB
          have jf : ∀ j, wr.frozen? ⟨w.heap.size, j, none⟩ = false := fun j => by simp [World.frozen?, eB]
          simp at k0 k1 k2 j0 j1 j2
          have CF := fun (a : Act) (ha : a.tmps.getD 4 undef = .pointer (some ⟨w.heap.size, 0, none⟩)) (hd : a.defers = []) => cal_fin (a := a) HM.out HW.out (by omega) (by omega) (by omega) hQ3 R0.out R1.out HX.out ha hd
          rw [hQ3] at CF
          have HCF := Lib.hid CF
          clear eB eC CF
          go_wp2_with fail
          exact HCF.out _ rfl rfl
end Go.Proofs.Ytnconhbambhhgaa
