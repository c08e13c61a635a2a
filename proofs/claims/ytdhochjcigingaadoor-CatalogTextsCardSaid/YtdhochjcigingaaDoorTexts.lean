/- CatalogTexts: the walk. -/
import Derived.Test.YtdhochjcigingaaDoorTxC
import Derived.Deep.CutBlock
import Derived.Deep.CutRange
namespace Go.Proofs.YtdhochjcigingaaDoor
open Go.RowKit
set_option linter.all false

theorem text_small (a b : Int) (h1 : 1 ≤ a) (h2 : a ≤ 22) (hb : b ∈ sizesS a) : textS a b ≠ [] ∧ (textS a b).length ≤ 100 := by
  have key : ∀ i : Nat, i < 23 → 1 ≤ i → ∀ c ∈ sizesS (i : Int), 0 ≤ c ∧ c ≤ 16384 ∧ 0 < strS (i : Int) c ∧ textD (i : Int) c ≠ [] ∧ (textD (i : Int) c).length ≤ 100 := by decide +kernel
  obtain ⟨i, rfl⟩ : ∃ i : Nat, a = i := ⟨a.toNat, by omega⟩
  obtain ⟨k0, k1, k2, k3, k4⟩ := key i (by omega) (by omega) b hb
  have e : textS (i : Int) b = textD (i : Int) b := by
    unfold textS textD
    rw [if_pos k2, itoa_eq b k0 k1]
  rw [e]
  exact ⟨k3, k4⟩

theorem u8_rng (c : UInt8) : 0 ≤ (c.toNat : Int) ∧ (c.toNat : Int) ≤ 255 := by
  have := UInt8.toNat_lt c
  omega
def TextsR (m : Int) (w : World) (v : Value) (W : World) : Prop := OutR m w v W

set_option maxRecDepth 100000 in
set_option maxHeartbeats 8000000 in
theorem texts_any {m : Int} (a : Option Addr) (n c : Nat) (at' y h' : Int) (w : World) (h : Tabs m w) (hI : Ints w w.heap.size a n) (hat : -9223372036854775808 ≤ at' ∧ at' ≤ 9223372036854775807) (hy : 0 ≤ y ∧ y ≤ 255) (hh : 0 ≤ h' ∧ h' ≤ 255) :
    Calls Tryd.prog 4 #[.slice a n c, .int .i64 at', .int .u8 y, .int .u8 h'] w (BoolP true w) := by
  have HT := Lib.hid h; clear h
  by_cases hn : n ≤ 400
  · have cL := light_q a n c true w (by simpa using hn)
    have cR := roll_any a n c w hn hI
    have CL := Lib.hid cL; have CR := Lib.hid cR
    clear cL cR hI hn
    go_enter Tryd.func4, Tryd.ntmps4
    go_wp2_with fail
    refine (CL.out).mono ?_
    rintro e w' ⟨rfl, rfl⟩
    go_wp2_with fail
    refine (CR.out).mono ?_
    rintro e w1 ⟨rfl, hd, hb1⟩
    have cU := use_dice w1 w.heap.size hd
    clear hd
    go_wp2_with fail
    refine cU.mono ?_
    rintro e w2 ⟨p, q, hp1, hp2, hq, rfl, _, hg⟩
    have hW2 : LW m w w2 := by
      have hb2 := hb1.grown hg hb1.size (fun k hk => by cases hk; exact Nat.le_refl _)
      exact ⟨HT.out.step hb2, hb2⟩
    obtain ⟨u1, u2⟩ := text_small p q hp1 hp2 hq
    have cT := fun W => reftext_any p q W
    generalize textS p q = T at *
    clear cU CL CR hb1 hg hp1 hp2 hq
    have CT := Lib.hid cT; clear cT
    have HW2 := Lib.hid hW2; clear hW2
    go_wp2_with fail
    refine (CT.out _).mono ?_
    rintro e w3 ⟨rfl, hb3⟩
    have hW3 := HW2.out.step hb3
    clear hb3 HW2
    obtain ⟨B, hB⟩ : ∃ B, w3.heap.size = B := ⟨_, rfl⟩
    obtain ⟨cc, w4, hcv, hb4, hcells, hc1, hc2, hlt⟩ := conv_new w3 B hB T (by omega)
    have hTW : TW m w B T w4 := by
      have hb4' : Below w3.heap.size w3 w4 := by rw [hB]; exact hb4
      exact ⟨hcells, hW3.tabs.step hb4', hW3.below.trans (hb4'.mono hW3.below.size), hlt, by rw [← hB]; exact hW3.below.size, HT.out.size⟩
    have h0 : 0 < T.length := List.length_pos_iff.2 u1
    obtain ⟨N, hN⟩ : ∃ N, T.length = N := ⟨_, rfl⟩
    rw [hN] at hcv h0 hc1 u2
    have HN := Lib.hid hN; have HTW := Lib.hid hTW
    clear hb4 hcells hB hW3 hN hTW u1
    have cM := fun W => mod_any at' (N : Int) W hat.1 hat.2 (by omega) (by omega)
    obtain ⟨i, hi, hiN⟩ : ∃ i : Nat, at' % (N : Int) = i ∧ i < N := ⟨(at' % (N : Int)).toNat, by rw [Int.toNat_of_nonneg (Int.emod_nonneg _ (by omega))], by have := Int.emod_lt_of_pos at' (show (0 : Int) < N by omega); have := Int.emod_nonneg at' (show (N : Int) ≠ 0 by omega); omega⟩
    rw [hi] at cM
    have CM := Lib.hid cM
    clear cM hi hat
    go_wp2_with fail
    refine (CM.out _).mono ?_
    rintro e w' ⟨rfl, rfl⟩
    clear CM hcv
    have hr0 : 0 ≤ h' % 5 ∧ h' % 5 < 5 := by omega
    go_upto_block 0 with (fail)
    generalize h' % 5 = r at *
    have hTW := HTW.out
    clear HTW
    obtain ⟨wb, rfl⟩ : ∃ wb : World, wb = w4 := ⟨_, rfl⟩
    go_cut [10] from 32 to 73 (fun s10 wx => OutR m w s10 wx)
    case first =>
      obtain ⟨x0, x1⟩ := hTW.cells i (by rw [HN.out]; exact hiN)
      have hi0 : (0 : Int) ≤ (i : Int) := by omega
      have hi1 : (i : Int) < (N : Int) := by omega
      clear hh
      have hrr : r = 0 ∨ r = 1 ∨ r = 2 ∨ r = 3 ∨ r = 4 := by omega
      clear hr0
      rcases hrr with rfl | rfl | rfl | rfl | rfl
      · have HO := Lib.hid ((hTW.store i (by rw [HN.out]; exact hiN) y hy).out (by rw [List.length_set, HN.out]; omega) N cc (by rw [List.length_set, HN.out]))
        clear hTW
        go_wp2_with fail
        go_meet
        exact HO.out
      · have hd := hTW.drew
        have he := hd.erase i (by rw [HN.out]; exact hiN)
        rw [Nat.zero_add] at he
        obtain ⟨i0, hi', hz0, hz1, hz2⟩ := info_parts (show (Tryd.prog.info? 5).map (fun i => (i.zero, i.size, i.bytes)) = some (some (.int .u8 0), 1, 1) by kernel_rfl)
        obtain ⟨A, hA, hnews⟩ : ∃ A : Addr, (if cc = i + 1 then some (⟨B, 0, none⟩ : Addr) else some ⟨B, i + 1, none⟩) = some A ∧ Hid (∀ j u, (movedB T i)[j]? = some u → wb.drew.cell? (A.add j) = some u) := by
          have hlen := movedB_length T i
          by_cases h : cc = i + 1
          · refine ⟨⟨B, 0, none⟩, by simp [h], fun j u hu => ?_⟩
            have h0 : (movedB T i).length = 0 := by rw [hlen, HN.out]; omega
            rw [List.length_eq_zero_iff.1 h0] at hu
            simp at hu
          · refine ⟨⟨B, i + 1, none⟩, by simp [h], fun j u hu => ?_⟩
            have hj : j < T.length - (i + 1) := by
              have := (List.getElem?_eq_some_iff.1 hu).1
              rwa [hlen] at this
            rw [movedB_get T i j hj] at hu
            rw [Addr.add_lit]
            exact (hd.cells (i + 1 + j) (by omega)).1.trans hu
        have s1 := Lib.hid (show (movedB T i).length = (N - (i + 1)) * 1 by rw [Nat.mul_one, movedB_length, HN.out])
        have s2 : Hid (∀ u ∈ movedB T i, u.oneCell' = true) := by
          intro u hu
          obtain ⟨x, _, rfl⟩ := List.mem_map.1 hu
          rfl
        have s3 : Hid (∀ j, j < (movedB T i).length → (wb.drew.cell? ⟨B, 0 + i * 1 + j, none⟩).isSome = true ∧ wb.drew.frozen? ⟨B, 0 + i * 1 + j, none⟩ = false) := by
          intro j hj
          rw [movedB_length] at hj
          rw [Nat.mul_one, Nat.zero_add]
          obtain ⟨q1, q2⟩ := hd.cells (i + j) (by omega)
          exact ⟨by rw [q1]; rfl, q2⟩
        have hic : i ≤ cc := by omega
        have hwr : IntKind.i64.wrap ((i : Int) + 1) = (i : Int) + 1 := by rw [IntKind.wrap_i64]; omega
        have hq0 : (0 : Int) ≤ (i : Int) + 1 := by omega
        have hq1 : (i : Int) + 1 ≤ (N : Int) := by omega
        have hq2 : ((i : Int) + 1).toNat = i + 1 := by omega
        have hlE : (T.eraseIdx i).length = i + (N - (i + 1)) := by rw [List.length_eraseIdx, if_pos (by rw [HN.out]; exact hiN), HN.out]; omega
        have HO := Lib.hid (he.out (by rw [hlE]; omega) (i + (N - (i + 1))) cc hlE.symm)
        clear hTW hd he x0 x1 hlE
        go_wp2_with fail
        go_region_law (refine step_append_room rfl (.tmp 42) (.tmp 46) 44 rfl 5 i0 1 (by kernel_rfl) hi' hz1 B 0 i cc (by simp [Act.eval, Act.put]) A (N - (i + 1)) (cc - (i + 1)) (movedB T i) (by simp [Act.eval, Act.put]) s1.out hnews.out s2.out (by omega) s3.out ?_)
        all_goals
          (try simp only [Act.put, List.setIfInBounds_toArray, List.set_cons_zero, List.set_cons_succ, List.getElem_toArray, List.getElem_cons_succ, List.getElem_cons_zero])
          go_wp2_with fail
          go_meet
          exact HO.out
      · have hd := hTW.drew
        have hiT : i < T.length := by rw [HN.out]; exact hiN
        obtain ⟨bt, hbt⟩ : ∃ bt, T.getD i 0 = bt := ⟨_, rfl⟩
        have hbc : ∀ W, TW m w B T W → W.cell? ⟨B, i, none⟩ = some (.int .u8 bt.toNat) := fun W h => by rw [← hbt]; exact (h.cells i hiT).1
        have HBC := Lib.hid hbc
        clear hbt hbc
        have tA := hd.step ((Below.refl _ _).alloc (Nat.le_refl _) (.cells #[] 5))
        have tB := tA.step ((Below.refl _ _).alloc (Nat.le_refl _) (.cells #[.int .u8 bt.toNat] 5))
        have tC := (hd.step ((Below.refl _ _).alloc (Nat.le_refl _) (.cells #[.int .u8 bt.toNat] 5))).step ((Below.refl _ _).alloc (Nat.le_refl _) (.cells #[] 5))
        have oA := World.ownsRow_lit (e := 5) (size := 1) (base := wb.heap.size) wb.drew #[] 0 (Nat.le_refl _) (by simp [maxLen]) rfl
        have oB := oA.alloc (.cells #[.int .u8 bt.toNat] 5)
        have oC := World.ownsRow_lit (e := 5) (size := 1) (base := wb.heap.size) (wb.drew.alloc (.cells #[.int .u8 bt.toNat] 5)) #[] 0 (by simp) (by simp [maxLen]) rfl
        rw [show (wb.drew.alloc (.cells #[.int .u8 bt.toNat] 5)).heap.size = wb.heap.size + 1 by simp] at oC
        have eB : ((wb.drew.alloc (.cells #[] 5)).alloc (.cells #[.int .u8 bt.toNat] 5)).cell? ⟨wb.heap.size + 1, 0, none⟩ = some (.int .u8 bt.toNat) := by
          have := cell_of_row _ (wb.heap.size + 1) 0 _ _ _ (heap_alloc2_new wb.drew (.cells #[] 5) (.cells #[.int .u8 bt.toNat] 5)); exact this
        have eC : ((wb.drew.alloc (.cells #[.int .u8 bt.toNat] 5)).alloc (.cells #[] 5)).cell? ⟨wb.heap.size, 0, none⟩ = some (.int .u8 bt.toNat) := by
          rw [World.cell?_alloc_lt _ _ _ (by simp)]
          exact cell_of_row _ wb.heap.size 0 _ _ _ (heap_alloc_new wb.drew (.cells #[.int .u8 bt.toNat] 5))
        have lB := hTW.lt
        have TA := Lib.hid tA; have TB := Lib.hid tB; have TC := Lib.hid tC; have OA := Lib.hid oA; have OB := Lib.hid oB; have OC := Lib.hid oC; have EB := Lib.hid eB; have EC := Lib.hid eC
        have HTD := Lib.hid hd
        have tk : ∀ W, TW m w B T W → ∀ j, j < i → W.cell? ⟨B, 0 + j, none⟩ = some (.int .u8 ((T.take i).getD j 0).toNat) := fun W h j hj => by
          rw [Nat.zero_add, (h.cells j (by omega)).1, List.getD, List.getD, List.getElem?_take_of_lt hj]
        have dk : ∀ W, TW m w B T W → ∀ j, j < N - i → W.cell? ⟨B, i + j, none⟩ = some (.int .u8 ((T.drop i).getD j 0).toNat) := fun W h j hj => by
          rw [(h.cells (i + j) (by rw [HN.out]; omega)).1, List.getD, List.getD, List.getElem?_drop]
        have TK := Lib.hid tk; have DK := Lib.hid dk
        have l1 := Lib.hid (show (T.take i).length = i by rw [List.length_take]; omega)
        have l2 := Lib.hid (show (T.drop i).length = N - i by rw [List.length_drop, HN.out])
        have hci : ¬ cc = i := by omega
        have hi2 : (i : Int) ≤ (N : Int) := by omega
        have hi3 : i ≤ cc := by omega
        have hx : wb.drew.cell? ⟨B, i, none⟩ = some (.int .u8 bt.toNat) := HBC.out _ hd
        have hx' : wb.cell? ⟨B, i, none⟩ = some (.int .u8 bt.toNat) := HBC.out _ hTW
        clear tA tB tC oA oB oC eB eC hd hTW tk dk x0 x1
        go_wp2_with fail
        go_region_held3 (fun W => W.cell? ⟨B, i, none⟩ = some (.int .u8 bt.toNat)) ((first | assumption | go_keep))
          ((first
            | (refine step_app rfl (.tmp 50) (.tmp 53) rfl wb.heap.size 0 i cc wb.heap.size 0 [] (T.take i) (by simp [Act.eval, Act.put]) OA.out B 0 (by simp [Act.eval, Act.put]) l1.out (TK.out _ TA.out) (by omega) (by simp) ?_
               intro g1 cap1 w1 own1 gr1 at1 lt1
               have hT1 := TA.out.grown gr1 (fun k e => by injection e with e; omega)
               have hx1 := HBC.out _ hT1
               have HT1 := Lib.hid hT1
               clear hT1)
            | (refine step_app rfl (.tmp 50) (.tmp 53) rfl wb.heap.size 0 i cc wb.heap.size 0 [] (T.take i) (by simp [Act.eval, Act.put]) OB.out B 0 (by simp [Act.eval, Act.put]) l1.out (TK.out _ TB.out) (by omega) (by simp; omega) ?_
               intro g1 cap1 w1 own1 gr1 at1 lt1
               have hT1 := TB.out.grown gr1 (fun k e => by injection e with e; omega)
               have hx1 := HBC.out _ hT1
               have he1 := (gr1.cell_far ⟨wb.heap.size + 1, 0, none⟩ (by simp) (by simp)).trans EB.out
               have HT1 := Lib.hid hT1
               clear hT1)
            | (refine step_app rfl (.tmp 50) (.tmp 53) rfl wb.heap.size 0 i cc (wb.heap.size + 1) 0 [] (T.take i) (by simp [Act.eval, Act.put]) OC.out B 0 (by simp [Act.eval, Act.put]) l1.out (TK.out _ TC.out) (by omega) (by simp; omega) ?_
               intro g1 cap1 w1 own1 gr1 at1 lt1
               have hT1 := TC.out.grown gr1 (fun k e => by injection e with e; omega)
               have hx1 := HBC.out _ hT1
               have he1 := (gr1.cell_far ⟨wb.heap.size, 0, none⟩ (by simp; omega) (by simp)).trans EC.out
               have HT1 := Lib.hid hT1
               clear hT1)
            | (refine step_app rfl (.tmp 54) (.tmp 59) rfl wb.heap.size (0 + i) 1 1 g1 cap1 ([] ++ vb (T.take i)) [bt] (by simp [Act.eval, Act.put]) (own1.alloc _) w1.heap.size 0 (by simp [Act.eval, Act.put]) rfl (fun j hj => by have hj0 : j = 0 := (by omega); subst hj0; exact cell_of_row _ _ 0 _ _ _ (heap_alloc_new _ _)) (by omega) (by have := (own1.lt g1 rfl); simp; omega) ?_
               intro g2 cap2 w2 own2 gr2 at2 lt2
               have hT2 := (HT1.out.step ((Below.refl _ _).alloc (Nat.le_refl _) _)).grown gr2 (fun k e => by injection e with e; have := (own1.lt g1 rfl).1; omega)
               have hx2 := HBC.out _ hT2
               have HT2 := Lib.hid hT2
               clear hT2)
            | (refine step_app rfl (.tmp 54) (.tmp 59) rfl wb.heap.size (0 + i) 1 1 g1 cap1 ([] ++ vb (T.take i)) [bt] (by simp [Act.eval, Act.put]) own1 (wb.heap.size + 1) 0 (by simp [Act.eval, Act.put]) rfl (fun j hj => by have hj0 : j = 0 := (by omega); subst hj0; exact he1) (by omega) (by have := (own1.lt g1 rfl); omega) ?_
               intro g2 cap2 w2 own2 gr2 at2 lt2
               have hT2 := HT1.out.grown gr2 (fun k e => by injection e with e; have := (own1.lt g1 rfl).1; omega)
               have hx2 := HBC.out _ hT2
               have HT2 := Lib.hid hT2
               clear hT2)
            | (refine step_app rfl (.tmp 54) (.tmp 59) rfl wb.heap.size (0 + i) 1 1 g1 cap1 ([] ++ vb (T.take i)) [bt] (by simp [Act.eval, Act.put]) own1 wb.heap.size 0 (by simp [Act.eval, Act.put]) rfl (fun j hj => by have hj0 : j = 0 := (by omega); subst hj0; exact he1) (by omega) (by have := (own1.lt g1 rfl); omega) ?_
               intro g2 cap2 w2 own2 gr2 at2 lt2
               have hT2 := HT1.out.grown gr2 (fun k e => by injection e with e; have := (own1.lt g1 rfl).1; omega)
               have hx2 := HBC.out _ hT2
               have HT2 := Lib.hid hT2
               clear hT2)
            | (refine step_app rfl (.tmp 60) (.tmp 63) rfl wb.heap.size (0 + i + 1) (N - i) (cc - i) g2 cap2 (([] ++ vb (T.take i)) ++ vb [bt]) (T.drop i) (by simp [Act.eval, Act.put]) own2 B i (by simp [Act.eval, Act.put]) l2.out (DK.out _ HT2.out) (by omega) (by have := (own2.lt g2 rfl); omega) ?_
               intro g3 cap3 w3 own3 gr3 at3 lt3
               have hT3 := HT2.out.grown gr3 (fun k e => by injection e with e; have := (own2.lt g2 rfl).1; omega)
               have hx3 := HBC.out _ hT3
               have HT3 := Lib.hid hT3
               clear hT3)))
        all_goals
          have HO := Lib.hid (own_out (l := T.take i ++ [bt] ++ T.drop i) (by have := own3; simpa [vb] using this) (by rw [List.length_append, List.length_append, l1.out, l2.out]; simp; omega) HT3.out.tabs HT3.out.below)
          (try simp only [Act.put, List.setIfInBounds_toArray, List.set_cons_zero, List.set_cons_succ, List.getElem_toArray, List.getElem_cons_succ, List.getElem_cons_zero])
          go_wp2_with fail
          go_meet
          exact HO.out
      · have hst := fun (v : Int) (hv : 0 ≤ v ∧ v ≤ 255) => (hTW.store i (by rw [HN.out]; exact hiN) v hv).out (by rw [List.length_set, HN.out]; omega) N cc (by rw [List.length_set, HN.out])
        have HO := Lib.hid hst
        clear hTW hst
        have hy11 : y % 11 = 0 ∨ y % 11 = 1 ∨ y % 11 = 2 ∨ y % 11 = 3 ∨ y % 11 = 4 ∨ y % 11 = 5 ∨ y % 11 = 6 ∨ y % 11 = 7 ∨ y % 11 = 8 ∨ y % 11 = 9 ∨ y % 11 = 10 := by omega
        rcases hy11 with hy1 | hy1 | hy1 | hy1 | hy1 | hy1 | hy1 | hy1 | hy1 | hy1 | hy1
        all_goals
          go_wp2_with fail
          go_meet
          exact HO.out _ (u8_rng _)
      · have HO := Lib.hid (hTW.out (by rw [HN.out]; omega) N cc HN.out.symm)
        clear hTW
        go_wp2_with fail
        go_meet
        exact HO.out
    case rest =>
      obtain ⟨l, hl, hv, hT, hbw⟩ := hcut
      clear hTW
      have c12 := fun W (h : Tabs m W) => parse_any l hl W h
      have c13 := fun W => refparse_any digsOk l hl W
      generalize pA l = p1 at *
      generalize pB l = q1 at *
      generalize pE l = r1 at *
      have C12 := Lib.hid c12; have C13 := Lib.hid c13
      clear c12 c13
      have hk1 := hv.convert
      have hW : LW m w wc := ⟨hT, hbw⟩
      have HV := Lib.hid hv; have HW := Lib.hid hW
      clear hv hW hT hbw HN
      go_wp2_with fail
      refine (C12.out _ HW.out.tabs).mono ?_
      rintro e W1 ⟨rfl, hb1⟩
      have hW1 := HW.out.step hb1
      have hv1 := HV.out.mono hb1
      have hb := (Below.refl W1.heap.size W1).alloc (Nat.le_refl _) (.cells #[.int .i64 p1, .int .i64 q1] 23)
      have hX := heap_alloc_new W1 (.cells #[.int .i64 p1, .int .i64 q1] 23)
      have lX : W1.heap.size < (W1.alloc (.cells #[.int .i64 p1, .int .i64 q1] 23)).heap.size := by simp
      have hW1a := hW1.step hb
      have hk2 := (hv1.mono hb).convert
      have HX := Lib.hid hX; have LX := Lib.hid lX; have HW1 := Lib.hid hW1a
      clear hb1 hW1 hv1 hb hX lX hW1a HW HV hk1
      go_wp2_with fail
      refine (C13.out _).mono ?_
      rintro e W2 ⟨rfl, hb2⟩
      have hW2 := HW1.out.step hb2
      have hX := (hb2.block _ LX.out).trans HX.out
      have lX := Nat.lt_of_lt_of_le LX.out hb2.size
      clear HX LX HW1 hb2 hk2
      generalize W1.heap.size = X at *
      generalize (W1.alloc (.cells #[.int .i64 p1, .int .i64 q1] 23)) = W1a at *
      have hb := (Below.refl W2.heap.size W2).alloc (Nat.le_refl _) (.cells #[.int .i64 p1, .int .i64 q1] 23)
      have hX2 := (hb.block _ lX).trans hX
      have hY := heap_alloc_new W2 (.cells #[.int .i64 p1, .int .i64 q1] 23)
      have hW3 := hW2.step hb
      have X0 := cell_of_row _ X 0 _ _ _ hX2
      have X1 := cell_of_row _ X 1 _ _ _ hX2
      have Y0 := cell_of_row _ W2.heap.size 0 _ _ _ hY
      have Y1 := cell_of_row _ W2.heap.size 1 _ _ _ hY
      simp only [List.getElem?_toArray, List.getElem?_cons_succ, List.getElem?_cons_zero] at X0 X1 Y0 Y1
      have HW3 := Lib.hid hW3
      clear hb hX lX hX2 hY hW2 hW3
      go_wp2_with fail
      refine (awake_any _ HW3.out.tabs).mono ?_
      rintro e W6 ⟨rfl, hb6⟩
      have hW6 := HW3.out.step hb6
      clear hb6
      go_wp2_with fail
      go_ret
      exact ⟨rfl, hW6.below⟩
  · have cL := light_q a n c false w (by simpa using hn)
    have cA := awake_any w HT.out
    have CL := Lib.hid cL; have CA := Lib.hid cA
    clear cL cA hI hn
    go_enter Tryd.func4, Tryd.ntmps4
    go_wp2_with fail
    refine (CL.out).mono ?_
    rintro e w' ⟨rfl, rfl⟩
    go_wp2_with fail
    refine (CA.out).mono ?_
    rintro e w1 ⟨rfl, hb1⟩
    go_wp2_with fail
    go_ret
    exact ⟨rfl, hb1⟩
end Go.Proofs.YtdhochjcigingaaDoor
