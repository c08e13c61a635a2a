/- PackagesOrder. -/
import Derived.Test.YtdhochjcigingaaDoorPkM
import Derived.Test.YtdhochjcigingaaDoorBack
import Derived.Deep.AppendLies
namespace Go.Proofs.YtdhochjcigingaaDoor
open Go.RowKit
set_option linter.all false

/-- The three versions, and what was read back, on the way. -/
structure OW (m : Int) (w : World) (a b c x : Value) (A B C X : List Int) (W : World) : Prop where
  na : Nums W a A
  nb : Nums W b B
  nc : Nums W c C
  nx : Nums W x X
  tabs : TabP m W
  below : Below w.heap.size w W
theorem OW.step {m : Int} {w : World} {a b c x : Value} {A B C X : List Int} {W W' : World} (h : OW m w a b c x A B C X W) (hb : Below W.heap.size W W') : OW m w a b c x A B C X W' :=
  ⟨h.na.step hb, h.nb.step hb, h.nc.step hb, h.nx.step hb, h.tabs.step hb, h.below.trans (hb.mono h.below.size)⟩
theorem OW.al {m : Int} {w : World} {a b c x : Value} {A B C X : List Int} {W : World} (h : OW m w a b c x A B C X W) (o : Obj) : OW m w a b c x A B C X (W.alloc o) := h.step ((Below.refl _ _).alloc (Nat.le_refl _) o)

theorem lexC_range (f g : Nat → Int) : ∀ n k, lexC f g n k = 0 ∨ lexC f g n k = 1 ∨ lexC f g n k = -1 := by
  intro n
  induction n with
  | zero => intro k; exact .inl rfl
  | succ n ih =>
    intro k
    unfold lexC
    split
    · exact ih _
    · exact compare_range _ _
theorem cmpV_range (A B : List Int) : cmpV A B = 0 ∨ cmpV A B = 1 ∨ cmpV A B = -1 := lexC_range _ _ _ _

theorem wpList_appI {ops : Array Oper} {rest : List Oper} {o : Oper} {a : Act} {W : World} {Q : Exit → Act → World → Prop} (hw : Region.wanted o (yielded ops a.tmps) = true) (s x : Operand)
    (ho : o.op = .call { callee := .builtin .append, args := #[s, x], argTypes := #[40, 40] })
    (base n m c : Nat) (v : Value) (xs : List Value) (l : List Int) (hs : a.eval s = v) (hown : W.ownsRow base 3 1 v n xs)
    (ad : Addr) (hx : a.eval x = .slice (some ad) m c) (hl : l.length = m) (hc : ∀ j u, (vi l)[j]? = some u → W.cell? (ad.add j) = some u) (hm : 0 < m) (hnm : n + m ≤ 2000) (hbase : base ≤ W.heap.size)
    (h : ∀ g cap w', w'.ownsRow base 3 1 (.slice (some ⟨g, 0, none⟩) (n + m) cap) (n + m) (xs ++ vi l) → W.grownBy w' v.ownBlock → wpList Tryd.prog ops Q rest (a.put o.dst (.slice (some ⟨g, 0, none⟩) (n + m) cap)) w') : wpList Tryd.prog ops Q (o :: rest) a W := by
  obtain ⟨i0, hi, hz0, hz1, hz2⟩ := info_parts info3
  have hu : Tryd.prog.underlying 40 = some (.slice 3) := by kernel_rfl
  have hvl : (vi l).length = m * 1 := by unfold vi; rw [List.length_map, hl, Nat.mul_one]
  refine wpList_step fun K hK => ?_
  rw [if_pos hw]
  exact wp_append_lies W s x 40 ho base 3 i0 (.int .i64 0) 1 8 hu hi hz0 hz1 hz2 rfl Nat.one_pos v n xs hs hown ad m c (vi l) hx hvl hc (vi_one l) hm (by unfold maxLen; omega) (by omega) hbase _ rfl
    (fun g cap w' h1 h2 _ _ => hK _ _ (h g cap w' h1 h2))

set_option maxRecDepth 100000 in
set_option maxHeartbeats 4000000 in
theorem order_any {m : Int} (a : Option Addr) (n c : Nat) (w : World) (h : TabP m w) (hI : Ints w w.heap.size a n) : Calls Tryd.prog 9 #[.slice a n c] w (BoolP true w) := by
  have HT := Lib.hid h; clear h
  by_cases hn : n ≤ 400
  · have cL := light_q a n c true w (by simpa using hn)
    have cR := roll_any a n c w hn hI
    have CL := Lib.hid cL; have CR := Lib.hid cR
    clear cL cR hI hn
    go_enter Tryd.func9, Tryd.ntmps9
    go_wp2_with fail
    refine (CL.out).mono ?_
    rintro e w' ⟨rfl, rfl⟩
    go_wp2_with fail
    refine (CR.out).mono ?_
    rintro e w1 ⟨rfl, hd, hb1⟩
    have c1 := version_dice w1 w.heap.size hd
    have C1 := Lib.hid c1; clear c1 hd
    have HB1 := Lib.hid hb1; clear hb1
    go_wp2_with fail
    refine (C1.out).mono ?_
    rintro e w2 ⟨A, va, rfl, hGA, hDA⟩
    have c2 := version_dice w2 w.heap.size hDA.dice
    have C2 := Lib.hid c2; have HGA := Lib.hid hGA; have HDA := Lib.hid hDA
    clear c2 hGA hDA C1
    go_wp2_with fail
    refine (C2.out).mono ?_
    rintro e w3 ⟨B, vb, rfl, hGB, hDB⟩
    have HDA3 := Lib.hid (HDA.out.call hDB.grown hDB.dice)
    have c3 := version_dice w3 w.heap.size hDB.dice
    have C3 := Lib.hid c3; have HGB := Lib.hid hGB; have HDB := Lib.hid hDB
    clear c3 hGB hDB C2 HDA
    go_wp2_with fail
    refine (C3.out).mono ?_
    rintro e w4 ⟨C, vc, rfl, hGC, hDC⟩
    have hbw : Below w.heap.size w w4 := by
      have hg := (HDA3.out.call hDC.grown hDC.dice).grown
      exact HB1.out.grown hg HB1.out.size (fun k hk => by cases hk; exact Nat.le_refl _)
    have hO : OW m w va vb vc (.slice none 0 0) A B C [] w4 := ⟨Nums.own (HDA3.out.call hDC.grown hDC.dice).own, Nums.own (HDB.out.call hDC.grown hDC.dice).own, Nums.own hDC.own, Nums.empty _, HT.out.step hbw, hbw⟩
    have HGC := Lib.hid hGC; have HO := Lib.hid hO
    clear hGC hDC hbw hO C3 HDA3 HDB HB1
    have cT := text_v HO.out.tabs HO.out.na (HGA.out.ver (by omega))
    obtain ⟨x1, x2, x3, x4⟩ := txt_back HGA.out (by omega)
    have cV := fun W (h : TabP m W) => version_v (txt A) x1 x2 x3 W h
    rw [x4] at cV
    generalize txt A = t at *
    have CT := Lib.hid cT; have CV := Lib.hid cV
    clear cT cV x1 x2 x3 x4
    go_wp2_with fail
    refine (CT.out).mono ?_
    rintro e w5 ⟨he, hb5⟩
    subst he
    have HO5 := Lib.hid (HO.out.step hb5)
    clear hb5 CT HO
    go_wp2_with fail
    refine (CV.out _ HO5.out.tabs).mono ?_
    rintro e w6 ⟨vx, he, hnx, hb6⟩
    subst he
    have hO6 := HO5.out.step hb6
    have hO7 : OW m w va vb vc vx A B C A w6 := ⟨hO6.na, hO6.nb, hO6.nc, hnx, hO6.tabs, hO6.below⟩
    have HO7 := Lib.hid hO7
    clear hb6 hnx hO6 hO7 CV HO5
    have la : A.length ≤ 500 := by have := HGA.out.2.1; omega
    have lb : B.length ≤ 500 := by have := HGB.out.2.1; omega
    have lc : C.length ≤ 500 := by have := HGC.out.2.1; omega
    have cab := fun W (h : OW m w va vb vc vx A B C A W) => compare_v la lb h.na h.nb
    have cbc := fun W (h : OW m w va vb vc vx A B C A W) => compare_v lb lc h.nb h.nc
    have cac := fun W (h : OW m w va vb vc vx A B C A W) => compare_v la lc h.na h.nc
    have cba := fun W (h : OW m w va vb vc vx A B C A W) => compare_v lb la h.nb h.na
    have csa := fun W (h : OW m w va vb vc vx A B C A W) => same_v la la h.nx h.na
    rw [decide_eq_true rfl] at csa
    have cha := fun W (h : OW m w va vb vc vx A B C A W) => in_v (by simp) lb la (Nums.empty W) h.nb h.na
    have cla := fun W (h : OW m w va vb vc vx A B C A W) => in_v lb (by simp) la h.nb (Nums.empty W) h.na
    have cna := fun W (h : OW m w va vb vc vx A B C A W) => in_v (by simp) (by simp) la (Nums.empty W) (Nums.empty W) h.na
    rw [inV_high A B HGB.out.1] at cha
    rw [inV_low A B HGB.out.1] at cla
    rw [inV_none] at cna
    have hneg := cmpV_neg A B
    have htr := cmpV_trans A B C
    have hrg := cmpV_range A B
    generalize cmpV A B = ab at *
    generalize cmpV B C = bc at *
    generalize cmpV A C = ac at *
    generalize cmpV B A = ba at *
    have czz := fun W (v : Value) (h : OW m w va vb vc vx A B C A W) (hv : Nums W v (A ++ [0])) => compare_v (W := W) la (show (A ++ [0]).length ≤ 500 by have := HGA.out.2.1; simp; omega) h.na hv
    rw [cmpV_zero A] at czz
    have CAB := Lib.hid cab; have CBC := Lib.hid cbc; have CAC := Lib.hid cac; have CBA := Lib.hid cba; have CSA := Lib.hid csa; have CHA := Lib.hid cha; have CLA := Lib.hid cla; have CNA := Lib.hid cna; have CZZ := Lib.hid czz
    have HNEG := Lib.hid hneg; have HTR := Lib.hid htr; have HRG := Lib.hid hrg
    clear cab cbc cac cba csa cha cla cna czz hneg htr hrg
    obtain ⟨i0, hi, hz0, hz1, hz2⟩ := info_parts info3
    have HI := Lib.hid hi; have HZ0 := Lib.hid hz0; have HZ1 := Lib.hid hz1; have HZ2 := Lib.hid hz2
    clear hi hz0 hz1 hz2
    go_wp2_with fail
    refine (CAB.out _ HO7.out).mono ?_
    rintro e w7 ⟨rfl, rfl⟩
    go_wp2_with fail
    refine (CBC.out _ HO7.out).mono ?_
    rintro e w7 ⟨rfl, rfl⟩
    go_wp2_with fail
    refine (CAC.out _ HO7.out).mono ?_
    rintro e w7 ⟨rfl, rfl⟩
    go_wp2_with fail
    refine (CSA.out _ HO7.out).mono ?_
    rintro e w7 ⟨rfl, hb7⟩
    have HO8 := Lib.hid (HO7.out.step hb7)
    clear hb7 HO7 CSA CAB CBC CAC
    go_wp2_with fail
    refine (CBA.out _ HO8.out).mono ?_
    rintro e w8 ⟨rfl, rfl⟩
    clear CBA
    obtain ⟨pa, ca, hva, hpa⟩ := HO8.out.na
    have hA1 : 0 < A.length := HGA.out.1
    have hA3 : A.length ≤ 3 := HGA.out.2.1
    obtain ⟨b0, o0, hpa0, _⟩ := hpa 0 hA1
    subst hpa0
    have hcell : ∀ j u, (vi A)[j]? = some u → w7.cell? ((⟨b0, o0, none⟩ : Addr).add j) = some u := fun j u hu => by
      have hj : j < A.length := by
        have := (List.getElem?_eq_some_iff.1 hu).1
        unfold vi at this; rwa [List.length_map] at this
      obtain ⟨b1, o1, hq, hc⟩ := hpa j hj
      injection hq with hq; injection hq with hq1 hq2
      subst hq1; subst hq2
      rw [Addr.add_lit, hc]
      unfold vi at hu
      rw [List.getElem?_map, List.getElem?_eq_getElem hj] at hu
      injection hu with hu
      rw [← hu, List.getD, List.getElem?_eq_getElem hj]
      rfl
    have hvl : (vi A).length = A.length * 1 := by unfold vi; simp
    have o1 := World.ownsRow_lit (base := w7.heap.size) (e := 3) (size := 1) w7 #[] 0 (Nat.le_refl _) (by simp [maxLen]) rfl
    have n1 : ∀ j u, (vi A)[j]? = some u → (w7.alloc (.cells #[] 3)).cell? ((⟨b0, o0, none⟩ : Addr).add j) = some u := fun j u hu => by
      have := hcell j u hu
      rw [Addr.add_lit] at this ⊢
      exact cell_later' ((Below.refl _ _).alloc (Nat.le_refl _) _) this
    have O1 := Lib.hid o1; have N1 := Lib.hid n1; have VO := Lib.hid (vi_one A)
    have HO9 := Lib.hid (HO8.out.al (.cells #[] 3))
    have Z1 := Lib.hid (vi_one [0])
    clear o1 n1 hvl hcell hpa
    obtain ⟨pb, kb, hvb, _⟩ := HO8.out.nb
    subst hva
    subst hvb
    generalize B.length = NB at *
    generalize hNN : A.length = N at *
    have VL := Lib.hid hNN
    clear hNN
    have hba : ba = -ab := by have := HNEG.out; omega
    have hrg := HRG.out
    have htr := HTR.out
    clear HNEG HRG HTR
    subst hba
    rcases hrg with rfl | rfl | rfl
    · by_cases hbc : bc ≤ 0
      · have hac := htr (by omega) hbc
        have d1 : decide (bc ≤ 0) = true := decide_eq_true hbc
        have d2 : decide (0 < ac) = false := decide_eq_false (by omega)
        clear htr
        go_wp2_with (first
          | (at_builtin; refine wpList_appI (by rfl) (.tmp 81) (.tmp 82) rfl w7.heap.size 0 N ca (.slice (some ⟨w7.heap.size, 0, none⟩) 0 0) [] A rfl O1.out ⟨b0, o0, none⟩ rfl VL.out N1.out (by omega) (by omega) (by simp) ?_; intro g1 k1 w9 hown1 hgrow1; rw [Nat.zero_add, List.nil_append] at hown1; have HOW1 := Lib.hid hown1; have HGR1 := Lib.hid hgrow1; clear hown1 hgrow1)
          | (at_builtin; refine wpList_appI (by rfl) (.tmp 83) (.tmp 84) rfl w7.heap.size N 1 1 (.slice (some ⟨g1, 0, none⟩) N k1) (vi A) [0] rfl (HOW1.out.alloc _) ⟨w9.heap.size, 0, none⟩ rfl rfl (World.news_of_block (heap_alloc_new w9 (.cells #[.int .i64 0] 3))) (by omega) (by omega) (by have := HGR1.out.size; simp at this ⊢; omega) ?_; intro g2 k2 w10 hown2 hgrow2; have HOW2 := Lib.hid hown2; have HGR2 := Lib.hid hgrow2; clear hown2 hgrow2))
        have hb1 := (Below.refl w7.heap.size w7).alloc (Nat.le_refl _) (.cells #[] 3)
        have hb2 := hb1.grown HGR1.out (by simp) (fun k hk => by cases hk; exact Nat.le_refl _)
        have hb3 := hb2.alloc hb2.size (.cells #[.int .i64 0] 3)
        have hb4 := hb3.grown HGR2.out hb3.size (fun k hk => by cases hk; exact (HOW1.out.lt g1 rfl).1)
        have HO10 := Lib.hid (HO8.out.step hb4)
        have hnum : Nums w10 (.slice (some ⟨g2, 0, none⟩) (N + 1) k2) (A ++ [0]) := by
          refine Nums.own (base := w7.heap.size) ?_
          have := HOW2.out
          rw [List.length_append, VL.out]
          unfold vi at this ⊢
          rw [List.map_append]
          simpa using this
        have CZ := Lib.hid (CZZ.out w10 _ HO10.out hnum)
        clear hb1 hb2 hb3 hb4 hnum
        go_wp2_with fail
        refine (CZ.out).mono ?_
        rintro e w11 ⟨rfl, rfl⟩
        go_wp2_with fail
        refine (CHA.out _ HO10.out).mono ?_
        rintro e w12 ⟨rfl, hb12⟩
        have HO12 := Lib.hid (HO10.out.step hb12)
        clear hb12
        go_wp2_with fail
        refine (CLA.out _ HO12.out).mono ?_
        rintro e w13 ⟨rfl, hb13⟩
        have HO13 := Lib.hid (HO12.out.step hb13)
        clear hb13
        go_wp2_with fail
        refine (CNA.out _ HO13.out).mono ?_
        rintro e w14 ⟨rfl, hb14⟩
        have HO14 := Lib.hid (HO13.out.step hb14)
        clear hb14
        go_wp2_with fail
        refine (awake12_any _ HO14.out.tabs).mono ?_
        rintro e w15 ⟨rfl, hb15⟩
        have HO15 := Lib.hid (HO14.out.step hb15)
        clear hb15
        go_wp2_with fail
        go_ret
        exact ⟨rfl, HO15.out.below⟩
      · have d1 : decide (bc ≤ 0) = false := decide_eq_false hbc
        clear htr
        go_wp2_with (first
          | (at_builtin; refine wpList_appI (by rfl) (.tmp 81) (.tmp 82) rfl w7.heap.size 0 N ca (.slice (some ⟨w7.heap.size, 0, none⟩) 0 0) [] A rfl O1.out ⟨b0, o0, none⟩ rfl VL.out N1.out (by omega) (by omega) (by simp) ?_; intro g1 k1 w9 hown1 hgrow1; rw [Nat.zero_add, List.nil_append] at hown1; have HOW1 := Lib.hid hown1; have HGR1 := Lib.hid hgrow1; clear hown1 hgrow1)
          | (at_builtin; refine wpList_appI (by rfl) (.tmp 83) (.tmp 84) rfl w7.heap.size N 1 1 (.slice (some ⟨g1, 0, none⟩) N k1) (vi A) [0] rfl (HOW1.out.alloc _) ⟨w9.heap.size, 0, none⟩ rfl rfl (World.news_of_block (heap_alloc_new w9 (.cells #[.int .i64 0] 3))) (by omega) (by omega) (by have := HGR1.out.size; simp at this ⊢; omega) ?_; intro g2 k2 w10 hown2 hgrow2; have HOW2 := Lib.hid hown2; have HGR2 := Lib.hid hgrow2; clear hown2 hgrow2))
        have hb1 := (Below.refl w7.heap.size w7).alloc (Nat.le_refl _) (.cells #[] 3)
        have hb2 := hb1.grown HGR1.out (by simp) (fun k hk => by cases hk; exact Nat.le_refl _)
        have hb3 := hb2.alloc hb2.size (.cells #[.int .i64 0] 3)
        have hb4 := hb3.grown HGR2.out hb3.size (fun k hk => by cases hk; exact (HOW1.out.lt g1 rfl).1)
        have HO10 := Lib.hid (HO8.out.step hb4)
        have hnum : Nums w10 (.slice (some ⟨g2, 0, none⟩) (N + 1) k2) (A ++ [0]) := by
          refine Nums.own (base := w7.heap.size) ?_
          have := HOW2.out
          rw [List.length_append, VL.out]
          unfold vi at this ⊢
          rw [List.map_append]
          simpa using this
        have CZ := Lib.hid (CZZ.out w10 _ HO10.out hnum)
        clear hb1 hb2 hb3 hb4 hnum
        go_wp2_with fail
        refine (CZ.out).mono ?_
        rintro e w11 ⟨rfl, rfl⟩
        go_wp2_with fail
        refine (CHA.out _ HO10.out).mono ?_
        rintro e w12 ⟨rfl, hb12⟩
        have HO12 := Lib.hid (HO10.out.step hb12)
        clear hb12
        go_wp2_with fail
        refine (CLA.out _ HO12.out).mono ?_
        rintro e w13 ⟨rfl, hb13⟩
        have HO13 := Lib.hid (HO12.out.step hb13)
        clear hb13
        go_wp2_with fail
        refine (CNA.out _ HO13.out).mono ?_
        rintro e w14 ⟨rfl, hb14⟩
        have HO14 := Lib.hid (HO13.out.step hb14)
        clear hb14
        go_wp2_with fail
        refine (awake12_any _ HO14.out.tabs).mono ?_
        rintro e w15 ⟨rfl, hb15⟩
        have HO15 := Lib.hid (HO14.out.step hb15)
        clear hb15
        go_wp2_with fail
        go_ret
        exact ⟨rfl, HO15.out.below⟩
    · clear htr
      go_wp2_with (first
        | (at_builtin; refine wpList_appI (by rfl) (.tmp 81) (.tmp 82) rfl w7.heap.size 0 N ca (.slice (some ⟨w7.heap.size, 0, none⟩) 0 0) [] A rfl O1.out ⟨b0, o0, none⟩ rfl VL.out N1.out (by omega) (by omega) (by simp) ?_; intro g1 k1 w9 hown1 hgrow1; rw [Nat.zero_add, List.nil_append] at hown1; have HOW1 := Lib.hid hown1; have HGR1 := Lib.hid hgrow1; clear hown1 hgrow1)
        | (at_builtin; refine wpList_appI (by rfl) (.tmp 83) (.tmp 84) rfl w7.heap.size N 1 1 (.slice (some ⟨g1, 0, none⟩) N k1) (vi A) [0] rfl (HOW1.out.alloc _) ⟨w9.heap.size, 0, none⟩ rfl rfl (World.news_of_block (heap_alloc_new w9 (.cells #[.int .i64 0] 3))) (by omega) (by omega) (by have := HGR1.out.size; simp at this ⊢; omega) ?_; intro g2 k2 w10 hown2 hgrow2; have HOW2 := Lib.hid hown2; have HGR2 := Lib.hid hgrow2; clear hown2 hgrow2))
      have hb1 := (Below.refl w7.heap.size w7).alloc (Nat.le_refl _) (.cells #[] 3)
      have hb2 := hb1.grown HGR1.out (by simp) (fun k hk => by cases hk; exact Nat.le_refl _)
      have hb3 := hb2.alloc hb2.size (.cells #[.int .i64 0] 3)
      have hb4 := hb3.grown HGR2.out hb3.size (fun k hk => by cases hk; exact (HOW1.out.lt g1 rfl).1)
      have HO10 := Lib.hid (HO8.out.step hb4)
      have hnum : Nums w10 (.slice (some ⟨g2, 0, none⟩) (N + 1) k2) (A ++ [0]) := by
        refine Nums.own (base := w7.heap.size) ?_
        have := HOW2.out
        rw [List.length_append, VL.out]
        unfold vi at this ⊢
        rw [List.map_append]
        simpa using this
      have CZ := Lib.hid (CZZ.out w10 _ HO10.out hnum)
      clear hb1 hb2 hb3 hb4 hnum
      go_wp2_with fail
      refine (CZ.out).mono ?_
      rintro e w11 ⟨rfl, rfl⟩
      go_wp2_with fail
      refine (CHA.out _ HO10.out).mono ?_
      rintro e w12 ⟨rfl, hb12⟩
      have HO12 := Lib.hid (HO10.out.step hb12)
      clear hb12
      go_wp2_with fail
      refine (CLA.out _ HO12.out).mono ?_
      rintro e w13 ⟨rfl, hb13⟩
      have HO13 := Lib.hid (HO12.out.step hb13)
      clear hb13
      go_wp2_with fail
      refine (CNA.out _ HO13.out).mono ?_
      rintro e w14 ⟨rfl, hb14⟩
      have HO14 := Lib.hid (HO13.out.step hb14)
      clear hb14
      go_wp2_with fail
      refine (awake12_any _ HO14.out.tabs).mono ?_
      rintro e w15 ⟨rfl, hb15⟩
      have HO15 := Lib.hid (HO14.out.step hb15)
      clear hb15
      go_wp2_with fail
      go_ret
      exact ⟨rfl, HO15.out.below⟩
    · by_cases hbc : bc ≤ 0
      · have hac := htr (by omega) hbc
        have d1 : decide (bc ≤ 0) = true := decide_eq_true hbc
        have d2 : decide (0 < ac) = false := decide_eq_false (by omega)
        clear htr
        go_wp2_with (first
          | (at_builtin; refine wpList_appI (by rfl) (.tmp 81) (.tmp 82) rfl w7.heap.size 0 N ca (.slice (some ⟨w7.heap.size, 0, none⟩) 0 0) [] A rfl O1.out ⟨b0, o0, none⟩ rfl VL.out N1.out (by omega) (by omega) (by simp) ?_; intro g1 k1 w9 hown1 hgrow1; rw [Nat.zero_add, List.nil_append] at hown1; have HOW1 := Lib.hid hown1; have HGR1 := Lib.hid hgrow1; clear hown1 hgrow1)
          | (at_builtin; refine wpList_appI (by rfl) (.tmp 83) (.tmp 84) rfl w7.heap.size N 1 1 (.slice (some ⟨g1, 0, none⟩) N k1) (vi A) [0] rfl (HOW1.out.alloc _) ⟨w9.heap.size, 0, none⟩ rfl rfl (World.news_of_block (heap_alloc_new w9 (.cells #[.int .i64 0] 3))) (by omega) (by omega) (by have := HGR1.out.size; simp at this ⊢; omega) ?_; intro g2 k2 w10 hown2 hgrow2; have HOW2 := Lib.hid hown2; have HGR2 := Lib.hid hgrow2; clear hown2 hgrow2))
        have hb1 := (Below.refl w7.heap.size w7).alloc (Nat.le_refl _) (.cells #[] 3)
        have hb2 := hb1.grown HGR1.out (by simp) (fun k hk => by cases hk; exact Nat.le_refl _)
        have hb3 := hb2.alloc hb2.size (.cells #[.int .i64 0] 3)
        have hb4 := hb3.grown HGR2.out hb3.size (fun k hk => by cases hk; exact (HOW1.out.lt g1 rfl).1)
        have HO10 := Lib.hid (HO8.out.step hb4)
        have hnum : Nums w10 (.slice (some ⟨g2, 0, none⟩) (N + 1) k2) (A ++ [0]) := by
          refine Nums.own (base := w7.heap.size) ?_
          have := HOW2.out
          rw [List.length_append, VL.out]
          unfold vi at this ⊢
          rw [List.map_append]
          simpa using this
        have CZ := Lib.hid (CZZ.out w10 _ HO10.out hnum)
        clear hb1 hb2 hb3 hb4 hnum
        go_wp2_with fail
        refine (CZ.out).mono ?_
        rintro e w11 ⟨rfl, rfl⟩
        go_wp2_with fail
        refine (CHA.out _ HO10.out).mono ?_
        rintro e w12 ⟨rfl, hb12⟩
        have HO12 := Lib.hid (HO10.out.step hb12)
        clear hb12
        go_wp2_with fail
        refine (CLA.out _ HO12.out).mono ?_
        rintro e w13 ⟨rfl, hb13⟩
        have HO13 := Lib.hid (HO12.out.step hb13)
        clear hb13
        go_wp2_with fail
        refine (CNA.out _ HO13.out).mono ?_
        rintro e w14 ⟨rfl, hb14⟩
        have HO14 := Lib.hid (HO13.out.step hb14)
        clear hb14
        go_wp2_with fail
        refine (awake12_any _ HO14.out.tabs).mono ?_
        rintro e w15 ⟨rfl, hb15⟩
        have HO15 := Lib.hid (HO14.out.step hb15)
        clear hb15
        go_wp2_with fail
        go_ret
        exact ⟨rfl, HO15.out.below⟩
      · have d1 : decide (bc ≤ 0) = false := decide_eq_false hbc
        clear htr
        go_wp2_with (first
          | (at_builtin; refine wpList_appI (by rfl) (.tmp 81) (.tmp 82) rfl w7.heap.size 0 N ca (.slice (some ⟨w7.heap.size, 0, none⟩) 0 0) [] A rfl O1.out ⟨b0, o0, none⟩ rfl VL.out N1.out (by omega) (by omega) (by simp) ?_; intro g1 k1 w9 hown1 hgrow1; rw [Nat.zero_add, List.nil_append] at hown1; have HOW1 := Lib.hid hown1; have HGR1 := Lib.hid hgrow1; clear hown1 hgrow1)
          | (at_builtin; refine wpList_appI (by rfl) (.tmp 83) (.tmp 84) rfl w7.heap.size N 1 1 (.slice (some ⟨g1, 0, none⟩) N k1) (vi A) [0] rfl (HOW1.out.alloc _) ⟨w9.heap.size, 0, none⟩ rfl rfl (World.news_of_block (heap_alloc_new w9 (.cells #[.int .i64 0] 3))) (by omega) (by omega) (by have := HGR1.out.size; simp at this ⊢; omega) ?_; intro g2 k2 w10 hown2 hgrow2; have HOW2 := Lib.hid hown2; have HGR2 := Lib.hid hgrow2; clear hown2 hgrow2))
        have hb1 := (Below.refl w7.heap.size w7).alloc (Nat.le_refl _) (.cells #[] 3)
        have hb2 := hb1.grown HGR1.out (by simp) (fun k hk => by cases hk; exact Nat.le_refl _)
        have hb3 := hb2.alloc hb2.size (.cells #[.int .i64 0] 3)
        have hb4 := hb3.grown HGR2.out hb3.size (fun k hk => by cases hk; exact (HOW1.out.lt g1 rfl).1)
        have HO10 := Lib.hid (HO8.out.step hb4)
        have hnum : Nums w10 (.slice (some ⟨g2, 0, none⟩) (N + 1) k2) (A ++ [0]) := by
          refine Nums.own (base := w7.heap.size) ?_
          have := HOW2.out
          rw [List.length_append, VL.out]
          unfold vi at this ⊢
          rw [List.map_append]
          simpa using this
        have CZ := Lib.hid (CZZ.out w10 _ HO10.out hnum)
        clear hb1 hb2 hb3 hb4 hnum
        go_wp2_with fail
        refine (CZ.out).mono ?_
        rintro e w11 ⟨rfl, rfl⟩
        go_wp2_with fail
        refine (CHA.out _ HO10.out).mono ?_
        rintro e w12 ⟨rfl, hb12⟩
        have HO12 := Lib.hid (HO10.out.step hb12)
        clear hb12
        go_wp2_with fail
        refine (CLA.out _ HO12.out).mono ?_
        rintro e w13 ⟨rfl, hb13⟩
        have HO13 := Lib.hid (HO12.out.step hb13)
        clear hb13
        go_wp2_with fail
        refine (CNA.out _ HO13.out).mono ?_
        rintro e w14 ⟨rfl, hb14⟩
        have HO14 := Lib.hid (HO13.out.step hb14)
        clear hb14
        go_wp2_with fail
        refine (awake12_any _ HO14.out.tabs).mono ?_
        rintro e w15 ⟨rfl, hb15⟩
        have HO15 := Lib.hid (HO14.out.step hb15)
        clear hb15
        go_wp2_with fail
        go_ret
        exact ⟨rfl, HO15.out.below⟩
  · have cL := light_q a n c false w (by simpa using hn)
    have cA := awake12_any w HT.out
    have CL := Lib.hid cL; have CA := Lib.hid cA
    clear cL cA hI hn
    go_enter Tryd.func9, Tryd.ntmps9
    go_wp2_with fail
    refine (CL.out).mono ?_
    rintro e w' ⟨rfl, rfl⟩
    go_wp2_with fail
    refine (CA.out).mono ?_
    rintro e w1 ⟨rfl, hb1⟩
    go_wp2_with fail
    go_ret
    exact ⟨rfl, hb1⟩
end Go.Proofs.YtdhochjcigingaaDoor
