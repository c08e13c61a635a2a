/- packages: the document's Version, its walk. -/
import Derived.Test.YtdhochjcigingaaDoorPkY
namespace Go.Proofs.YtdhochjcigingaaDoor
open Go.RowKit
set_option linter.all false

theorem own_slice {W : World} {base : Nat} {e : TypeId} {size : Nat} {v : Value} {n : Nat} {xs : List Value} (h : W.ownsRow base e size v n xs) : ∃ a c, v = .slice a n c := by
  rcases h.2 with ⟨hv, h0⟩ | ⟨g, cap, cur, hv, _⟩
  · subst h0; exact ⟨none, 0, hv⟩
  · exact ⟨_, cap, hv⟩
theorem right_v {W : World} {v : Value} {L : List Int} (hl : L.length ≤ 500) (h : Nums W v L) : Calls Tryd.prog 75 #[v] W (BoolP (verB L) W) := by
  obtain ⟨p, c, rfl, h1⟩ := h
  exact right_any p c L W hl h1
/-- On the way: the pieces so far. -/
def XState (l : List UInt8) (i a : Nat) (P : List (List UInt8)) : Prop :=
  (i ≤ l.length ∧ a ≤ i ∧ pieces l = P ++ pieces (l.drop a) ∧ ∀ c ∈ (l.take i).drop a, c.toNat ≠ 46) ∨ (i = l.length + 1 ∧ pieces l = P)
structure YW (w : World) (P : List (List UInt8)) (v : Value) (W : World) : Prop where
  own : W.ownsRow w.heap.size 3 1 v P.length (vi (P.map numV))
  below : Below w.heap.size w W
  ok : P.all numOk = true
  few : P.length ≤ 5
theorem YW.step {w : World} {P : List (List UInt8)} {v : Value} {W W' : World} (h : YW w P v W) (hb : Below W.heap.size W W') : YW w P v W' :=
  ⟨own_below h.own hb, h.below.trans (hb.mono h.below.size), h.ok, h.few⟩
theorem YW.appended {w : World} {P : List (List UInt8)} {q : List UInt8} {v v' : Value} {W W' : World} (h : YW w P v W) (hq : numOk q = true) (hl : P.length ≤ 4) (hg : W.grownBy W' v.ownBlock) (ho : W'.ownsRow w.heap.size 3 1 v' (P.length + 1) (vi (P.map numV) ++ [.int .i64 (numV q)])) : YW w (P ++ [q]) v' W' := by
  have hs := h.below.size
  have hne : ∀ k, k < w.heap.size → some k ≠ v.ownBlock := fun k hk e => by have := (h.own.lt k e.symm).1; omega
  have hb : Below w.heap.size W W' := ⟨hg.os, hg.tape, hg.output, hg.size, fun k hk => hg.block k (by omega) (hne k hk)⟩
  refine ⟨?_, h.below.trans hb, ?_, by simp; omega⟩
  · rw [List.length_append, List.map_append]
    unfold vi at ho ⊢
    rw [List.map_append]
    exact ho
  · rw [List.all_append, h.ok, List.all_cons, hq]; rfl
def YRel (w : World) (l : List UInt8) (vv av iv : Value) (wr : World) : Prop := ∃ (i a : Nat) (P : List (List UInt8)) (v : Value), v = vv ∧ av = .int .i64 (a : Int) ∧ iv = .int .i64 (i : Int) ∧ i ≤ l.length + 1 ∧ XState l i a P ∧ YW w P v wr

theorem x_cont {l : List UInt8} {i a : Nat} {P : List (List UInt8)} (h : XState l i a P) (hi : i < l.length) (hc : (l.getD i 0).toNat ≠ 46) : XState l (i + 1) a P := by
  rcases h with ⟨h1, h2, h3, h4⟩ | ⟨h1, _⟩
  · exact .inl ⟨by omega, by omega, h3, nodot_next l a i h2 hi h4 hc⟩
  · omega
theorem x_dot {l : List UInt8} {i a : Nat} {P : List (List UInt8)} (h : XState l i a P) (hi : i < l.length) (hc : (l.getD i 0).toNat = 46) : XState l (i + 1) (i + 1) (P ++ [(l.take i).drop a]) := by
  rcases h with ⟨h1, h2, h3, h4⟩ | ⟨h1, _⟩
  · refine .inl ⟨by omega, by omega, ?_, fun c hm => ?_⟩
    · rw [h3, drop_dot l a i h2 hi hc, pieces_dot _ _ h4]; simp
    · have : ((l.take (i + 1)).drop (i + 1)) = [] := List.drop_eq_nil_of_le (by rw [List.length_take]; omega)
      rw [this] at hm; cases hm
  · omega
theorem x_end {l : List UInt8} {i a : Nat} {P : List (List UInt8)} (h : XState l i a P) (hi : i = l.length) : XState l (i + 1) (i + 1) (P ++ [(l.take i).drop a]) := by
  rcases h with ⟨h1, h2, h3, h4⟩ | ⟨h1, _⟩
  · refine .inr ⟨by omega, ?_⟩
    have : l.take i = l := List.take_of_length_le (by omega)
    rw [this] at h4 ⊢
    rw [h3, pieces_none _ h4]
  · omega
theorem x_mem {l : List UInt8} {i a : Nat} {P : List (List UInt8)} (h : XState l i a P) (hi : i ≤ l.length) (hc : i = l.length ∨ (l.getD i 0).toNat = 46) : (l.take i).drop a ∈ pieces l ∧ P.length + 1 ≤ (pieces l).length := by
  have key : ∀ Q, pieces l = P ++ [(l.take i).drop a] ++ Q → (l.take i).drop a ∈ pieces l ∧ P.length + 1 ≤ (pieces l).length := fun Q hq => by
    rw [hq]; simp
  by_cases he : i = l.length
  · rcases x_end h he with ⟨h1, _⟩ | ⟨_, h2⟩
    · omega
    · exact key [] (by rw [h2]; simp)
  · have hd := hc.resolve_left he
    rcases x_dot h (by omega) hd with ⟨_, _, h3, _⟩ | ⟨h1, _⟩
    · exact key _ h3
    · omega
theorem x_le {l : List UInt8} {i a : Nat} {P : List (List UInt8)} (h : XState l i a P) (hi : i ≤ l.length) : a ≤ i := by
  rcases h with ⟨_, h2, _⟩ | ⟨h1, _⟩
  · exact h2
  · omega

set_option maxRecDepth 100000 in
set_option maxHeartbeats 8000000 in
theorem rversion_any (l : List UInt8) (hl : l.length ≤ 1000) (w : World) : Calls Tryd.prog 48 #[.string ⟨l.toArray⟩] w (if verOk l = true then VerYes (verL l) w else VerNo w) := by
  obtain ⟨i0, hi, hz0, hz1, hz2⟩ := info_parts info3
  have HI := Lib.hid hi; have HZ0 := Lib.hid hz0; have HZ1 := Lib.hid hz1; have HZ2 := Lib.hid hz2
  clear hi hz0 hz1 hz2
  have HNO := Lib.hid (show verOk l = false → ∀ W, Below w.heap.size w W → (if verOk l = true then VerYes (verL l) w else VerNo w) (.returned (.tuple #[.slice none 0 0, .int .i64 22])) W from fun hv W hb => by
    rw [if_neg (by rw [hv]; simp)]; exact ⟨rfl, hb⟩)
  have HYES := Lib.hid (show verOk l = true → ∀ v W, W.ownsRow w.heap.size 3 1 v (verL l).length (vi (verL l)) → Below w.heap.size w W → (if verOk l = true then VerYes (verL l) w else VerNo w) (.returned (.tuple #[v, .int .i64 0])) W from fun hv v W ho hb => by
    rw [if_pos hv]; exact ⟨v, rfl, ho, hb⟩)
  generalize (if verOk l = true then VerYes (verL l) w else VerNo w) = Post at *
  have hY0 : YW w [] (.slice none 0 0) w := ⟨World.ownsRow_nil _ _ _ _, Below.refl _ _, rfl, by simp⟩
  have HY0 := Lib.hid hY0; clear hY0
  have hX0 : XState l 0 0 [] := .inl ⟨by omega, by omega, by simp, fun c hm => by simp at hm⟩
  have HX0 := Lib.hid hX0; clear hX0
  obtain ⟨N, hN⟩ : ∃ N, l.length = N := ⟨_, rfl⟩
  go_enter Tryd.func48, Tryd.ntmps48
  go_wp2_with fail
  go_loopw [4, 5, 6, 7, 8] (fun vv av iv _ _ wr => YRel w l vv av iv wr) (fun _ _ iv _ _ _ => l.length + 1 - (intOf iv).toNat)
  case atStart => exact ⟨0, 0, [], _, rfl, rfl, rfl, by omega, HX0.out, HY0.out⟩
  case round =>
    clear HX0 HY0
    obtain ⟨i, a, P, v, rfl, rfl, rfl, hi, hX, hY⟩ := hrel
    have HX := Lib.hid hX; have HY := Lib.hid hY
    clear hX hY
    by_cases hend : i ≤ l.length
    · have hd0 : decide (i ≤ l.length) = true := decide_eq_true hend
      have ha := x_le HX.out hend
      have a0 : (0 : Int) ≤ (a : Int) := by omega
      have a1 : (a : Int) ≤ (i : Int) := by omega
      have a2 : (i : Int) ≤ (l.length : Int) := by omega
      have a3 : (0 : Int) ≤ (i : Int) := by omega
      by_cases hlt : i < l.length
      · have hlti : (i : Int) < (l.length : Int) := by omega
        have hd1 : decide (i < l.length) = true := decide_eq_true hlt
        have hg := ba_get l i
        by_cases hdot : (l.getD i 0).toNat = 46
        · have HC : i = l.length ∨ (l.getD i 0).toNat = 46 := .inr hdot
          have HNX := x_dot HX.out hlt hdot
          have e1 : (((l.getD i 0).toNat : Int) == 46) = true := by rw [hdot]; rfl
          have e2 : (((l.getD i 0).toNat : Int) != 46) = false := by rw [hdot]; rfl
          have HCC := Lib.hid HC; clear hdot HC
          replace HC := HCC.out
          clear HCC
          obtain ⟨q, hq⟩ : ∃ q, (l.take i).drop a = q := ⟨_, rfl⟩
          have hx := ext_part l a i
          rw [hq] at hx
          have hql : q.length ≤ 1000 := by rw [← hq]; simp; omega
          have hmem := x_mem HX.out hend HC
          have hnxt := HNX
          rw [hq] at hmem hnxt
          have cN := fun W => refnum_any q hql W
          unfold NumP at cN
          have HNOQ := Lib.hid (show numOk q = false → verOk l = false from fun h => ver_no l q hmem.1 h)
          have HLONG := Lib.hid (show 5 ≤ P.length → verOk l = false from fun h => ver_long l (by omega))
          obtain ⟨x, hxv⟩ : ∃ x, numV q = x := ⟨_, rfl⟩
          obtain ⟨b, hbv⟩ : ∃ b, numOk q = b := ⟨_, rfl⟩
          rw [hxv, hbv] at cN
          have HNX2 := Lib.hid hnxt; have CN := Lib.hid cN; have HXV := Lib.hid hxv; have HBV := Lib.hid (show ∀ z, z = q → numOk z = b from fun z e => by rw [e, hbv])
          have HB3 := Lib.hid (show b = false → verOk l = false from fun h => HNOQ.out (by rw [hbv, h]))
          have HQQ := Lib.hid hq
          clear hq hmem hnxt cN hxv hbv HNOQ HC HNX
          generalize l.getD i 0 = cb at *
          obtain ⟨va, vc, hve⟩ := own_slice HY.out.own
          subst hve
          cases b
          · have HF := Lib.hid (HNO.out (HB3.out rfl))
            clear HB3 HLONG
            go_wp2_with fail
            refine (CN.out _).mono ?_
            rintro e w3 ⟨rfl, hb3⟩
            have HB := Lib.hid (HY.out.step hb3).below; clear hb3
            go_wp2_with fail
            exact HF.out _ HB.out
          · by_cases hlong : 5 ≤ P.length
            · have HF := Lib.hid (HNO.out (HLONG.out hlong))
              have d4 : decide ((4 : Int) < (P.length : Int)) = true := by rw [decide_eq_true_eq]; omega
              clear HB3 HLONG
              go_wp2_with fail
              refine (CN.out _).mono ?_
              rintro e w3 ⟨rfl, hb3⟩
              have HB := Lib.hid (HY.out.step hb3).below; clear hb3
              go_wp2_with fail
              exact HF.out _ HB.out
            · have d4 : decide ((4 : Int) < (P.length : Int)) = false := by rw [decide_eq_false_iff_not]; omega
              have hP4 : P.length ≤ 4 := by omega
              clear HB3 HLONG
              go_wp2_with fail
              refine (CN.out _).mono ?_
              rintro e w3 ⟨rfl, hb3⟩
              have HY3 := Lib.hid (HY.out.step hb3); clear hb3
              have HO3 := Lib.hid (HY3.out.own.alloc (.cells #[.int .i64 x] 3))
              have HB3 := Lib.hid (heap_alloc_new w3 (.cells #[.int .i64 x] 3))
              have HNW := Lib.hid (World.news_of_block (cs := #[.int .i64 x]) (t := 3) (fr := (0, 0)) HB3.out)
              have HA3 := Lib.hid (HY3.out.step ((Below.refl _ _).alloc (Nat.le_refl _) (.cells #[.int .i64 x] 3)))
              have HL1 := Lib.hid (vi_one [x])
              have hsz : w.heap.size ≤ w3.heap.size := HY3.out.below.size
              clear CN HY HNO HYES
              have tok1 : True := trivial
              go_wp2_with (at_builtin; have _t := tok1; refine wpList_append_own _ rfl _ _ 40 rfl w.heap.size 3 i0 (.int .i64 0) 1 8 (by kernel_rfl) HI.out HZ0.out HZ1.out HZ2.out rfl (by decide) _ _ _ rfl HO3.out ⟨w3.heap.size, 0, none⟩ 1 1 [.int .i64 x] rfl rfl HNW.out HL1.out (by unfold maxLen; omega) (by omega) (by simp; omega) ?_; intro v' W5 hown' hgrow _; have HOW := Lib.hid hown'; have HGR := Lib.hid hgrow; clear hown' hgrow)
              go_roundw
              case rel => exact ⟨i + 1, i + 1, P ++ [q], v', rfl, by go_num, by go_num, by omega, HNX2.out, HA3.out.appended (HBV.out q rfl) hP4 HGR.out (by rw [HXV.out]; exact HOW.out)⟩
              case measure => simp [intOf]; omega
        · have HNX := Lib.hid (x_cont HX.out hlt hdot)
          have e1 : (((l.getD i 0).toNat : Int) == 46) = false := beq_eq_false_iff_ne.2 (by omega)
          have e2 : (((l.getD i 0).toNat : Int) != 46) = true := bne_iff_ne.2 (by omega)
          generalize l.getD i 0 = c at *
          clear hdot
          go_wp2_with fail
          go_roundw
          case rel => exact ⟨i + 1, a, P, v, rfl, rfl, by go_num, by omega, HNX.out, HY.out⟩
          case measure => simp [intOf]; omega
      · have hieq : i = l.length := by omega
        have hd1 : decide (i < l.length) = false := decide_eq_false hlt
        have HC : i = l.length ∨ (l.getD i 0).toNat = 46 := .inl hieq
        have HNX := x_end HX.out hieq
        clear hieq
        obtain ⟨q, hq⟩ : ∃ q, (l.take i).drop a = q := ⟨_, rfl⟩
        have hx := ext_part l a i
        rw [hq] at hx
        have hql : q.length ≤ 1000 := by rw [← hq]; simp; omega
        have hmem := x_mem HX.out hend HC
        have hnxt := HNX
        rw [hq] at hmem hnxt
        have cN := fun W => refnum_any q hql W
        unfold NumP at cN
        have HNOQ := Lib.hid (show numOk q = false → verOk l = false from fun h => ver_no l q hmem.1 h)
        have HLONG := Lib.hid (show 5 ≤ P.length → verOk l = false from fun h => ver_long l (by omega))
        obtain ⟨x, hxv⟩ : ∃ x, numV q = x := ⟨_, rfl⟩
        obtain ⟨b, hbv⟩ : ∃ b, numOk q = b := ⟨_, rfl⟩
        rw [hxv, hbv] at cN
        have HNX2 := Lib.hid hnxt; have CN := Lib.hid cN; have HXV := Lib.hid hxv; have HBV := Lib.hid (show ∀ z, z = q → numOk z = b from fun z e => by rw [e, hbv])
        have HB3 := Lib.hid (show b = false → verOk l = false from fun h => HNOQ.out (by rw [hbv, h]))
        have HQQ := Lib.hid hq
        clear hq hmem hnxt cN hxv hbv HNOQ HC HNX
        obtain ⟨va, vc, hve⟩ := own_slice HY.out.own
        subst hve
        cases b
        · have HF := Lib.hid (HNO.out (HB3.out rfl))
          clear HB3 HLONG
          go_wp2_with fail
          refine (CN.out _).mono ?_
          rintro e w3 ⟨rfl, hb3⟩
          have HB := Lib.hid (HY.out.step hb3).below; clear hb3
          go_wp2_with fail
          exact HF.out _ HB.out
        · by_cases hlong : 5 ≤ P.length
          · have HF := Lib.hid (HNO.out (HLONG.out hlong))
            have d4 : decide ((4 : Int) < (P.length : Int)) = true := by rw [decide_eq_true_eq]; omega
            clear HB3 HLONG
            go_wp2_with fail
            refine (CN.out _).mono ?_
            rintro e w3 ⟨rfl, hb3⟩
            have HB := Lib.hid (HY.out.step hb3).below; clear hb3
            go_wp2_with fail
            exact HF.out _ HB.out
          · have d4 : decide ((4 : Int) < (P.length : Int)) = false := by rw [decide_eq_false_iff_not]; omega
            have hP4 : P.length ≤ 4 := by omega
            clear HB3 HLONG
            go_wp2_with fail
            refine (CN.out _).mono ?_
            rintro e w3 ⟨rfl, hb3⟩
            have HY3 := Lib.hid (HY.out.step hb3); clear hb3
            have HO3 := Lib.hid (HY3.out.own.alloc (.cells #[.int .i64 x] 3))
            have HB3 := Lib.hid (heap_alloc_new w3 (.cells #[.int .i64 x] 3))
            have HNW := Lib.hid (World.news_of_block (cs := #[.int .i64 x]) (t := 3) (fr := (0, 0)) HB3.out)
            have HA3 := Lib.hid (HY3.out.step ((Below.refl _ _).alloc (Nat.le_refl _) (.cells #[.int .i64 x] 3)))
            have HL1 := Lib.hid (vi_one [x])
            have hsz : w.heap.size ≤ w3.heap.size := HY3.out.below.size
            clear CN HY HNO HYES
            have tok1 : True := trivial
            go_wp2_with (at_builtin; have _t := tok1; refine wpList_append_own _ rfl _ _ 40 rfl w.heap.size 3 i0 (.int .i64 0) 1 8 (by kernel_rfl) HI.out HZ0.out HZ1.out HZ2.out rfl (by decide) _ _ _ rfl HO3.out ⟨w3.heap.size, 0, none⟩ 1 1 [.int .i64 x] rfl rfl HNW.out HL1.out (by unfold maxLen; omega) (by omega) (by simp; omega) ?_; intro v' W5 hown' hgrow _; have HOW := Lib.hid hown'; have HGR := Lib.hid hgrow; clear hown' hgrow)
            go_roundw
            case rel => exact ⟨i + 1, i + 1, P ++ [q], v', rfl, by go_num, by go_num, by omega, HNX2.out, HA3.out.appended (HBV.out q rfl) hP4 HGR.out (by rw [HXV.out]; exact HOW.out)⟩
            case measure => simp [intOf]; omega
    · have hi2 : i = l.length + 1 := by omega
      have hd0 : decide (i ≤ l.length) = false := decide_eq_false hend
      have hP : pieces l = P := by
        rcases HX.out with ⟨h1, _⟩ | ⟨_, h2⟩
        · omega
        · exact h2
      have hall : (pieces l).all numOk = true := by rw [hP]; exact HY.out.ok
      have hvr := ver_right l hall
      have hvl : verL l = P.map numV := by unfold verL; rw [hP]
      have hP5 := HY.out.few
      have cR := right_v (W := wr) (v := v) (L := P.map numV) (by rw [List.length_map]; omega) (Nums.own (base := w.heap.size) (by rw [List.length_map]; exact HY.out.own))
      rw [← hvl, hvr] at cR
      have HOWN := Lib.hid (show wr.ownsRow w.heap.size 3 1 v (verL l).length (vi (verL l)) from by rw [hvl, List.length_map]; exact HY.out.own)
      have HBW := Lib.hid HY.out.below
      have hn0 := HNO.out
      have hy0 := HYES.out
      clear HNO HYES HX HY hall hvr hvl hP
      have HN0 := Lib.hid hn0; have HY0 := Lib.hid hy0
      clear hn0 hy0
      cases hb : verOk l
      · have HF := Lib.hid (HN0.out hb)
        rw [hb] at cR
        have CR := Lib.hid cR
        clear cR hb HN0 HY0 hend hi
        subst hi2
        go_wp2_with fail
        refine (CR.out).mono ?_
        rintro e w3 ⟨rfl, hb3⟩
        have HB3 := Lib.hid (HBW.out.trans (hb3.mono HBW.out.size)); clear hb3
        go_wp2_with fail
        exact HF.out _ HB3.out
      · have HF := Lib.hid (HY0.out hb)
        rw [hb] at cR
        have CR := Lib.hid cR
        clear cR hb HN0 HY0 hend hi
        subst hi2
        go_wp2_with fail
        refine (CR.out).mono ?_
        rintro e w3 ⟨rfl, hb3⟩
        have HO3 := Lib.hid (own_below HOWN.out hb3)
        have HB3 := Lib.hid (HBW.out.trans (hb3.mono HBW.out.size)); clear hb3
        go_wp2_with fail
        exact HF.out _ _ HO3.out HB3.out
end Go.Proofs.YtdhochjcigingaaDoor
