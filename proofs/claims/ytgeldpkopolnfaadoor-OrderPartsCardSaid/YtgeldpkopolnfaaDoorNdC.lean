/- put: a requirement into an ascending row. -/
import Derived.Test.YtgeldpkopolnfaaDoorNdB
namespace Go.Proofs.YtgeldpkopolnfaaDoor
open Go.RowKit
set_option linter.all false

theorem some_of_getD {x : Option Value} {b : Bool} (h : x.getD undef = .bool b) : x = some (.bool b) := by
  cases x with
  | none => cases h
  | some v => exact congrArg some h
def atR (L : List Rq) (r : Rq) : Nat := L.findIdx fun x => !lessB x r
def putL (L : List Rq) (r : Rq) : List Rq := if atR L r < L.length ∧ L.getD (atR L r) rq0 = r then L else L.take (atR L r) ++ [r] ++ L.drop (atR L r)
def PutP (a0 : Option Addr) (L : List Rq) (w : World) (e : Ending) (w' : World) : Prop := ∃ a c, e = .returned (.slice a L.length c) ∧ L.length ≤ c ∧ ReqsAt w' a L ∧ Below w.heap.size w w' ∧ ∀ b o, a = some ⟨b, o, none⟩ → a0 = some ⟨b, o, none⟩ ∨ w.heap.size ≤ b
theorem atR_eq {L : List Rq} {r : Rq} {k : Nat} (hk : k ≤ L.length) (h1 : ∀ j, j < k → lessB (L.getD j rq0) r = true) (h2 : k < L.length → lessB (L.getD k rq0) r = false) : atR L r = k := by
  unfold atR
  rcases Nat.lt_trichotomy (L.findIdx fun x => !lessB x r) k with h | h | h
  · have hl : (L.findIdx fun x => !lessB x r) < L.length := by omega
    have := List.findIdx_getElem (w := hl)
    have h3 := h1 _ h
    rw [List.getD, List.getElem?_eq_getElem hl] at h3
    simp only [Option.getD_some] at h3
    simp [h3] at this
  · exact h
  · have hl : k < L.length := Nat.lt_of_lt_of_le h List.findIdx_le_length
    have := List.not_of_lt_findIdx h
    have h3 := h2 hl
    rw [List.getD, List.getElem?_eq_getElem hl] at h3
    simp only [Option.getD_some] at h3
    simp [h3] at this
theorem ReqsAt.below' {W V : World} {n : Nat} {p : Option Addr} {L : List Rq} (h : ReqsAt W p L) (hV : Below n W V) (_ : n ≤ W.heap.size) (hlt : ∀ b o, p = some ⟨b, o, none⟩ → L ≠ [] → b < n) : ReqsAt V p L := fun j hj => by
  obtain ⟨b, o, e, h1, h2⟩ := h j hj
  have hb := hlt b o e (fun e => by rw [e] at hj; simp at hj)
  exact ⟨b, o, e, (hV.cell (p := ⟨b, _, none⟩) hb).trans h1, (hV.cell (p := ⟨b, _, none⟩) hb).trans h2⟩

theorem src_take {V : World} {a : Option Addr} {L : List Rq} {k : Nat} (h : ReqsAt V a L) (hne : L.take k ≠ []) : ∃ ad, a = some ad ∧ ∀ (j : Nat) (u : Value), (flatR (L.take k))[j]? = some u → V.cell? (ad.add j) = some u := by
  have hL : L ≠ [] := fun e => hne (by rw [e, List.take_nil])
  obtain ⟨b, o, e, _⟩ := h 0 (List.length_pos_iff.2 hL)
  subst e
  refine ⟨_, rfl, fun j u hu => ?_⟩
  have := reqs_cells h 0 (min k L.length) (by omega) j u (by rw [List.drop_zero]; rw [List.take_eq_take_min] at hu; exact hu)
  simpa using this
theorem src_drop {V : World} {b o : Nat} {L : List Rq} {k : Nat} (h : ReqsAt V (some ⟨b, o, none⟩) L) (hk : k ≤ L.length) : ∀ (j : Nat) (u : Value), (flatR (L.drop k))[j]? = some u → V.cell? ((⟨b, o + k * 2, none⟩ : Addr).add j) = some u := by
  intro j u hu
  refine reqs_cells h k (L.length - k) (by omega) j u ?_
  rw [List.take_of_length_le (by rw [List.length_drop]; omega)]; exact hu

def G2 (b o N c B k : Nat) (x1 x2 r1 r2 : Int) (q : Bool) (_ : Array Bool) (i : Nat) (v : Value) (_ : World) : Prop := match i with
  | 0 => v = .int .i64 (k : Int)
  | 1 => v = .slice (some ⟨b, o, none⟩) N c
  | 2 => v = .int .i64 (N : Int)
  | 3 => v = .bool true
  | 4 => v = .bool true
  | 5 => v = .slice (some ⟨b, o, none⟩) N c
  | 6 => v = .int .i64 (k : Int)
  | 7 => v = .pointer (some ⟨b, o + k * 2, none⟩)
  | 8 => v = .agg #[.int .i64 x1, .int .i64 x2]
  | 9 => v = .agg #[.int .i64 r1, .int .i64 r2]
  | 10 => v = .bool q
  | 11 => v = .bool q
  | _ => True

set_option maxRecDepth 100000 in
set_option maxHeartbeats 4000000 in
theorem put_any (a : Option Addr) (c : Nat) (L : List Rq) (r1 r2 : Int) (w : World) (hl : L.length ≤ 1000) (hc : L.length ≤ c) (hL : ReqsAt w a L) :
    Calls Tryd.prog 38 #[.slice a L.length c, .agg #[.int .i64 r1, .int .i64 r2]] w (PutP a (putL L (r1, r2)) w) := by
  obtain ⟨B, hB⟩ : ∃ B, w.heap.size = B := ⟨_, rfl⟩
  have hb0 := (Below.refl w.heap.size w).alloc (Nat.le_refl _) (.cells #[.int .i64 r1, .int .i64 r2] 47)
  have hsz : (w.alloc (.cells #[.int .i64 r1, .int .i64 r2] 47)).heap.size = B + 1 := by simp [hB]
  have hh := heap_alloc_new w (.cells #[.int .i64 r1, .int .i64 r2] 47)
  rw [hB] at hh
  have HB0 := Lib.hid hb0; have HSZ := Lib.hid hsz; have HH0 := Lib.hid hh; have HL := Lib.hid (hL.step hb0); have HBB := Lib.hid hB
  have HBLT := Lib.hid (show ∀ b o, a = some ⟨b, o, none⟩ → L ≠ [] → b < B + 1 from fun b o e hne => by
    obtain ⟨b', o', e', h1, _⟩ := hL 0 (List.length_pos_iff.2 hne)
    rw [e] at e'
    injection e' with e'; injection e' with e1 e2
    have h3 : b' < w.heap.size := block_lt_of_cell h1
    omega)
  obtain ⟨N, hN⟩ : ∃ N, L.length = N := ⟨_, rfl⟩
  have HN := Lib.hid hN
  rw [hN] at hl hc ⊢
  clear hb0 hsz hh hL hN
  go_enter Tryd.func38, Tryd.ntmps38
  go_wp2_with fail
  generalize w.alloc (.cells #[.int .i64 r1, .int .i64 r2] 47) = W0 at *
  have HFB := HB0
  have HV := Lib.hid (fun (V : World) (hV : Below (B + 1) W0 V) => ReqsAt.below' HL.out hV (by rw [HSZ.out]; exact Nat.le_refl _) HBLT.out)
  clear hB
  go_loopw [5] (fun kv wr => ∃ k : Nat, kv = .int .i64 (k : Int) ∧ k ≤ N ∧ (∀ j, j < k → lessB (L.getD j rq0) (r1, r2) = true) ∧ Below (B + 1) W0 wr) (fun kv _ => N - (intOf kv).toNat)
  case atStart => exact ⟨0, rfl, Nat.zero_le _, fun j hj => absurd hj (by omega), Below.refl _ _⟩
  case round =>
    obtain ⟨k, rfl, hk, hj, hb⟩ := hrel
    have HJ := Lib.hid hj; have HBE := Lib.hid hb
    clear hj hb
    by_cases hlt : k < N
    · obtain ⟨b, o, hp, c0, c1⟩ := HL.out k (by rw [HN.out]; exact hlt)
      subst hp
      have hbB : b < B + 1 := HBLT.out b o rfl (fun e => by have := HN.out; rw [e] at this; simp at this; omega)
      have c0 := (HBE.out.cell (p := ⟨b, _, none⟩) hbB).trans c0
      have c1 := (HBE.out.cell (p := ⟨b, _, none⟩) hbB).trans c1
      have hi0 : (0 : Int) ≤ (k : Int) := by omega
      have hi2 : (k : Int) < (N : Int) := by omega
      have hdd : decide (k < N) = true := decide_eq_true hlt
      obtain ⟨x, hx⟩ : ∃ x, L.getD k rq0 = x := ⟨_, rfl⟩
      rw [hx] at c0 c1
      obtain ⟨x1, x2⟩ := x
      dsimp only at c0 c1
      obtain ⟨q, hq⟩ : ∃ q, lessB (x1, x2) (r1, r2) = q := ⟨_, rfl⟩
      have hr := (HBE.out.block B (by omega)).trans HH0.out
      have hr0 := cell_of_row _ B 0 _ _ _ hr
      have hr1 := cell_of_row _ B 1 _ _ _ hr
      simp at hr0 hr1
      have HC0 := Lib.hid c0; have HC1 := Lib.hid c1; have HR0 := Lib.hid hr0; have HR1 := Lib.hid hr1; have HQ := Lib.hid hq; have HX := Lib.hid hx
      clear c0 c1 hr hr0 hr1 hq hx
      go_upto_region 2 with fail
      refine region_facts (by kernel_rfl) (G2 b o N c B k x1 x2 r1 r2 q) (fun _ W => Below wr.heap.size wr W) (by kernel_rfl) (by kernel_rfl) ?h0 ?hstep ?hend
      case h0 => exact below_drewN (Below.refl _ _) 1
      case hstep =>
        intro i oo l a W ho hat K hK
        have hi : i < 12 := (Array.getElem?_eq_some_iff.1 ho).1
        obtain rfl | rfl | rfl | rfl | rfl | rfl | rfl | rfl | rfl | rfl | rfl | rfl : i = 0 ∨ i = 1 ∨ i = 2 ∨ i = 3 ∨ i = 4 ∨ i = 5 ∨ i = 6 ∨ i = 7 ∨ i = 8 ∨ i = 9 ∨ i = 10 ∨ i = 11 := by omega
        all_goals
          have ho := Option.some.inj (show some _ = some oo from ho)
          subst ho
        · have e0 : a.tmps[5]?.getD undef = .int .i64 (k : Int) := hat.out 5 (by kernel_rfl)
          have HF := Lib.hid (hK (.int .i64 (k : Int)) W rfl (fun _ _ _ h => h) hat.base)
          clear hat hK
          go_simp
          exact HF.out
        · have e0 : a.tmps[0]?.getD undef = .slice (some ⟨b, o, none⟩) N c := hat.out 0 (by kernel_rfl)
          have HF := Lib.hid (hK (.slice (some ⟨b, o, none⟩) N c) W rfl (fun _ _ _ h => h) hat.base)
          clear hat hK
          go_simp
          exact HF.out
        · have e0 : a.tmps[8]?.getD undef = .slice (some ⟨b, o, none⟩) N c := hat.have_ 1 8 (by kernel_rfl) (hat.dep 1 (by kernel_rfl))
          have HF := Lib.hid (hK (.int .i64 (N : Int)) W rfl (fun _ _ _ h => h) hat.base)
          clear hat hK
          go_simp
          exact HF.out
        · have e0 : a.tmps[7]?.getD undef = .int .i64 (k : Int) := hat.have_ 0 7 (by kernel_rfl) (hat.dep 0 (by kernel_rfl))
          have e1 : a.tmps[9]?.getD undef = .int .i64 (N : Int) := hat.have_ 2 9 (by kernel_rfl) (hat.dep 2 (by kernel_rfl))
          have HF := Lib.hid (hK (.bool true) W rfl (fun _ _ _ h => h) hat.base)
          clear hat hK
          go_simp
          exact HF.out
        · have e0 : a.tmps[10]?.getD undef = .bool true := hat.have_ 3 10 (by kernel_rfl) (hat.dep 3 (by kernel_rfl))
          have HF := Lib.hid (hK (.bool true) W rfl (fun _ _ _ h => h) hat.base)
          clear hat hK
          go_simp
          exact HF.out
        · have hgd : a.tmps[11]? = some (.bool true) := some_of_getD (hat.have_ 4 11 (by kernel_rfl) (hat.dep 4 (by kernel_rfl)))
          have e0 : a.tmps[0]?.getD undef = .slice (some ⟨b, o, none⟩) N c := hat.out 0 (by kernel_rfl)
          have HF := Lib.hid (hK (.slice (some ⟨b, o, none⟩) N c) W rfl (fun _ _ _ h => h) hat.base)
          clear hat hK
          go_simp
          exact HF.out
        · have hgd : a.tmps[11]? = some (.bool true) := some_of_getD (hat.have_ 4 11 (by kernel_rfl) (hat.dep 4 (by kernel_rfl)))
          have e0 : a.tmps[5]?.getD undef = .int .i64 (k : Int) := hat.out 5 (by kernel_rfl)
          have HF := Lib.hid (hK (.int .i64 (k : Int)) W rfl (fun _ _ _ h => h) hat.base)
          clear hat hK
          go_simp
          exact HF.out
        · have hgd : a.tmps[11]? = some (.bool true) := some_of_getD (hat.have_ 4 11 (by kernel_rfl) (hat.dep 4 (by kernel_rfl)))
          have e0 : a.tmps[12]?.getD undef = .slice (some ⟨b, o, none⟩) N c := hat.have_ 5 12 (by kernel_rfl) (hat.dep 5 (by kernel_rfl))
          have e1 : a.tmps[13]?.getD undef = .int .i64 (k : Int) := hat.have_ 6 13 (by kernel_rfl) (hat.dep 6 (by kernel_rfl))
          have HF := Lib.hid (hK (.pointer (some ⟨b, o + k * 2, none⟩)) W rfl (fun _ _ _ h => h) hat.base)
          clear hat hK
          go_simp
          exact HF.out
        · have hgd : a.tmps[11]? = some (.bool true) := some_of_getD (hat.have_ 4 11 (by kernel_rfl) (hat.dep 4 (by kernel_rfl)))
          have e0 : a.tmps[14]?.getD undef = .pointer (some ⟨b, o + k * 2, none⟩) := hat.have_ 7 14 (by kernel_rfl) (hat.dep 7 (by kernel_rfl))
          have d0 := cell_later' hat.base HC0.out
          have d1 := cell_later' hat.base HC1.out
          have HF := Lib.hid (hK (.agg #[.int .i64 x1, .int .i64 x2]) W rfl (fun _ _ _ h => h) hat.base)
          clear hat hK
          go_simp
          exact HF.out
        · have hgd : a.tmps[11]? = some (.bool true) := some_of_getD (hat.have_ 4 11 (by kernel_rfl) (hat.dep 4 (by kernel_rfl)))
          have e0 : a.tmps[3]?.getD undef = .pointer (some ⟨B, 0, none⟩) := hat.out 3 (by kernel_rfl)
          have d0 := cell_later' hat.base HR0.out
          have d1 := cell_later' hat.base HR1.out
          have HF := Lib.hid (hK (.agg #[.int .i64 r1, .int .i64 r2]) W rfl (fun _ _ _ h => h) hat.base)
          clear hat hK
          go_simp
          exact HF.out
        · have hgd : a.tmps[11]? = some (.bool true) := some_of_getD (hat.have_ 4 11 (by kernel_rfl) (hat.dep 4 (by kernel_rfl)))
          have e0 : a.tmps[15]?.getD undef = .agg #[.int .i64 x1, .int .i64 x2] := hat.have_ 8 15 (by kernel_rfl) (hat.dep 8 (by kernel_rfl))
          have e1 : a.tmps[16]?.getD undef = .agg #[.int .i64 r1, .int .i64 r2] := hat.have_ 9 16 (by kernel_rfl) (hat.dep 9 (by kernel_rfl))
          have CL := Lib.hid (less_any (x1, x2) (r1, r2) W)
          have HH := Lib.hid (And.intro hat hK)
          clear hat hK
          go_simp
          refine (CL.out).mono ?_
          rintro e w' ⟨rfl, hbx⟩
          obtain ⟨hat, hK⟩ := HH.out
          rw [HQ.out]
          exact hK _ _ rfl (fun _ _ _ h => h) (hat.base.trans (hbx.mono hat.base.size))
        · have e0 : a.tmps[11]?.getD undef = .bool true := hat.have_ 4 11 (by kernel_rfl) (hat.dep 4 (by kernel_rfl))
          have e1 : a.tmps[17]?.getD undef = .bool q := hat.have_ 10 17 (by kernel_rfl) (hat.dep 10 (by kernel_rfl))
          have HF := Lib.hid (hK (.bool q) W rfl (fun _ _ _ h => h) hat.base)
          clear hat hK
          go_simp
          exact HF.out
      case hend =>
        intro l u wc hall hG hB
        have e11 : u 11 = .bool q := hG 11 18 (by kernel_rfl)
        have HBC := Lib.hid (HBE.out.trans (hB.mono (by have := HBE.out.size; have := HSZ.out; omega)))
        have c0 := cell_later' hB HC0.out
        have c1 := cell_later' hB HC1.out
        have q0 := cell_later' hB HR0.out
        have q1 := cell_later' hB HR1.out
        clear hG hB hall
        simp only [putAll, Act.put, List.setIfInBounds_toArray, List.set_cons_zero, List.set_cons_succ, Nat.zero_add, Nat.reduceAdd]
        rw [e11]
        clear e11
        cases q with
        | true =>
          clear c0 c1 q0 q1
          go_wp2_with fail
          go_roundw
          case rel => exact ⟨k + 1, by go_num, by omega, (fun j hj => by
            rcases Nat.lt_succ_iff_lt_or_eq.1 hj with h | h
            · exact HJ.out j h
            · rw [h, HX.out]; exact HQ.out), HBC.out⟩
          case measure => simp [intOf]; omega
        | false =>
          have hat : atR L (r1, r2) = k := atR_eq (by have := HN.out; omega) HJ.out (fun _ => by rw [HX.out]; exact HQ.out)
          have HAT := Lib.hid hat
          have hkc : (k : Int) ≤ (c : Int) := by omega
          have hkn : (k : Int) ≤ (N : Int) := by omega
          have hNc : (N : Int) ≤ (c : Int) := by omega
          clear hat
          go_upto_region 4 with fail
          by_cases hxr : x1 = r1 ∧ x2 = r2
          · obtain ⟨rfl, rfl⟩ := hxr
            go_quiet (fail)
            go_wp2_with fail
            go_ret
            have hput : putL L (x1, x2) = L := by
              unfold putL
              rw [HAT.out, if_pos ⟨by rw [HN.out]; exact hlt, HX.out⟩]
            refine ⟨some ⟨b, o, none⟩, c, by rw [hput, HN.out]; rfl, by rw [hput, HN.out]; exact hc, ?_, ?_, fun b' o' e => .inl e⟩
            · rw [hput]
              exact HV.out _ (below_drewN HBC.out _)
            · exact HFB.out.trans ((below_drewN HBC.out _).mono (by have := HBB.out; omega))
          · have hneq : ¬ (k < L.length ∧ L.getD k rq0 = (r1, r2)) := fun e => hxr (by rw [HX.out] at e; have := e.2; injection this with h1 h2; exact ⟨h1, h2⟩)
            have HNEQ := Lib.hid hneq; clear hneq
            have key : (r1 = x1 ∧ (x2 == r2) = false) ∨ (x1 == r1) = false := by
              by_cases h1 : x1 = r1
              · exact .inl ⟨h1.symm, by rw [beq_eq_false_iff_ne]; exact fun e => hxr ⟨h1, e⟩⟩
              · exact .inr (by rw [beq_eq_false_iff_ne]; exact h1)
            clear hxr
            rcases key with ⟨h1, hq2⟩ | hq2
            · subst h1
              go_quiet (fail)
              have HBD := Lib.hid (below_drewN HBC.out nq)
              generalize wc.drewN nq = wd at *
              clear c0 c1 q0 q1
              have hMl : (L.take k).length = k := by have := HN.out; rw [List.length_take]; omega
              have hDl : (L.drop k).length = N - k := by have := HN.out; rw [List.length_drop]; omega
              have tok1 : True := trivial
              have HS1 := Lib.hid (HV.out wd HBD.out)
              have hbs : B + 1 ≤ wd.heap.size := by have := HBD.out.size; have := HSZ.out; omega
              have hwr := (HBD.out.block B (by omega)).trans HH0.out
              have HWR := Lib.hid hwr; clear hwr
              go_wp2_with (first | (at_builtin; have _t := tok1; refine wpList_apprq rfl (.const (.slice none 0 0)) (.tmp 36) (.inr rfl) ⟨_, rfl⟩ rfl rfl (B + 1) (.slice none 0 0) 0 [] (L.take k) rfl (World.ownsRow_nil _ _ _ _) (some ⟨b, o, none⟩) c (by rw [hMl]; rfl) (fun hne => src_take HS1.out hne) (by rw [hMl]; omega) hbs ?_; intro v1 w1 ho1 hg1 hb1; have HO1 := Lib.hid ho1; have HB1 := Lib.hid (HBD.out.trans hb1); have hbr := (hb1.block B (by omega)).trans HWR.out; have hbx0 := cell_of_row _ B 0 _ _ _ hbr; have hbx1 := cell_of_row _ B 1 _ _ _ hbr; simp at hbx0 hbx1; have tok2 : True := trivial; have hs1 : B + 1 ≤ w1.heap.size := Nat.le_trans hbs hb1.size; clear ho1 hg1 hb1 tok1 hbr) | (at_builtin; have _t := tok2; refine wpList_apprq rfl (.tmp 38) (.tmp 40) (.inl ⟨_, rfl⟩) ⟨_, rfl⟩ rfl rfl (B + 1) v1 (0 + (L.take k).length) ([] ++ L.take k) [(r1, r2)] rfl (HO1.out.alloc _) (some ⟨w1.heap.size, 0, none⟩) 1 rfl (fun _ => ⟨_, rfl, World.news_of_block (cs := #[.int .i64 r1, .int .i64 r2]) (heap_alloc_new w1 _)⟩) (by rw [hMl]; simp; omega) (by simp; omega) ?_; intro v2 w2 ho2 hg2 hb2; have HO2 := Lib.hid ho2; have HB2 := Lib.hid ((HB1.out.alloc hs1 _).trans hb2); have tok3 : True := trivial; have hs2 : B + 1 ≤ w2.heap.size := (by have := hb2.size; simp at this; omega); clear ho2 hg2 hb2 tok2) | (at_builtin; have _t := tok3; refine wpList_apprq rfl (.tmp 42) (.tmp 45) (.inl ⟨_, rfl⟩) ⟨_, rfl⟩ rfl rfl (B + 1) v2 (0 + (L.take k).length + [(r1, r2)].length) (([] ++ L.take k) ++ [(r1, r2)]) (L.drop k) rfl HO2.out (some ⟨b, o + k * 2, none⟩) (c - k) (by rw [hDl]; rfl) (fun hne => ⟨_, rfl, src_drop (HV.out w2 HB2.out) (by have := HN.out; omega)⟩) (by rw [hMl, hDl]; simp; omega) hs2 ?_; intro v3 w3 ho3 hg3 hb3; have HO3 := Lib.hid ho3; have HB3 := Lib.hid (HB2.out.trans hb3); clear ho3 hg3 hb3 tok3))
              go_ret
              have hput : putL L (r1, r2) = [] ++ L.take k ++ [(r1, r2)] ++ L.drop k := by
                unfold putL
                rw [HAT.out, if_neg HNEQ.out]; rfl
              rw [← hput] at HO3
              obtain ⟨af, cf, ef, hcf, hRf, hbf⟩ := reqs_of_own HO3.out (by rw [hput]; simp; omega)
              have hll : 0 + (L.take k).length + [(r1, r2)].length + (L.drop k).length = (putL L (r1, r2)).length := by rw [hput]; simp; omega
              rw [hll] at ef hcf
              exact ⟨af, cf, by rw [← ef]; rfl, hcf, hRf, HFB.out.trans (HB3.out.mono (by have := HBB.out; omega)), fun b' o' e => .inr (by have := hbf b' o' e; have := HBB.out; omega)⟩
            · go_quiet (fail)
              have HBD := Lib.hid (below_drewN HBC.out nq)
              generalize wc.drewN nq = wd at *
              clear c0 c1 q0 q1
              have hMl : (L.take k).length = k := by have := HN.out; rw [List.length_take]; omega
              have hDl : (L.drop k).length = N - k := by have := HN.out; rw [List.length_drop]; omega
              have tok1 : True := trivial
              have HS1 := Lib.hid (HV.out wd HBD.out)
              have hbs : B + 1 ≤ wd.heap.size := by have := HBD.out.size; have := HSZ.out; omega
              have hwr := (HBD.out.block B (by omega)).trans HH0.out
              have HWR := Lib.hid hwr; clear hwr
              go_wp2_with (first | (at_builtin; have _t := tok1; refine wpList_apprq rfl (.const (.slice none 0 0)) (.tmp 36) (.inr rfl) ⟨_, rfl⟩ rfl rfl (B + 1) (.slice none 0 0) 0 [] (L.take k) rfl (World.ownsRow_nil _ _ _ _) (some ⟨b, o, none⟩) c (by rw [hMl]; rfl) (fun hne => src_take HS1.out hne) (by rw [hMl]; omega) hbs ?_; intro v1 w1 ho1 hg1 hb1; have HO1 := Lib.hid ho1; have HB1 := Lib.hid (HBD.out.trans hb1); have hbr := (hb1.block B (by omega)).trans HWR.out; have hbx0 := cell_of_row _ B 0 _ _ _ hbr; have hbx1 := cell_of_row _ B 1 _ _ _ hbr; simp at hbx0 hbx1; have tok2 : True := trivial; have hs1 : B + 1 ≤ w1.heap.size := Nat.le_trans hbs hb1.size; clear ho1 hg1 hb1 tok1 hbr) | (at_builtin; have _t := tok2; refine wpList_apprq rfl (.tmp 38) (.tmp 40) (.inl ⟨_, rfl⟩) ⟨_, rfl⟩ rfl rfl (B + 1) v1 (0 + (L.take k).length) ([] ++ L.take k) [(r1, r2)] rfl (HO1.out.alloc _) (some ⟨w1.heap.size, 0, none⟩) 1 rfl (fun _ => ⟨_, rfl, World.news_of_block (cs := #[.int .i64 r1, .int .i64 r2]) (heap_alloc_new w1 _)⟩) (by rw [hMl]; simp; omega) (by simp; omega) ?_; intro v2 w2 ho2 hg2 hb2; have HO2 := Lib.hid ho2; have HB2 := Lib.hid ((HB1.out.alloc hs1 _).trans hb2); have tok3 : True := trivial; have hs2 : B + 1 ≤ w2.heap.size := (by have := hb2.size; simp at this; omega); clear ho2 hg2 hb2 tok2) | (at_builtin; have _t := tok3; refine wpList_apprq rfl (.tmp 42) (.tmp 45) (.inl ⟨_, rfl⟩) ⟨_, rfl⟩ rfl rfl (B + 1) v2 (0 + (L.take k).length + [(r1, r2)].length) (([] ++ L.take k) ++ [(r1, r2)]) (L.drop k) rfl HO2.out (some ⟨b, o + k * 2, none⟩) (c - k) (by rw [hDl]; rfl) (fun hne => ⟨_, rfl, src_drop (HV.out w2 HB2.out) (by have := HN.out; omega)⟩) (by rw [hMl, hDl]; simp; omega) hs2 ?_; intro v3 w3 ho3 hg3 hb3; have HO3 := Lib.hid ho3; have HB3 := Lib.hid (HB2.out.trans hb3); clear ho3 hg3 hb3 tok3))
              go_ret
              have hput : putL L (r1, r2) = [] ++ L.take k ++ [(r1, r2)] ++ L.drop k := by
                unfold putL
                rw [HAT.out, if_neg HNEQ.out]; rfl
              rw [← hput] at HO3
              obtain ⟨af, cf, ef, hcf, hRf, hbf⟩ := reqs_of_own HO3.out (by rw [hput]; simp; omega)
              have hll : 0 + (L.take k).length + [(r1, r2)].length + (L.drop k).length = (putL L (r1, r2)).length := by rw [hput]; simp; omega
              rw [hll] at ef hcf
              exact ⟨af, cf, by rw [← ef]; rfl, hcf, hRf, HFB.out.trans (HB3.out.mono (by have := HBB.out; omega)), fun b' o' e => .inr (by have := hbf b' o' e; have := HBB.out; omega)⟩
    · have hkN : k = N := by omega
      subst hkN
      have hdd : decide (k < k) = false := by simp
      have hni : ¬ (k : Int) < (k : Int) := by omega
      have hat : atR L (r1, r2) = k := atR_eq (by have := HN.out; omega) HJ.out (fun h => by have := HN.out; omega)
      have HAT := Lib.hid hat
      have hneq : ¬ (k < L.length ∧ L.getD k rq0 = (r1, r2)) := fun e => by have := HN.out; omega
      have HNEQ := Lib.hid hneq
      have hkc : (k : Int) ≤ (c : Int) := by omega
      have hk00 : (0 : Int) ≤ (k : Int) := by omega
      clear hat hneq
      go_upto_region 2 with fail
      go_quiet (fail)
      have HBC := Lib.hid (below_drewN HBE.out nq)
      generalize wr.drewN nq = wc at *
      go_upto_region 4 with fail
      go_quiet (fail)
      have HBD := Lib.hid (below_drewN HBC.out nq)
      generalize wc.drewN nq = wd at *
      cases a with
      | none =>
        have hL0 : L = [] := by
          cases L with
          | nil => rfl
          | cons x L' =>
            obtain ⟨b, o, e, _⟩ := HL.out 0 (by simp)
            cases e
        subst hL0
        have hk0 : k = 0 := by have := HN.out; simp at this; omega
        subst hk0
        have hMl : (List.take 0 ([] : List Rq)).length = 0 := by have := HN.out; rw [List.length_take]; omega
        have hDl : (List.drop 0 ([] : List Rq)).length = 0 := by have := HN.out; rw [List.length_drop]; omega
        have tok1 : True := trivial
        have HS1 := Lib.hid (HV.out wd HBD.out)
        have hbs : B + 1 ≤ wd.heap.size := by have := HBD.out.size; have := HSZ.out; omega
        have hwr := (HBD.out.block B (by omega)).trans HH0.out
        have HWR := Lib.hid hwr; clear hwr
        have HO1 : Hid (wd.ownsRow (B + 1) 47 2 (.slice none 0 0) (0 + (List.take 0 ([] : List Rq)).length) (flatR ([] ++ List.take 0 ([] : List Rq)))) := Lib.hid (World.ownsRow_nil _ _ _ _)
        have HB1 := HBD
        have hbx0 := cell_of_row _ B 0 _ _ _ HWR.out
        have hbx1 := cell_of_row _ B 1 _ _ _ HWR.out
        simp at hbx0 hbx1
        have tok2 : True := trivial
        have hs1 := hbs
        go_upto_region 7 with fail
        go_wp2_with (first | (at_builtin; have _t := tok2; refine wpList_apprq rfl (.tmp 38) (.tmp 40) (.inl ⟨_, rfl⟩) ⟨_, rfl⟩ rfl rfl (B + 1) (.slice none 0 0) (0 + (List.take 0 ([] : List Rq)).length) ([] ++ List.take 0 ([] : List Rq)) [(r1, r2)] rfl (HO1.out.alloc _) (some ⟨wd.heap.size, 0, none⟩) 1 rfl (fun _ => ⟨_, rfl, World.news_of_block (cs := #[.int .i64 r1, .int .i64 r2]) (heap_alloc_new wd _)⟩) (by rw [hMl]; simp) (by simp; omega) ?_; intro v2 w2 ho2 hg2 hb2; have HO2 := Lib.hid ho2; have HB2 := Lib.hid ((HB1.out.alloc hs1 _).trans hb2); have tok3 : True := trivial; have hs2 : B + 1 ≤ w2.heap.size := (by have := hb2.size; simp at this; omega); clear ho2 hg2 hb2 tok2) | (at_builtin; have _t := tok3; refine wpList_apprq rfl (.tmp 42) (.tmp 45) (.inl ⟨_, rfl⟩) ⟨_, rfl⟩ rfl rfl (B + 1) v2 (0 + (List.take 0 ([] : List Rq)).length + [(r1, r2)].length) (([] ++ List.take 0 ([] : List Rq)) ++ [(r1, r2)]) (List.drop 0 ([] : List Rq)) rfl HO2.out _ _ (by rw [hDl]; rfl) (fun hne => absurd rfl hne) (by rw [hMl, hDl]; simp) hs2 ?_; intro v3 w3 ho3 hg3 hb3; have HO3 := Lib.hid ho3; have HB3 := Lib.hid (HB2.out.trans hb3); clear ho3 hg3 hb3 tok3))
        go_ret
        have hput : putL [] (r1, r2) = [] ++ List.take 0 ([] : List Rq) ++ [(r1, r2)] ++ List.drop 0 ([] : List Rq) := by
          unfold putL
          rw [HAT.out, if_neg HNEQ.out]; rfl
        rw [← hput] at HO3
        obtain ⟨af, cf, ef, hcf, hRf, hbf⟩ := reqs_of_own HO3.out (by rw [hput]; simp)
        have hll : 0 + (List.take 0 ([] : List Rq)).length + [(r1, r2)].length + (List.drop 0 ([] : List Rq)).length = (putL [] (r1, r2)).length := by rw [hput]; simp
        rw [hll] at ef hcf
        exact ⟨af, cf, by rw [← ef]; rfl, hcf, hRf, HFB.out.trans (HB3.out.mono (by have := HBB.out; omega)), fun b' o' e => .inr (by have := hbf b' o' e; have := HBB.out; omega)⟩
      | some ad =>
        have hMl : (L.take k).length = k := by have := HN.out; rw [List.length_take]; omega
        have hDl : (L.drop k).length = 0 := by have := HN.out; rw [List.length_drop]; omega
        have tok1 : True := trivial
        have HS1 := Lib.hid (HV.out wd HBD.out)
        have hbs : B + 1 ≤ wd.heap.size := by have := HBD.out.size; have := HSZ.out; omega
        have hwr := (HBD.out.block B (by omega)).trans HH0.out
        have HWR := Lib.hid hwr; clear hwr
        go_wp2_with (first | (at_builtin; have _t := tok1; refine wpList_apprq rfl (.const (.slice none 0 0)) (.tmp 36) (.inr rfl) ⟨_, rfl⟩ rfl rfl (B + 1) (.slice none 0 0) 0 [] (L.take k) rfl (World.ownsRow_nil _ _ _ _) (some ad) c (by rw [hMl]; rfl) (fun hne => src_take HS1.out hne) (by rw [hMl]; omega) hbs ?_; intro v1 w1 ho1 hg1 hb1; have HO1 := Lib.hid ho1; have HB1 := Lib.hid (HBD.out.trans hb1); have hbr := (hb1.block B (by omega)).trans HWR.out; have hbx0 := cell_of_row _ B 0 _ _ _ hbr; have hbx1 := cell_of_row _ B 1 _ _ _ hbr; simp at hbx0 hbx1; have tok2 : True := trivial; have hs1 : B + 1 ≤ w1.heap.size := Nat.le_trans hbs hb1.size; clear ho1 hg1 hb1 tok1 hbr) | (at_builtin; have _t := tok2; refine wpList_apprq rfl (.tmp 38) (.tmp 40) (.inl ⟨_, rfl⟩) ⟨_, rfl⟩ rfl rfl (B + 1) v1 (0 + (L.take k).length) ([] ++ L.take k) [(r1, r2)] rfl (HO1.out.alloc _) (some ⟨w1.heap.size, 0, none⟩) 1 rfl (fun _ => ⟨_, rfl, World.news_of_block (cs := #[.int .i64 r1, .int .i64 r2]) (heap_alloc_new w1 _)⟩) (by rw [hMl]; simp; omega) (by simp; omega) ?_; intro v2 w2 ho2 hg2 hb2; have HO2 := Lib.hid ho2; have HB2 := Lib.hid ((HB1.out.alloc hs1 _).trans hb2); have tok3 : True := trivial; have hs2 : B + 1 ≤ w2.heap.size := (by have := hb2.size; simp at this; omega); clear ho2 hg2 hb2 tok2) | (at_builtin; have _t := tok3; refine wpList_apprq rfl (.tmp 42) (.tmp 45) (.inl ⟨_, rfl⟩) ⟨_, rfl⟩ rfl rfl (B + 1) v2 (0 + (L.take k).length + [(r1, r2)].length) (([] ++ L.take k) ++ [(r1, r2)]) (L.drop k) rfl HO2.out _ _ (by rw [hDl]; rfl) (fun hne => absurd (List.drop_eq_nil_of_le (by have := HN.out; omega)) hne) (by rw [hMl, hDl]; simp; omega) hs2 ?_; intro v3 w3 ho3 hg3 hb3; have HO3 := Lib.hid ho3; have HB3 := Lib.hid (HB2.out.trans hb3); clear ho3 hg3 hb3 tok3))
        all_goals
          go_ret
          have hput : putL L (r1, r2) = [] ++ L.take k ++ [(r1, r2)] ++ L.drop k := by
            unfold putL
            rw [HAT.out, if_neg HNEQ.out]; rfl
          rw [← hput] at HO3
          obtain ⟨af, cf, ef, hcf, hRf, hbf⟩ := reqs_of_own HO3.out (by rw [hput]; simp; omega)
          have hll : 0 + (L.take k).length + [(r1, r2)].length + (L.drop k).length = (putL L (r1, r2)).length := by rw [hput]; simp; omega
          rw [hll] at ef hcf
          exact ⟨af, cf, by rw [← ef]; rfl, hcf, hRf, HFB.out.trans (HB3.out.mono (by have := HBB.out; omega)), fun b' o' e => .inr (by have := hbf b' o' e; have := HBB.out; omega)⟩
end Go.Proofs.YtgeldpkopolnfaaDoor
