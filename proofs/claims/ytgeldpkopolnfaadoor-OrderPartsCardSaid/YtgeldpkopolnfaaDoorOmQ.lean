/- With; Sets of requirements that Check refuses. -/
import Derived.Test.YtgeldpkopolnfaaDoorOmL
namespace Go.Proofs.YtgeldpkopolnfaaDoor
open Go.RowKit
set_option linter.all false

def withL (l : List Nat) (i : Nat) : List Nat := l.filter (fun x => decide (x < i)) ++ i :: l.filter (fun x => decide (i < x))
theorem withL_mem {l : List Nat} {i x : Nat} : x ∈ withL l i ↔ x ∈ l ∨ x = i := by
  unfold withL
  rw [List.mem_append, List.mem_cons, List.mem_filter, List.mem_filter]
  simp only [decide_eq_true_eq]
  constructor
  · rintro (⟨h, _⟩ | rfl | ⟨h, _⟩)
    · exact .inl h
    · exact .inr rfl
    · exact .inl h
  · rintro (h | rfl)
    · rcases Nat.lt_trichotomy x i with h1 | rfl | h1
      · exact .inl ⟨h, h1⟩
      · exact .inr (.inl rfl)
      · exact .inr (.inr ⟨h, h1⟩)
    · exact .inr (.inl rfl)
theorem withL_ok {n : Nat} {l : List Nat} {i : Nat} (h : SetOk n l) (hi : i < n) : SetOk n (withL l i) := by
  refine ⟨?_, fun x hx => ?_⟩
  · unfold withL
    rw [List.pairwise_append]
    refine ⟨h.asc.filter _, ?_, fun a ha b hb => ?_⟩
    · rw [List.pairwise_cons]
      exact ⟨fun x hx => of_decide_eq_true (List.mem_filter.1 hx).2, h.asc.filter _⟩
    · have h1 := of_decide_eq_true (List.mem_filter.1 ha).2
      rcases List.mem_cons.1 hb with rfl | hb
      · exact h1
      · have h2 := of_decide_eq_true (List.mem_filter.1 hb).2
        omega
  · rcases withL_mem.1 hx with h1 | rfl
    · exact h.low x h1
    · exact hi
theorem withL_mask (l : List Nat) (i : Nat) : maskL (withL l i) = maskL l ||| 2 ^ i := by
  apply Nat.eq_of_testBit_eq
  intro j
  rw [maskL_bit, bit_or_pow, maskL_bit]
  by_cases h : j ∈ l
  · simp [withL_mem, h]
  · by_cases h2 : i = j
    · subst h2; simp [withL_mem]
    · have h3 : ¬ j = i := fun e => h2 e.symm
      simp [withL_mem, h, h2, h3]
/-- What With has written behind some of its indices. -/
def wOut (l : List Nat) (i : Nat) (p : Bool) : List Nat := if p then withL l i else l.filter fun x => decide (x < i)
def wPut (l : List Nat) (i : Nat) : Bool := l.any fun x => decide (i < x)
theorem wPut_snoc (l : List Nat) (i x : Nat) : wPut (l ++ [x]) i = (wPut l i || decide (i < x)) := by unfold wPut; rw [List.any_append]; simp
theorem wOut_of {l : List Nat} {i : Nat} (h : wPut l i = false) : l.filter (fun x => decide (i < x)) = [] := by
  rw [List.filter_eq_nil_iff]
  intro x hx h2
  unfold wPut at h
  rw [List.any_eq_false] at h
  exact h x hx h2
theorem wOut_fin {l : List Nat} {i : Nat} (h : wPut l i = false) : wOut l i false ++ [i] = withL l i := by
  unfold wOut withL
  rw [wOut_of h]; rfl
theorem wOut_length (l : List Nat) (i : Nat) (p : Bool) : (wOut l i p).length ≤ 2 * l.length + 1 := by
  unfold wOut withL
  cases p
  case true =>
    rw [if_pos rfl, List.length_append, List.length_cons]
    have h1 := List.length_filter_le (fun x => decide (x < i)) l
    have h2 := List.length_filter_le (fun x => decide (i < x)) l
    omega
  case false =>
    have h1 := List.length_filter_le (fun x => decide (x < i)) l
    rw [if_neg (by decide)]
    omega

set_option maxRecDepth 100000 in
set_option maxHeartbeats 4000000 in
theorem withL_any (va : Value) (l : List Nat) (i : Nat) (w : World) (hl : SetOk 24 l) (hi24 : i < 24) (ha : IdxR w va l) :
    Calls Tryd.prog 15 #[va, .int .i64 (i : Int), .bool true] w fun e w' => ∃ u, e = .returned u ∧ IdxR w' u (withL l i) ∧ Below w.heap.size w w' := by
  obtain ⟨i0, hi, hz0, hz1, hz2⟩ := info_parts info3
  have hlen := hl.length
  obtain ⟨pa, ca, rfl, _, hca⟩ := ha
  have HA := Lib.hid hca; have HL := Lib.hid hl
  obtain ⟨N, hN⟩ : ∃ N, l.length = N := ⟨_, rfl⟩
  have HN := Lib.hid hN
  rw [hN] at hlen ⊢
  obtain ⟨S, hS⟩ : ∃ S, w.heap.size = S := ⟨_, rfl⟩
  have HS := Lib.hid hS
  clear hca hl hN hS
  go_enter Tryd.func15, Tryd.ntmps15
  go_wp2_with fail
  go_loopw [7, 8, 13] (fun ov pv kv wr => ∃ m : Nat, kv = .int .i64 (m : Int) ∧ m ≤ N ∧ pv = .bool (wPut (l.take m) i) ∧ wr.ownsRow S 3 1 ov (wOut (l.take m) i (wPut (l.take m) i)).length (cellsN (wOut (l.take m) i (wPut (l.take m) i))) ∧ Below S w wr) (fun _ _ kv _ => N - (intOf kv).toNat)
  case atStart => exact ⟨0, rfl, Nat.zero_le _, rfl, World.ownsRow_nil _ _ _ _, by rw [← HS.out]; exact Below.refl _ _⟩
  case round =>
    obtain ⟨m, rfl, hm, rfl, hown, hbel⟩ := hrel
    obtain ⟨po, co, rfl⟩ := own_slice hown
    have hsW : S ≤ wr.heap.size := by have := hbel.size; have := HS.out; omega
    have hol : (wOut (l.take m) i (wPut (l.take m) i)).length ≤ 49 := by
      have h1 := wOut_length (l.take m) i (wPut (l.take m) i)
      have h2 := List.length_take_le m l
      omega
    by_cases hlt : m < N
    · have hm0 : (0 : Int) ≤ (m : Int) := by omega
      have hm1 : (m : Int) < (N : Int) := by omega
      have hdm : decide (m < N) = true := decide_eq_true hlt
      have hml : m < l.length := by rw [HN.out]; exact hlt
      obtain ⟨b1, o1, hp1, c0⟩ := HA.out m hml
      subst hp1
      have c0 := cell_later' (by rw [HS.out]; exact hbel) c0
      have htk := takeN_snoc l m hml
      have hasc : ∀ y ∈ l.take m, y < l.getD m 0 := fun y hy => by
        obtain ⟨k, hk, e⟩ := List.getElem_of_mem hy
        rw [List.length_take] at hk
        rw [List.getElem_take] at e
        have := HL.out.lt (i := k) (j := m) (by omega) hml
        rw [List.getD, List.getElem?_eq_getElem (by omega)] at this
        simp only [Option.getD_some, e] at this
        exact this
      have hx24 := HL.out.low _ (SetOk.getD_mem hml)
      obtain ⟨x, hx⟩ : ∃ x, l.getD m 0 = x := ⟨_, rfl⟩
      rw [hx] at c0 htk hasc hx24
      have hps := wPut_snoc (l.take m) i x
      rw [← htk] at hps
      have hput : wPut (l.take m) i = true → i < x := fun h => by
        unfold wPut at h
        rw [List.any_eq_true] at h
        obtain ⟨y, hy, h2⟩ := h
        have := hasc y hy
        have := of_decide_eq_true h2
        omega
      have hf1 : (l.take (m + 1)).filter (fun y => decide (y < i)) = (l.take m).filter (fun y => decide (y < i)) ++ (if x < i then [x] else []) := by
        rw [htk, List.filter_append]
        by_cases h : x < i <;> simp [h]
      have hf2 : (l.take (m + 1)).filter (fun y => decide (i < y)) = (l.take m).filter (fun y => decide (i < y)) ++ (if i < x then [x] else []) := by
        rw [htk, List.filter_append]
        by_cases h : i < x <;> simp [h]
      have hnil : wPut (l.take m) i = false → (l.take m).filter (fun y => decide (i < y)) = [] := fun h => wOut_of h
      -- what the row holds behind the round
      have hfin : wOut (l.take (m + 1)) i (wPut (l.take (m + 1)) i) = wOut (l.take m) i (wPut (l.take m) i) ++ (if wPut (l.take m) i then [x] else if i < x then [i, x] else if x = i then [] else [x]) := by
        rw [hps]
        cases hw : wPut (l.take m) i
        · by_cases h1 : i < x
          · have h3 : ¬ x < i := by omega
            simp only [Bool.false_or, decide_eq_true h1, if_pos h1, if_true]
            unfold wOut withL
            rw [hf1, hf2, hnil hw]
            simp [h1, h3]
          · have h4 : decide (i < x) = false := decide_eq_false h1
            simp only [Bool.false_or, h4, if_neg h1]
            unfold wOut
            simp only [Bool.false_eq_true, if_false]
            rw [hf1]
            by_cases h2 : x = i
            · subst h2; simp
            · have h3 : x < i := by omega
              simp [h2, h3]
        · have h1 := hput hw
          have h3 : ¬ x < i := by omega
          simp only [Bool.true_or, if_true]
          unfold wOut withL
          simp only [if_true]
          rw [hf1, hf2]
          simp [h1, h3]
      obtain ⟨O, hO⟩ : ∃ O, wOut (l.take m) i (wPut (l.take m) i) = O := ⟨_, rfl⟩
      rw [hO] at hown hol hfin ⊢
      obtain ⟨ol, hol2⟩ : ∃ ol, O.length = ol := ⟨_, rfl⟩
      have HOL := Lib.hid hol2
      rw [hol2] at hown hol ⊢
      have HFIN := Lib.hid hfin; have HPS := Lib.hid hps; have HO1 := Lib.hid hown; have HBE := Lib.hid hbel; have HPUT := Lib.hid hput
      obtain ⟨q, hq⟩ : ∃ q, wPut (l.take m) i = q := ⟨_, rfl⟩
      rw [hq] at HFIN HPS HPUT ⊢
      clear hO hol2 hfin hps hown hbel hput hnil hf1 hf2 hasc htk hx hq
      cases q
      · by_cases h1 : i < x
        · have g1 : (i : Int) < (x : Int) := by omega
          have g2 : decide (i < x) = true := decide_eq_true h1
          have g3 : ¬ (x : Int) = (i : Int) := by omega
          have g4 : ((x : Int) == (i : Int)) = false := by simp; omega
          have hfin := HFIN.out
          rw [if_neg (by decide), if_pos h1] at hfin
          have HFIN := Lib.hid hfin
          have hps := HPS.out
          rw [decide_eq_true h1] at hps
          have HPS := Lib.hid hps
          clear h1 hfin hps
          go_wp2_with (first | (at_builtin; refine wpList_append_own _ rfl _ _ 33 rfl S 3 i0 (.int .i64 0) 1 8 Tryd.underlying33 hi hz0 hz1 hz2 rfl (by decide) _ _ _ rfl (HO1.out.alloc _) ⟨wr.heap.size, 0, none⟩ 1 1 [.int .i64 (i : Int)] rfl rfl (cell_one_new _ _ _) (by simp [Value.oneCell']) (by unfold maxLen; omega) (by omega) (by simp; omega) ?_; intro v' w3 hown' hgrow _; obtain ⟨p', c', rfl⟩ := own_slice hown'; have HO2 := Lib.hid hown'; have HB2 := Lib.hid ((HBE.out.alloc hsW _).grown hgrow (by simp; omega) fun g e => (HO1.out.lt g e).1); have hs3 : S ≤ w3.heap.size := (by have h9 := HB2.out.size; have h8 := HS.out; omega); clear hown' hgrow HO1) | (at_builtin; refine wpList_append_own _ rfl _ _ 33 rfl S 3 i0 (.int .i64 0) 1 8 Tryd.underlying33 hi hz0 hz1 hz2 rfl (by decide) _ _ _ rfl (HO2.out.alloc _) ⟨w3.heap.size, 0, none⟩ 1 1 [.int .i64 (x : Int)] rfl rfl (cell_one_new _ _ _) (by simp [Value.oneCell']) (by unfold maxLen; omega) (by omega) (by simp; omega) ?_; intro v' w4 hown' hgrow _; obtain ⟨p', c', rfl⟩ := own_slice hown'; have HO3 := Lib.hid hown'; have HB3 := Lib.hid ((HB2.out.alloc hs3 _).grown hgrow (by simp; omega) fun g e => (HO2.out.lt g e).1); clear hown' hgrow HO2))
          have e1 : ((m : Int) + 1) = ((m + 1 : Nat) : Int) := by omega
          rw [e1]
          refine ⟨⟨m + 1, rfl, by omega, by rw [HPS.out]; rfl, ?_, HB3.out⟩, by simp [intOf]; omega⟩
          rw [HFIN.out, List.length_append, HOL.out]
          have h := HO3.out
          unfold cellsN at h ⊢
          simpa using h
        · by_cases h2 : x = i
          · subst h2
            have g1 : ¬ (x : Int) < (x : Int) := by omega
            have g2 : decide (x < x) = false := by simp
            have hfin := HFIN.out
            rw [if_neg (by decide), if_neg (Nat.lt_irrefl x), if_pos rfl, List.append_nil] at hfin
            have HFIN := Lib.hid hfin
            have hps := HPS.out
            rw [decide_eq_false (Nat.lt_irrefl x)] at hps
            have HPS := Lib.hid hps
            clear h1 hfin hps
            go_wp2_with fail
            go_roundw
            case rel => exact ⟨m + 1, by go_num, by omega, by rw [HPS.out]; rfl, by rw [HFIN.out, HOL.out]; exact HO1.out, HBE.out⟩
            case measure => simp [intOf]; omega
          · have g1 : ¬ (i : Int) < (x : Int) := by omega
            have g2 : decide (i < x) = false := decide_eq_false h1
            have g3 : ¬ (x : Int) = (i : Int) := by omega
            have g4 : ((x : Int) == (i : Int)) = false := by simp; omega
            have hfin := HFIN.out
            rw [if_neg (by decide), if_neg h1, if_neg h2] at hfin
            have HFIN := Lib.hid hfin
            have hps := HPS.out
            rw [decide_eq_false h1] at hps
            have HPS := Lib.hid hps
            clear h1 h2 hfin hps
            go_wp2_with (at_builtin; refine wpList_append_own _ rfl _ _ 33 rfl S 3 i0 (.int .i64 0) 1 8 Tryd.underlying33 hi hz0 hz1 hz2 rfl (by decide) _ _ _ rfl (HO1.out.alloc _) ⟨wr.heap.size, 0, none⟩ 1 1 [.int .i64 (x : Int)] rfl rfl (cell_one_new _ _ _) (by simp [Value.oneCell']) (by unfold maxLen; omega) (by omega) (by simp; omega) ?_; intro v' w3 hown' hgrow _; obtain ⟨p', c', rfl⟩ := own_slice hown'; have HO2 := Lib.hid hown'; have HB2 := Lib.hid ((HBE.out.alloc hsW _).grown hgrow (by simp; omega) fun g e => (HO1.out.lt g e).1); clear hown' hgrow HO1)
            have e1 : ((m : Int) + 1) = ((m + 1 : Nat) : Int) := by omega
            rw [e1]
            refine ⟨⟨m + 1, rfl, by omega, by rw [HPS.out]; rfl, ?_, HB2.out⟩, by simp [intOf]; omega⟩
            rw [HFIN.out, List.length_append, HOL.out]
            have h := HO2.out
            unfold cellsN at h ⊢
            simpa using h
      · have h1 := HPUT.out rfl
        have g1 : (i : Int) < (x : Int) := by omega
        have g3 : ¬ (x : Int) = (i : Int) := by omega
        have g4 : ((x : Int) == (i : Int)) = false := by simp; omega
        have hfin := HFIN.out
        rw [if_pos rfl] at hfin
        have HFIN := Lib.hid hfin
        have hps := HPS.out
        have HPS := Lib.hid hps
        clear h1 hfin hps
        go_wp2_with (at_builtin; refine wpList_append_own _ rfl _ _ 33 rfl S 3 i0 (.int .i64 0) 1 8 Tryd.underlying33 hi hz0 hz1 hz2 rfl (by decide) _ _ _ rfl (HO1.out.alloc _) ⟨wr.heap.size, 0, none⟩ 1 1 [.int .i64 (x : Int)] rfl rfl (cell_one_new _ _ _) (by simp [Value.oneCell']) (by unfold maxLen; omega) (by omega) (by simp; omega) ?_; intro v' w3 hown' hgrow _; obtain ⟨p', c', rfl⟩ := own_slice hown'; have HO2 := Lib.hid hown'; have HB2 := Lib.hid ((HBE.out.alloc hsW _).grown hgrow (by simp; omega) fun g e => (HO1.out.lt g e).1); clear hown' hgrow HO1)
        have e1 : ((m : Int) + 1) = ((m + 1 : Nat) : Int) := by omega
        rw [e1]
        refine ⟨⟨m + 1, rfl, by omega, by rw [HPS.out]; rfl, ?_, HB2.out⟩, by simp [intOf]; omega⟩
        rw [HFIN.out, List.length_append, HOL.out]
        have h := HO2.out
        unfold cellsN at h ⊢
        simpa using h
    · have hmN : m = N := by omega
      subst hmN
      have hdm : decide (m < m) = false := by simp
      have hnm : ¬ (m : Int) < (m : Int) := by omega
      rw [List.take_of_length_le (by rw [HN.out]; exact Nat.le_refl _)] at hown hol ⊢
      have HBE := Lib.hid hbel
      have hwf := @wOut_fin l i
      have HWF := Lib.hid hwf
      obtain ⟨q, hq⟩ : ∃ q, wPut l i = q := ⟨_, rfl⟩
      rw [hq] at hown hol HWF ⊢
      clear hbel hwf hq
      cases q
      · have hfin := HWF.out rfl
        obtain ⟨O, hO⟩ : ∃ O, wOut l i false = O := ⟨_, rfl⟩
        rw [hO] at hown hol hfin ⊢
        obtain ⟨ol, hol2⟩ : ∃ ol, O.length = ol := ⟨_, rfl⟩
        have HOL := Lib.hid hol2
        rw [hol2] at hown hol ⊢
        have HO1 := Lib.hid hown; have HFIN := Lib.hid hfin
        clear hown hfin hO hol2
        go_wp2_with (at_builtin; refine wpList_append_own _ rfl _ _ 33 rfl S 3 i0 (.int .i64 0) 1 8 Tryd.underlying33 hi hz0 hz1 hz2 rfl (by decide) _ _ _ rfl (HO1.out.alloc _) ⟨wr.heap.size, 0, none⟩ 1 1 [.int .i64 (i : Int)] rfl rfl (cell_one_new _ _ _) (by simp [Value.oneCell']) (by unfold maxLen; omega) (by omega) (by simp; omega) ?_; intro v' w3 hown' hgrow _; obtain ⟨p', c', rfl⟩ := own_slice hown'; have HO2 := Lib.hid hown'; have HB2 := Lib.hid ((HBE.out.alloc hsW _).grown hgrow (by simp; omega) fun g e => (HO1.out.lt g e).1); clear hown' hgrow HO1)
        go_ret
        refine ⟨_, rfl, ?_, by rw [HS.out]; exact HB2.out⟩
        have h := HO2.out
        rw [← HFIN.out]
        refine idxR_of_own (base := S) ?_
        rw [List.length_append, HOL.out]
        unfold cellsN at h ⊢
        simpa using h
      · have hwe : wOut l i true = withL l i := by unfold wOut; rw [if_pos rfl]
        rw [hwe] at hown ⊢
        have hres : IdxR wr (.slice po (withL l i).length co) (withL l i) := idxR_of_own hown
        have HR := Lib.hid hres
        obtain ⟨ol, hol2⟩ : ∃ ol, (withL l i).length = ol := ⟨_, rfl⟩
        rw [hol2] at HR ⊢
        clear hown hres hol hol2 hwe
        go_wp2_with fail
        go_ret
        exact ⟨_, rfl, HR.out, by rw [HS.out]; exact HBE.out⟩
end Go.Proofs.YtgeldpkopolnfaaDoor
