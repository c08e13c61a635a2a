/- packages: mathematics of orders and texts. -/
import Derived.Test.YtdhochjcigingaaDoorPkW
namespace Go.Proofs.YtdhochjcigingaaDoor
open Go.RowKit
set_option linter.all false

theorem cmp_neg (x y : Int) : Lib.compareInt x y = -Lib.compareInt y x := by
  unfold Lib.compareInt
  rcases Int.lt_trichotomy x y with h | h | h
  · rw [if_pos h, if_neg (by omega), if_pos h]
  · subst h; simp
  · rw [if_neg (by omega), if_pos h, if_pos h]; rfl
theorem cmp_lt {x y : Int} (h : x < y) : Lib.compareInt x y = -1 := by unfold Lib.compareInt; rw [if_pos h]
theorem cmp_eq (x : Int) : Lib.compareInt x x = 0 := by unfold Lib.compareInt; simp
theorem cmp_gt {x y : Int} (h : y < x) : Lib.compareInt x y = 1 := by unfold Lib.compareInt; rw [if_neg (by omega), if_pos h]
theorem lexC_neg (f g : Nat → Int) : ∀ n k, lexC f g n k = -lexC g f n k := by
  intro n
  induction n with
  | zero => intro k; rfl
  | succ n ih =>
    intro k
    unfold lexC
    rcases Int.lt_trichotomy (f k) (g k) with h | h | h
    · rw [cmp_lt h, cmp_gt h, if_neg (by decide), if_neg (by decide)]
    · rw [h, cmp_eq, if_pos rfl, if_pos rfl]; exact ih _
    · rw [cmp_lt h, cmp_gt h, if_neg (by decide), if_neg (by decide)]; rfl
theorem lexC_trans (f g h : Nat → Int) : ∀ n k, lexC f g n k ≤ 0 → lexC g h n k ≤ 0 → lexC f h n k ≤ 0 := by
  intro n
  induction n with
  | zero => intro k _ _; exact Int.le_refl _
  | succ n ih =>
    intro k h1 h2
    unfold lexC at h1 h2 ⊢
    rcases Int.lt_trichotomy (f k) (g k) with a | a | a
    · rcases Int.lt_trichotomy (g k) (h k) with b | b | b
      · rw [cmp_lt (show f k < h k by omega), if_neg (by decide)]; decide
      · rw [cmp_lt (show f k < h k by omega), if_neg (by decide)]; decide
      · rw [cmp_gt b, if_neg (by decide)] at h2; exact absurd h2 (by decide)
    · rw [a] at h1 ⊢
      rcases Int.lt_trichotomy (g k) (h k) with b | b | b
      · rw [cmp_lt b, if_neg (by decide)]; decide
      · rw [b] at h1 h2 ⊢
        rw [cmp_eq, if_pos rfl] at h1 h2 ⊢
        exact ih _ h1 h2
      · rw [cmp_gt b, if_neg (by decide)] at h2; exact absurd h2 (by decide)
    · rw [cmp_gt a, if_neg (by decide)] at h1; exact absurd h1 (by decide)
theorem lexC_same (f g : Nat → Int) : ∀ n k, (∀ j, k ≤ j → f j = g j) → lexC f g n k = 0 := by
  intro n
  induction n with
  | zero => intro k _; rfl
  | succ n ih =>
    intro k h
    unfold lexC
    rw [h k (Nat.le_refl _), cmp_eq, if_pos rfl]
    exact ih _ (fun j hj => h j (by omega))
theorem lexC_more (f g : Nat → Int) (m : Nat) : ∀ n k, (∀ j, k + n ≤ j → f j = g j) → lexC f g (n + m) k = lexC f g n k := by
  intro n
  induction n with
  | zero => intro k h; rw [Nat.zero_add]; exact lexC_same f g m k (fun j hj => h j (by omega))
  | succ n ih =>
    intro k h
    rw [show n + 1 + m = (n + m) + 1 from by omega]
    unfold lexC
    rw [ih (k + 1) (fun j hj => h j (by omega))]

theorem cmpV_at (A B : List Int) (M : Nat) (ha : A.length ≤ M) (hb : B.length ≤ M) : cmpV A B = lexC (fun j => A.getD j 0) (fun j => B.getD j 0) M 0 := by
  unfold cmpV
  obtain ⟨d, hd⟩ : ∃ d, M = max A.length B.length + d := ⟨M - max A.length B.length, by omega⟩
  rw [hd, lexC_more]
  intro j hj
  show A.getD j 0 = B.getD j 0
  rw [List.getD, List.getD, List.getElem?_eq_none (by omega), List.getElem?_eq_none (by omega)]
theorem cmpV_neg (A B : List Int) : cmpV A B = -cmpV B A := by
  rw [cmpV_at A B (max A.length B.length) (by omega) (by omega), cmpV_at B A (max A.length B.length) (by omega) (by omega)]
  exact lexC_neg _ _ _ _
theorem cmpV_trans (A B C : List Int) (h1 : cmpV A B ≤ 0) (h2 : cmpV B C ≤ 0) : cmpV A C ≤ 0 := by
  have hA : A.length ≤ A.length + B.length + C.length := by omega
  have hB : B.length ≤ A.length + B.length + C.length := by omega
  have hC : C.length ≤ A.length + B.length + C.length := by omega
  rw [cmpV_at A B _ hA hB] at h1
  rw [cmpV_at B C _ hB hC] at h2
  rw [cmpV_at A C _ hA hC]
  exact lexC_trans _ _ _ _ _ h1 h2
theorem cmpV_zero (A : List Int) : cmpV A (A ++ [0]) = 0 := by
  rw [cmpV_at A (A ++ [0]) (A.length + 1) (by omega) (by simp)]
  refine lexC_same _ _ _ _ (fun j _ => ?_)
  show A.getD j 0 = (A ++ [0]).getD j 0
  rw [List.getD, List.getD]
  rcases Nat.lt_trichotomy j A.length with h | h | h
  · rw [List.getElem?_append_left h]
  · rw [List.getElem?_append_right (by omega), h, Nat.sub_self, List.getElem?_eq_none (Nat.le_refl _)]; rfl
  · rw [List.getElem?_append_right (by omega), List.getElem?_eq_none (by omega), List.getElem?_eq_none (by simp; omega)]
theorem inV_high (A B : List Int) (h : 1 ≤ B.length) : inV [] B A = decide (cmpV A B < 0) := by
  unfold inV
  rw [decide_eq_false (show ¬ B.length = 0 by omega)]
  rfl
theorem inV_low (A B : List Int) (h : 1 ≤ B.length) : inV B [] A = decide (0 ≤ cmpV A B) := by
  unfold inV
  rw [decide_eq_false (show ¬ B.length = 0 by omega)]
  simp
theorem inV_none (A : List Int) : inV [] [] A = true := rfl

theorem decT_ok (n : Int) (h : numB n = true) : (decT n).all digB = true ∧ numB5 (decT n) = true ∧ numV (decT n) = n := by
  have hn := of_decide_eq_true h
  by_cases h0 : n = 0
  · subst h0; decide +kernel
  · obtain ⟨a1, a2, a3, a4⟩ : (decD 5 n.toNat).all digB = true ∧ decD 5 n.toNat ≠ [] ∧ ((decD 5 n.toNat).getD 0 0).toNat ≠ 48 ∧ numV (decD 5 n.toNat) = (n.toNat : Int) := decD_ok 4 n.toNat (by omega) (by omega)
    have hl := decD_len 5 n.toNat
    have h1 : 1 ≤ (decD 5 n.toNat).length := List.length_pos_iff.2 a2
    unfold decT
    refine ⟨a1, ?_, by rw [a4]; omega⟩
    unfold numB5 numOk
    rw [a1, decide_eq_true ⟨h1, by omega, fun e => a3 e.2⟩, decide_eq_true (show (decD 5 n.toNat).length ≤ 5 from hl)]
    rfl
theorem decT_nodot (n : Int) (h : numB n = true) : ∀ c ∈ decT n, c.toNat ≠ 46 := by
  intro c hc
  have := of_decide_eq_true (List.all_eq_true.1 (decT_ok n h).1 c hc)
  omega
theorem txt_cons (x y : Int) (r : List Int) : txt (x :: y :: r) = decT x ++ 46 :: txt (y :: r) := by
  unfold txt
  rw [List.map_cons, List.map_cons, Lib.join_cons, Lib.join_cons]
  unfold Lib.joinTail
  simp
theorem pieces_txt : ∀ (L : List Int), L ≠ [] → L.all numB = true → pieces (txt L) = L.map decT
  | [], h, _ => absurd rfl h
  | [x], _, h => by
    simp only [List.all_cons, List.all_nil, Bool.and_true] at h
    have : txt [x] = decT x := Lib.join_one _ _
    rw [this, pieces_none _ (decT_nodot x h)]; rfl
  | x :: y :: r, _, h => by
    rw [List.all_cons, Bool.and_eq_true] at h
    rw [txt_cons, pieces_dot _ _ (decT_nodot x h.1), pieces_txt (y :: r) (by simp) h.2]; rfl
theorem txt_back {L : List Int} {n : Nat} (h : Good L n) (hn : n ≤ 4) : (txt L).length ≤ 1000 ∧ (txt L).count 46 < 4 ∧ (pieces (txt L)).all numB5 = true ∧ verL (txt L) = L := by
  obtain ⟨h1, h2, h3⟩ := h
  have hne : L ≠ [] := fun e => by rw [e] at h1; simp at h1
  have hp := pieces_txt L hne h3
  have hl := txt_len L
  have hc := pieces_len _ (txt L) (Nat.le_refl _)
  rw [hp, List.length_map] at hc
  refine ⟨by omega, by omega, ?_, ?_⟩
  · rw [hp, List.all_map, List.all_eq_true]
    intro x hx
    exact (decT_ok x (List.all_eq_true.1 h3 x hx)).2.1
  · unfold verL
    rw [hp, List.map_map]
    conv => rhs; rw [← List.map_id L]
    refine List.map_congr_left (fun x hx => ?_)
    exact (decT_ok x (List.all_eq_true.1 h3 x hx)).2.2
end Go.Proofs.YtdhochjcigingaaDoor
