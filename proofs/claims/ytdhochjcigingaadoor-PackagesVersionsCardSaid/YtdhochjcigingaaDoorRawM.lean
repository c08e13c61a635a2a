/- CatalogRaw: plain mathematics: cuts, digits. -/
import Derived.Test.YtdhochjcigingaaDoorRefParseN
namespace Go.Proofs.YtdhochjcigingaaDoor
open Go.RowKit
set_option linter.all false

theorem u8_ne {a b : UInt8} (h : a.toNat ≠ b.toNat) : a ≠ b := fun e => h (by rw [e])
theorem index_dash : ∀ (A B : List UInt8), (∀ c ∈ A, c.toNat ≠ 45) → Lib.index (A ++ 45 :: B) [45] = (A.length : Int)
  | [], B, _ => by simp [Lib.index]
  | c :: A, B, h => by
    have hc : c.toNat ≠ 45 := h c List.mem_cons_self
    have hne : ((45 : UInt8) == c) = false := beq_eq_false_iff_ne.2 (fun e => hc (by rw [← e]; rfl))
    have ih := index_dash A B (fun d hd => h d (List.mem_cons_of_mem _ hd))
    have h1 : ((A.length : Int) == -1) = false := beq_eq_false_iff_ne.2 (by omega)
    rw [List.cons_append]
    unfold Lib.index
    rw [ih]
    simp [List.isPrefixOf, hne, h1]
theorem index_nodash : ∀ (A : List UInt8), (∀ c ∈ A, c.toNat ≠ 45) → Lib.index A [45] = -1
  | [], _ => by simp [Lib.index]
  | c :: A, h => by
    have hc : c.toNat ≠ 45 := h c List.mem_cons_self
    have hne : ((45 : UInt8) == c) = false := beq_eq_false_iff_ne.2 (fun e => hc (by rw [← e]; rfl))
    have ih := index_nodash A (fun d hd => h d (List.mem_cons_of_mem _ hd))
    unfold Lib.index
    rw [ih]
    simp [List.isPrefixOf, hne]
theorem cut_dash (A B : List UInt8) (h : ∀ c ∈ A, c.toNat ≠ 45) : cutA (A ++ 45 :: B) = A ∧ cutB (A ++ 45 :: B) = B := by
  unfold cutA cutB Lib.cut
  rw [index_dash A B h, if_pos (by omega)]
  refine ⟨by simp, ?_⟩
  simp
theorem cut_nodash (A : List UInt8) (h : ∀ c ∈ A, c.toNat ≠ 45) : cutA A = A ∧ cutB A = [] := by
  unfold cutA cutB Lib.cut
  rw [index_nodash A h, if_neg (by omega)]
  exact ⟨rfl, rfl⟩
/-- A text holds a dash, and its first is where A ends; or it holds none. -/
theorem dash_cases : ∀ s : List UInt8, (∃ A B, s = A ++ 45 :: B ∧ ∀ c ∈ A, c.toNat ≠ 45) ∨ ∀ c ∈ s, c.toNat ≠ 45
  | [] => .inr fun c hc => by cases hc
  | c :: s => by
    by_cases h : c.toNat = 45
    · have : c = 45 := UInt8.toNat_inj.1 h
      subst this
      exact .inl ⟨[], s, rfl, fun c hc => by cases hc⟩
    · rcases dash_cases s with ⟨A, B, he, hA⟩ | hn
      · exact .inl ⟨c :: A, B, by rw [he]; rfl, fun d hd => by
          rcases List.mem_cons.1 hd with rfl | hd
          · exact h
          · exact hA d hd⟩
      · exact .inr fun d hd => by
          rcases List.mem_cons.1 hd with rfl | hd
          · exact h
          · exact hn d hd

theorem anm_nodash : ∀ i, i < 23 → ∀ c ∈ anm i, c.toNat ≠ 45 := by decide +kernel
theorem anI_nodash (a : Int) : ∀ c ∈ anI a, c.toNat ≠ 45 := by
  unfold anI
  split
  · exact anm_nodash _ (by omega)
  · intro c hc; cases hc
theorem anI_find (s : List UInt8) (h : 0 < findS s) : anI (findS s : Nat) = s := by
  by_cases hx : ∃ k, k < 23 ∧ 1 ≤ k ∧ anm k = s
  · obtain ⟨k, hk, h1, he⟩ := hx
    rw [findR_hit h1 hk he]
    unfold anI
    rw [if_pos ⟨by omega, by omega⟩, Int.toNat_natCast, he]
  · rw [findR_none (fun j h1 hj e => hx ⟨j, hj, h1, e⟩)] at h
    omega
theorem strS_zero (b : Int) : strS 0 b = 0 := by
  unfold strS sizeS
  rw [if_neg (by decide), if_neg (by decide), if_neg (by decide), if_neg (by decide)]
  simp

/-- Canonical digits are what the number writes. -/
theorem digs_back : ∀ (f : Nat) (l : List UInt8), l ≠ [] → l.length ≤ f → l.all digB = true → ¬ (1 < l.length ∧ (l.getD 0 0).toNat = 48) → decD f (numV l).toNat = l := by
  intro f
  induction f with
  | zero => intro l h0 hl; exact absurd (List.length_eq_zero_iff.1 (by omega)) h0
  | succ f ih =>
    intro l h0 hl hd hc
    obtain ⟨l', c, rfl⟩ : ∃ l' c, l = l' ++ [c] := ⟨l.dropLast, l.getLast h0, (List.dropLast_concat_getLast h0).symm⟩
    rw [List.all_append] at hd
    simp only [Bool.and_eq_true, List.all_cons, List.all_nil, Bool.and_true] at hd
    have hcd := of_decide_eq_true hd.2
    have hv : numV (l' ++ [c]) = numV l' * 10 + ((c.toNat : Int) - 48) := by
      unfold numV; rw [List.foldl_append]; rfl
    have hb := numV_bound l' hd.1
    have hcc : UInt8.ofNat (48 + (c.toNat - 48)) = c := by
      rw [show 48 + (c.toNat - 48) = c.toNat from by omega]; exact UInt8.ofNat_toNat
    unfold decD
    by_cases hl' : l' = []
    · subst hl'
      rw [hv, show numV [] = 0 from rfl, if_pos (by omega), show ((0 : Int) * 10 + ((c.toNat : Int) - 48)).toNat = c.toNat - 48 from by omega, hcc]
      rfl
    · have hlen : 1 ≤ l'.length := List.length_pos_iff.2 hl'
      have hhead : (l' ++ [c]).getD 0 0 = l'.getD 0 0 := by
        rw [List.getD, List.getD, List.getElem?_append_left (by omega)]
      have h48 : (l'.getD 0 0).toNat ≠ 48 := fun e => hc ⟨by simp; omega, by rw [hhead]; exact e⟩
      have ihl := ih l' hl' (by simp at hl; omega) hd.1 (fun h => h48 h.2)
      have hpos : 1 ≤ numV l' := by
        rcases Int.lt_or_le 0 (numV l') with h | h
        · omega
        · have hz : numV l' = 0 := by omega
          rw [hz] at ihl
          exfalso
          have hf : ∀ f, decD f 0 = [] ∨ decD f 0 = [48] := by
            intro f; cases f with
            | zero => exact .inl rfl
            | succ f => exact .inr (by unfold decD; rfl)
          rcases hf f with e | e
          · rw [show (0 : Int).toNat = 0 from rfl, e] at ihl; exact hl' ihl.symm
          · rw [show (0 : Int).toNat = 0 from rfl, e] at ihl; rw [← ihl] at h48; exact h48 rfl
      rw [hv, if_neg (by omega)]
      rw [show (numV l' * 10 + ((c.toNat : Int) - 48)).toNat / 10 = (numV l').toNat from by omega, show (numV l' * 10 + ((c.toNat : Int) - 48)).toNat % 10 = c.toNat - 48 from by omega, hcc, ihl]
end Go.Proofs.YtdhochjcigingaaDoor
