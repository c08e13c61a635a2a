/- CatalogRaw: the numbers 1 .. 16384, written and read. -/
import Derived.Test.YtdhochjcigingaaDoorRawM
namespace Go.Proofs.YtdhochjcigingaaDoor
open Go.RowKit
set_option linter.all false

/-- What is left to show (next session): the numbers 1 .. 16384, written and read. -/
def DigsOk : Prop := ∀ n : Nat, 1 ≤ n → n ≤ 16384 → atoiV (decD 5 n) = (n : Int) ∧ numOk (decD 5 n) = true ∧ numV (decD 5 n) = (n : Int)

/-- With a dash: the written text is s just where the document's number is good. -/
theorem dash_iff (HD : DigsOk) (A B : List UInt8) (hA : ∀ c ∈ A, c.toNat ≠ 45) : (textS (findS A : Nat) (atoiV B) = A ++ 45 :: B) ↔ dashOk A B = true := by
  constructor
  · intro h
    unfold textS at h
    by_cases hs : 0 < strS (findS A : Nat) (atoiV B)
    · rw [if_pos hs] at h
      obtain ⟨b0, b1⟩ := strS_pos hs
      by_cases hz : atoiV B = 0
      · rw [if_pos hz] at h
        exact absurd rfl (anI_nodash (findS A : Nat) 45 (by rw [h]; simp))
      · rw [if_neg hz] at h
        have hcut : cutB (anI (findS A : Nat) ++ 45 :: Lib.itoa (atoiV B)) = cutB (A ++ 45 :: B) := by rw [h]
        rw [(cut_dash _ _ (anI_nodash _)).2, (cut_dash _ _ hA).2, itoa_eq _ b0 b1] at hcut
        obtain ⟨n, hn⟩ : ∃ n : Nat, atoiV B = n := ⟨(atoiV B).toNat, by omega⟩
        rw [hn, Int.toNat_natCast] at hcut
        obtain ⟨_, d2, d3⟩ := HD n (by omega) (by omega)
        rw [hcut] at d2 d3
        unfold dashOk validB
        rw [d2, d3, ← hn, decide_eq_true hs, decide_eq_true (by omega)]
        rfl
    · rw [if_neg hs] at h
      have := congrArg List.length h
      simp at this
  · intro h
    unfold dashOk validB at h
    simp only [Bool.and_eq_true, decide_eq_true_eq] at h
    obtain ⟨⟨h1, h2⟩, h3⟩ := h
    obtain ⟨b0, b1⟩ := strS_pos h3
    have hl := h1
    unfold numOk at hl
    simp only [Bool.and_eq_true, decide_eq_true_eq] at hl
    have hB := digs_back 15 B (by intro e; rw [e] at hl; simp at hl) (by omega) hl.2 hl.1.2.2
    obtain ⟨n, hn⟩ : ∃ n : Nat, numV B = n := ⟨(numV B).toNat, by omega⟩
    have hp : n < 10 ^ 5 := by omega
    have e5 : decD 5 n = B := by
      have a1 := decD_eq 4 n hp
      have a2 := decD_eq 14 n (by omega)
      rw [hn, Int.toNat_natCast] at hB
      rw [← a1, a2, hB]
    obtain ⟨d1, _, _⟩ := HD n (by omega) (by omega)
    rw [e5] at d1
    have hf : 0 < findS A := by
      rcases Nat.eq_zero_or_pos (findS A) with e | e
      · rw [e] at h3; rw [show ((0 : Nat) : Int) = 0 from rfl, strS_zero] at h3; omega
      · exact e
    unfold textS
    rw [d1, ← hn, if_pos h3, if_neg (by omega), anI_find A hf, itoa_eq _ b0 b1, hn, Int.toNat_natCast, e5]
theorem dash_val (HD : DigsOk) (A B : List UInt8) (h : dashOk A B = true) : atoiV B = numV B := by
  unfold dashOk validB at h
  simp only [Bool.and_eq_true, decide_eq_true_eq] at h
  obtain ⟨⟨h1, h2⟩, h3⟩ := h
  obtain ⟨b0, b1⟩ := strS_pos h3
  have hl := h1
  unfold numOk at hl
  simp only [Bool.and_eq_true, decide_eq_true_eq] at hl
  have hB := digs_back 15 B (by intro e; rw [e] at hl; simp at hl) (by omega) hl.2 hl.1.2.2
  obtain ⟨n, hn⟩ : ∃ n : Nat, numV B = n := ⟨(numV B).toNat, by omega⟩
  have hp : n < 10 ^ 5 := by omega
  have e5 : decD 5 n = B := by
    have a1 := decD_eq 4 n hp
    have a2 := decD_eq 14 n (by omega)
    rw [hn, Int.toNat_natCast] at hB
    rw [← a1, a2, hB]
  obtain ⟨d1, _, _⟩ := HD n (by omega) (by omega)
  rw [e5] at d1
  rw [d1, hn]
theorem plain_iff (s : List UInt8) : (s ≠ [] ∧ textS (findS s : Nat) 0 = s) ↔ validB (findS s : Nat) 0 = true := by
  unfold textS validB
  constructor
  · rintro ⟨h0, h⟩
    by_cases hs : 0 < strS (findS s : Nat) 0
    · exact decide_eq_true hs
    · rw [if_neg hs] at h; exact absurd h.symm h0
  · intro h
    have hs := of_decide_eq_true h
    have hf : 0 < findS s := by
      rcases Nat.eq_zero_or_pos (findS s) with e | e
      · rw [e] at hs; rw [show ((0 : Nat) : Int) = 0 from rfl, strS_zero] at hs; omega
      · exact e
    refine ⟨fun e => ?_, by rw [if_pos hs, if_pos rfl, anI_find s hf]⟩
    subst e
    have : findS [] = 0 := by decide +kernel
    omega

/-- The document's Parse gives what the program's gives. -/
theorem refparse_any (HD : DigsOk) (s : List UInt8) (hs : s.length ≤ 1000) (w : World) : Calls Tryd.prog 13 #[.string ⟨s.toArray⟩] w (ParseP (pA s) (pB s) (pE s) w) := by
  rcases dash_cases s with ⟨A, B, he, hA⟩ | hn
  · have hr := refparse_dash s A B hs he hA w
    have hk := dash_iff HD A B hA
    have hcA : cutA s = A := by rw [he]; exact (cut_dash A B hA).1
    have hcB : cutB s = B := by rw [he]; exact (cut_dash A B hA).2
    have h0 : s ≠ [] := by rw [he]; simp
    have e1 : parseA s = (findS A : Nat) := by unfold parseA; rw [hcA]
    have e2 : parseB s = atoiV B := by unfold parseB; rw [hcB]
    unfold DashP at hr
    unfold pA pB pE
    rw [e1, e2]
    by_cases hd : dashOk A B = true
    · have ht := hk.2 hd
      rw [← he] at ht
      rw [hd] at hr
      rw [if_pos ⟨h0, ht⟩, if_pos ⟨h0, ht⟩, if_pos ⟨h0, ht⟩, dash_val HD A B hd]
      exact hr
    · have ht : ¬ (s ≠ [] ∧ textS (findS A : Nat) (atoiV B) = s) := fun h => hd (hk.1 (he ▸ h.2))
      rw [if_neg ht, if_neg ht, if_neg ht]
      rw [if_neg hd, if_neg hd, if_neg hd] at hr
      exact hr
  · have hr := refparse_none s hs hn w
    have hk := plain_iff s
    obtain ⟨hcA, hcB⟩ := cut_nodash s hn
    have e1 : parseA s = (findS s : Nat) := by unfold parseA; rw [hcA]
    have e2 : parseB s = 0 := by unfold parseB; rw [hcB]; rfl
    unfold PlainP at hr
    unfold pA pB pE
    rw [e1, e2]
    by_cases hd : validB (findS s : Nat) 0 = true
    · have ht := hk.2 hd
      rw [if_pos ht, if_pos ht, if_pos ht]
      rw [if_pos hd, if_pos hd] at hr
      exact hr
    · have ht : ¬ (s ≠ [] ∧ textS (findS s : Nat) 0 = s) := fun h => hd (hk.1 h)
      rw [if_neg ht, if_neg ht, if_neg ht]
      rw [if_neg hd, if_neg hd] at hr
      exact hr
end Go.Proofs.YtdhochjcigingaaDoor
