/- CatalogRaw: the numbers 1 .. 16384, written and read. -/
import Derived.Test.YtdhochjcigingaaDoorRawD
import Derived.Test.YtdhochjcigingaaDoorRefDec
import Derived.Lib.AtoiTie
namespace Go.Proofs.YtdhochjcigingaaDoor
open Go.RowKit
set_option linter.all false

theorem digitVal_dig {c : UInt8} (h : digB c = true) : Lib.digitVal c = some (c.toNat - 48) := by
  have := of_decide_eq_true h
  unfold Lib.digitVal
  rw [if_pos this]
theorem decFrom_dig : ∀ (l : List UInt8) (a : Nat), l.all digB = true → ∃ n : Nat, Lib.decFrom a l = some n ∧ (n : Int) = l.foldl (fun v c => v * 10 + ((c.toNat : Int) - 48)) (a : Int)
  | [], a, _ => ⟨a, rfl, rfl⟩
  | c :: l, a, h => by
    simp only [List.all_cons, Bool.and_eq_true] at h
    have hc := of_decide_eq_true h.1
    obtain ⟨n, h1, h2⟩ := decFrom_dig l (a * 10 + (c.toNat - 48)) h.2
    refine ⟨n, ?_, ?_⟩
    · unfold Lib.decFrom
      rw [digitVal_dig h.1]
      exact h1
    · rw [List.foldl_cons, h2, show ((a * 10 + (c.toNat - 48) : Nat) : Int) = (a : Int) * 10 + ((c.toNat : Int) - 48) from by omega]
/-- Digits are read as the number that they spell. -/
theorem atoi_dig (l : List UInt8) (h0 : l ≠ []) (h1 : l.length ≤ 18) (h : l.all digB = true) : atoiV l = numV l := by
  obtain ⟨n, e1, e2⟩ := decFrom_dig l 0 h
  have e3 : Lib.decNat l = some n := by
    unfold Lib.decNat
    rw [if_neg (by simpa using h0)]
    exact e1
  have e4 : Lib.atoi l = some (n : Int) := by
    cases l with
    | nil => exact absurd rfl h0
    | cons c r =>
      simp only [List.all_cons, Bool.and_eq_true] at h
      have hc := of_decide_eq_true h.1
      have n1 : (c == 45) = false := beq_eq_false_iff_ne.2 (u8_ne (by rw [show (45 : UInt8).toNat = 45 from rfl]; omega))
      have n2 : (c == 43) = false := beq_eq_false_iff_ne.2 (u8_ne (by rw [show (43 : UInt8).toNat = 43 from rfl]; omega))
      unfold Lib.atoi
      simp only [n1, n2, e3]
      rfl
  unfold atoiV
  rw [Lib.atoiAll_short l h1, e4]
  show (n : Int) = numV l
  rw [e2]
  rfl
theorem dig_ofNat (u : Nat) (h : u < 10) : (UInt8.ofNat (48 + u)).toNat = 48 + u ∧ digB (UInt8.ofNat (48 + u)) = true := by
  have e : (UInt8.ofNat (48 + u)).toNat = 48 + u := by
    rw [UInt8.toNat_ofNat']
    omega
  refine ⟨e, decide_eq_true ?_⟩
  rw [e]; omega
theorem decD_ok : ∀ (f u : Nat), u < 10 ^ (f + 1) → 1 ≤ u → (decD (f + 1) u).all digB = true ∧ decD (f + 1) u ≠ [] ∧ ((decD (f + 1) u).getD 0 0).toNat ≠ 48 ∧ numV (decD (f + 1) u) = (u : Int) := by
  intro f
  induction f with
  | zero =>
    intro u h h1
    have hu : u < 10 := by simpa using h
    obtain ⟨a1, a2⟩ := dig_ofNat u hu
    unfold decD
    rw [if_pos hu]
    refine ⟨by rw [List.all_cons, a2]; rfl, by simp, ?_, ?_⟩
    · show (UInt8.ofNat (48 + u)).toNat ≠ 48
      omega
    · show (0 : Int) * 10 + (((UInt8.ofNat (48 + u)).toNat : Int) - 48) = u
      rw [a1]; omega
  | succ f ih =>
    intro u h h1
    unfold decD
    by_cases hu : u < 10
    · obtain ⟨a1, a2⟩ := dig_ofNat u hu
      rw [if_pos hu]
      refine ⟨by rw [List.all_cons, a2]; rfl, by simp, ?_, ?_⟩
      · show (UInt8.ofNat (48 + u)).toNat ≠ 48
        omega
      · show (0 : Int) * 10 + (((UInt8.ofNat (48 + u)).toNat : Int) - 48) = u
        rw [a1]; omega
    · rw [if_neg hu]
      obtain ⟨b1, b2, b3, b4⟩ := ih (u / 10) (by rw [Nat.pow_succ] at h; omega) (by omega)
      obtain ⟨a1, a2⟩ := dig_ofNat (u % 10) (by omega)
      have hl : 0 < (decD (f + 1) (u / 10)).length := List.length_pos_iff.2 b2
      refine ⟨by rw [List.all_append, b1, List.all_cons, a2]; rfl, by simp, ?_, ?_⟩
      · rw [List.getD, List.getElem?_append_left hl]
        exact b3
      · unfold numV at b4 ⊢
        rw [List.foldl_append, b4]
        show ((u / 10 : Nat) : Int) * 10 + (((UInt8.ofNat (48 + u % 10)).toNat : Int) - 48) = u
        rw [a1]; omega
theorem digsOk : DigsOk := by
  intro n h1 h2
  obtain ⟨a1, a2, a3, a4⟩ : (decD 5 n).all digB = true ∧ decD 5 n ≠ [] ∧ ((decD 5 n).getD 0 0).toNat ≠ 48 ∧ numV (decD 5 n) = (n : Int) := decD_ok 4 n (by omega) h1
  have hl := decD_len 5 n
  have h0 : 1 ≤ (decD 5 n).length := List.length_pos_iff.2 a2
  refine ⟨by rw [atoi_dig _ a2 (by omega) a1]; exact a4, ?_, a4⟩
  unfold numOk
  rw [a1, decide_eq_true ⟨h0, by omega, fun e => a3 e.2⟩]
  rfl
end Go.Proofs.YtdhochjcigingaaDoor
