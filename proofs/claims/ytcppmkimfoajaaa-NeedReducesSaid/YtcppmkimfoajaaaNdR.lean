/- Compact of an ascending row: the ascending row with the same members. -/
import Derived.Test.YtcppmkimfoajaaaNdK
import Derived.Test.YtcppmkimfoajaaaNdE
import Derived.Sort.Statements
namespace Go.Proofs.Ytcppmkimfoajaaa
open Go.Lib Go.Sort
set_option linter.all false

theorem upTo_mem (d : Array Rq) (m : Nat) (x : Rq) : x ∈ compactUpTo d m ↔ ∃ j, j < m ∧ d[j]! = x := by
  induction m with
  | zero => simp [compactUpTo]
  | succ m ih =>
    rw [compactUpTo_succ, List.mem_append, ih]
    constructor
    · rintro (⟨j, hj, e⟩ | h)
      · exact ⟨j, by omega, e⟩
      · by_cases hk : keeps d m = true
        · rw [if_pos hk, List.mem_singleton] at h
          exact ⟨m, by omega, h.symm⟩
        · rw [if_neg hk] at h; cases h
    · rintro ⟨j, hj, e⟩
      by_cases hjm : j < m
      · exact .inl ⟨j, hjm, e⟩
      · have : j = m := by omega
        subst this
        by_cases hk : keeps d j = true
        · rw [if_pos hk]; exact .inr (by rw [e]; exact List.mem_singleton.2 rfl)
        · have hk' := hk
          unfold keeps at hk'
          simp only [decide_eq_true_eq, not_or, Decidable.not_not] at hk'
          exact .inl ⟨j - 1, by omega, by rw [← hk'.2, e]⟩
theorem upTo_asc (d : Array Rq) (n : Nat) (h : SortedIn lessB 0 n d) : ∀ m, m ≤ n → AscR (compactUpTo d m) := by
  intro m
  induction m with
  | zero => intro _; simp [compactUpTo, AscR]
  | succ m ih =>
    intro hm
    rw [compactUpTo_succ]
    by_cases hk : keeps d m = true
    · rw [if_pos hk]
      unfold AscR
      rw [List.pairwise_append]
      refine ⟨ih (by omega), by simp, fun x hx y hy => ?_⟩
      rw [List.mem_singleton] at hy
      subst hy
      obtain ⟨j, hj, e⟩ := (upTo_mem d m x).1 hx
      subst e
      have hne : d[m]! ≠ d[m - 1]! := by
        unfold keeps at hk
        simp only [decide_eq_true_eq] at hk
        rcases hk with h0 | h0
        · omega
        · exact h0
      have h1 := h (m - 1) m (by omega) (by omega) (by omega)
      have hl : lessB d[m - 1]! d[m]! = true := by
        rcases less_tri d[m - 1]! d[m]! with a | a | a
        · exact a
        · exact absurd a.symm hne
        · rw [h1] at a; cases a
      by_cases e : j = m - 1
      · rw [e]; exact hl
      · have h2 := h j (m - 1) (by omega) (by omega) (by omega)
        rcases less_tri d[j]! d[m - 1]! with a | a | a
        · exact less_trans a hl
        · rw [a]; exact hl
        · rw [h2] at a; cases a
    · rw [if_neg hk, List.append_nil]
      exact ih (by omega)
end Go.Proofs.Ytcppmkimfoajaaa
