/- An own row, as SortFunc and Compact take it. -/
import Derived.Test.YtcppmkimfoajaaaNdN
import Derived.Test.YtcppmkimfoajaaaNdM
namespace Go.Proofs.Ytcppmkimfoajaaa
open Go.RowKit
set_option linter.all false

theorem flatK_flatR (L : List Rq) : ∀ t, t < L.length * 2 → (flatR L)[t]? = some (Go.Sort.flatK encR 2 L.toArray)[t]! := by
  intro t ht
  rw [Go.Sort.get_flatK _ _ _ t (by simpa using ht)]
  have hj : t / 2 < L.length := by omega
  obtain ⟨e1, e2⟩ := flatR_get L (t / 2) hj
  have hg : L.toArray[t / 2]! = L.getD (t / 2) rq0 := by
    simp [List.getD, hj]
  rw [hg]
  rcases Nat.mod_two_eq_zero_or_one t with h0 | h0
  · rw [show t / 2 * 2 = t by omega] at e1
    rw [e1, h0]; rfl
  · rw [show t / 2 * 2 + 1 = t by omega] at e2
    rw [e2, h0]; rfl
theorem rowR_of_own {W : World} {base n : Nat} {v : Value} {L : List Rq} (h : W.ownsRow base 120 2 v n (flatR L)) (hn : L.length = n) (h0 : 0 < n) : ∃ q c, v = .slice (some ⟨q, 0, none⟩) n c ∧ n ≤ c ∧ base ≤ q ∧ q < W.heap.size ∧ RowR W q L.toArray := by
  rcases h.2 with ⟨hv, h1⟩ | ⟨q, cap, cur, hv, hbq, hh, hc, hr⟩
  · omega
  · have hlt : q < W.heap.size := (h.lt q (by rw [hv]; rfl)).2
    refine ⟨q, cap, hv, hc, hbq, hlt, fun t ht => ?_⟩
    rw [Go.Sort.size_flatK] at ht
    have ht' : t < n * 2 := by simpa [hn] using ht
    have e := flatK_flatR L t (by rw [hn]; exact ht')
    have hc := h
    rw [hv] at hc
    refine ⟨?_, ?_⟩
    · rw [Nat.zero_add, hc.cellAt _ ht', e]; rfl
    · simp [World.frozen?, hh]
end Go.Proofs.Ytcppmkimfoajaaa
