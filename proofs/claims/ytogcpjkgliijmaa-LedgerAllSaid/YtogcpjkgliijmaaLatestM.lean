/- Plain mathematics for LedgerLatest. -/
import Derived.Test.YtogcpjkgliijmaaLatest
import Derived.Test.YtogcpjkgliijmaaAddX
namespace Go.Proofs.Ytogcpjkgliijmaa

theorem lastOf_all {l : List Dec} (h : 0 < l.length) : lastOf l l.length = some (l.getLastD dz) := by
  unfold lastOf
  rw [List.take_of_length_le (Nat.le_refl _), getLastD_eq h, List.getLast?_eq_getElem?, List.getElem?_eq_getElem (by omega)]

theorem addN_ok {l : List Dec} {d : Dec} (hl : l.length ≤ 127) (hd : d.ok = true) (h1 : (l.getLastD dz).day ≤ d.day) (h2 : (l.getLastD dz).known ≤ d.known) : addN l d = 0 := by
  unfold addN
  rw [if_neg (by omega)]
  rcases Nat.eq_zero_or_pos l.length with h0 | h0
  · rw [h0, lastOf_zero]; exact foll_none hd
  · rw [lastOf_all h0, foll_some hd, if_neg]
    simp only [Bool.or_eq_true, decide_eq_true_eq]; omega

theorem latest_new {l : List Dec} {d : Dec} (hg : Good (l ++ [d])) : latestK (l ++ [d]) d.kind d.subj (cutN (l ++ [d]) d.day) = some d := by
  have hlen : (l ++ [d]).length = l.length + 1 := by simp
  have e : (l ++ [d])[l.length]'(by omega) = d := by simp
  have h1 := (cutN_good hg d.day l.length (by omega)).2 (by rw [e]; exact Int.le_refl _)
  have h2 := cutN_le (l ++ [d]) d.day
  have h3 : cutN (l ++ [d]) d.day = l.length + 1 := by omega
  rw [h3, latestK_succ (by omega), e, if_pos ⟨rfl, rfl⟩]

/-- One step of looking for the last one from the front. -/
theorem latest_front {l : List Dec} (hg : Good l) (k s day : Int) (j : Nat) (hj : j < l.length) :
    latestK l k s (min (j + 1) (cutN l day)) = if l[j].kind = k ∧ l[j].subj = s ∧ l[j].day ≤ day then some l[j] else latestK l k s (min j (cutN l day)) := by
  have hc := cutN_good hg day j hj
  by_cases hd : l[j].day ≤ day
  · have := hc.2 hd
    rw [Nat.min_eq_left (by omega), Nat.min_eq_left (by omega), latestK_succ hj]
    by_cases hk : l[j].kind = k ∧ l[j].subj = s
    · rw [if_pos hk, if_pos ⟨hk.1, hk.2, hd⟩]
    · rw [if_neg hk, if_neg (fun h => hk ⟨h.1, h.2.1⟩)]
  · have : cutN l day ≤ j := by
      rcases Nat.lt_or_ge j (cutN l day) with h | h
      · exact absurd (hc.1 h) hd
      · exact h
    rw [Nat.min_eq_right (by omega), Nat.min_eq_right (by omega), if_neg (fun h => hd h.2.2)]
end Go.Proofs.Ytogcpjkgliijmaa
