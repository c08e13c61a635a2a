/- What the places of changes are. -/
import Derived.Test.YtogcpjkgliijmaaChanged
namespace Go.Proofs.Ytogcpjkgliijmaa
open Go.RowKit

theorem chg_kind (l : List Dec) (k s : Int) : ∀ m, ∀ x ∈ chg l k s m, (l.getD x dz).kind = k ∧ (l.getD x dz).subj = s := by
  intro m
  induction m with
  | zero => intro x h; cases h
  | succ m ih =>
    intro x h
    unfold chg at h
    split at h
    · rename_i hc
      rcases List.mem_append.1 h with h | h
      · exact ih x h
      · have : x = m := by simpa using h
        subst this
        exact ⟨hc.1, hc.2.1⟩
    · exact ih x h

/-- The last place has the latest value. -/
theorem chg_latest (l : List Dec) (k s : Int) : ∀ m, m ≤ l.length → (latestK l k s m = none ∧ chg l k s m = []) ∨ ∃ d cc x, latestK l k s m = some d ∧ chg l k s m = cc ++ [x] ∧ (l.getD x dz).value = d.value := by
  intro m
  induction m with
  | zero => intro _; exact .inl ⟨rfl, rfl⟩
  | succ m ih =>
    intro hm
    have hl := latestK_succ (l := l) (k := k) (s := s) (m := m) (by omega)
    have e : l.getD m dz = l[m] := by have : m < l.length := by omega
                                      simp [List.getD, this]
    by_cases hc : l[m].kind = k ∧ l[m].subj = s
    · rw [if_pos hc] at hl
      refine .inr ⟨l[m], ?_⟩
      rcases ih (by omega) with ⟨_, h0⟩ | ⟨d, cc, x, _, h0, _⟩
      · exact ⟨[], m, hl, by rw [chg_first (by omega) hc.1 hc.2 h0]; rfl, by rw [e]⟩
      · have hx := chg_lt l k s m x (by rw [h0]; simp)
        have hst := chg_more (l := l) (k := k) (s := s) (m := m) (by omega) hc.1 hc.2 h0 (by omega)
        have ex : l.getD x dz = l[x] := by have : x < l.length := by omega
                                           simp [List.getD, this]
        by_cases hv : l[x].value = l[m].value
        · rw [if_pos hv] at hst
          exact ⟨cc, x, hl, hst, by rw [ex]; exact hv⟩
        · rw [if_neg hv] at hst
          exact ⟨cc ++ [x], m, hl, hst, by rw [e]⟩
    · rw [if_neg hc] at hl
      rw [hl, chg_no (by omega) hc]
      exact ih (by omega)

/-- Neighbours. -/
theorem chg_next (l : List Dec) (k s : Int) : ∀ m, m ≤ l.length → ∀ (cc dd : List Nat) (x y : Nat), chg l k s m = cc ++ x :: y :: dd → x < y ∧ (l.getD x dz).value ≠ (l.getD y dz).value := by
  intro m
  induction m with
  | zero => intro _ cc dd x y h; simp [chg] at h
  | succ m ih =>
    intro hm cc dd x y h
    unfold chg at h
    split at h
    · rename_i hc
      rcases List.eq_nil_or_concat dd with hd | ⟨d2, z, hd⟩
      · subst hd
        have h2 : chg l k s m ++ [m] = (cc ++ [x]) ++ [y] := by rw [h]; simp
        obtain ⟨h3, h4⟩ := List.append_inj' h2 rfl
        have h5 : m = y := by simpa using h4
        subst h5
        have hx := chg_lt l k s m x (by rw [h3]; simp)
        refine ⟨hx, ?_⟩
        rcases hc.2.2 with h6 | h6
        · rw [h6] at h3; simp at h3
        · rw [h3, List.getLastD_concat] at h6; exact h6
      · rw [List.concat_eq_append] at hd
        subst hd
        have h2 : chg l k s m ++ [m] = (cc ++ x :: y :: d2) ++ [z] := by rw [h]; simp
        obtain ⟨h3, _⟩ := List.append_inj' h2 rfl
        exact ih (by omega) cc d2 x y h3
    · exact ih (by omega) cc dd x y h

theorem chg_at {l : List Dec} {k s : Int} {m : Nat} (hm : m ≤ l.length) (i : Nat) (hi : i + 1 < (chg l k s m).length) :
    (chg l k s m)[i] < (chg l k s m)[i + 1] ∧ (l.getD (chg l k s m)[i] dz).value ≠ (l.getD (chg l k s m)[i + 1] dz).value := by
  refine chg_next l k s m hm ((chg l k s m).take i) ((chg l k s m).drop (i + 2)) _ _ ?_
  conv => lhs; rw [← List.take_append_drop i (chg l k s m)]
  rw [List.drop_eq_getElem_cons (by omega), List.drop_eq_getElem_cons (by omega)]
end Go.Proofs.Ytogcpjkgliijmaa
