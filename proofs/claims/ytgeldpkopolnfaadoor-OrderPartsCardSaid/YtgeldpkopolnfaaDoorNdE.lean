/- Ascending rows of requirements are sets (plain mathematics). -/
import Derived.Test.YtgeldpkopolnfaaDoorNdD
namespace Go.Proofs.YtgeldpkopolnfaaDoor
set_option linter.all false

theorem less_irrefl (a : Rq) : lessB a a = false := by
  unfold lessB
  rw [if_pos rfl]
  exact decide_eq_false (by omega)
theorem less_iff (a b : Rq) : lessB a b = true ↔ (a.1 < b.1 ∨ a.1 = b.1 ∧ a.2 < b.2) := by
  unfold lessB
  split
  · rename_i h
    rw [decide_eq_true_eq]
    omega
  · rename_i h
    rw [decide_eq_true_eq]
    omega
theorem less_trans {a b c : Rq} (h1 : lessB a b = true) (h2 : lessB b c = true) : lessB a c = true := by
  rw [less_iff] at *
  omega
theorem less_tri (a b : Rq) : lessB a b = true ∨ a = b ∨ lessB b a = true := by
  rw [less_iff, less_iff]
  obtain ⟨x, y⟩ := a
  obtain ⟨z, u⟩ := b
  simp only [Prod.mk.injEq]
  omega
/-- Strictly ascending. -/
def AscR (L : List Rq) : Prop := L.Pairwise fun a b => lessB a b = true
theorem AscR.nil : AscR [] := List.Pairwise.nil

theorem take_less {L : List Rq} {r : Rq} : ∀ x ∈ L.take (atR L r), lessB x r = true := by
  intro x hx
  obtain ⟨j, hj, rfl⟩ := List.getElem_of_mem hx
  rw [List.length_take] at hj
  have h1 : j < atR L r := by omega
  rw [List.getElem_take]
  have := List.not_of_lt_findIdx (p := fun x => !lessB x r) (xs := L) (i := j) h1
  simpa using this
theorem drop_not_less {L : List Rq} {r : Rq} (h : AscR L) : ∀ x ∈ L.drop (atR L r), lessB x r = false := by
  intro x hx
  obtain ⟨j, hj, rfl⟩ := List.getElem_of_mem hx
  rw [List.length_drop] at hj
  have hat : atR L r < L.length := by omega
  have h0 : lessB (L[atR L r]) r = false := by
    have := List.findIdx_getElem (p := fun x => !lessB x r) (xs := L) (w := hat)
    simp only [Bool.not_eq_true'] at this
    exact this
  rw [List.getElem_drop]
  cases hlt : lessB (L[atR L r + j]) r with
  | false => rfl
  | true =>
    rcases Nat.eq_zero_or_pos j with hj0 | hj0
    · subst hj0
      simp only [Nat.add_zero] at hlt
      rw [h0] at hlt; cases hlt
    · have hp := List.pairwise_iff_getElem.1 h (atR L r) (atR L r + j) hat (by omega) (by omega)
      rw [less_trans hp hlt] at h0; cases h0
theorem putL_asc {L : List Rq} {r : Rq} (h : AscR L) : AscR (putL L r) := by
  unfold putL
  split
  · exact h
  · rename_i hne
    have hsplit := List.take_append_drop (atR L r) L
    have h1 : AscR (L.take (atR L r)) := List.Pairwise.sublist (List.take_sublist _ _) h
    have h2 : AscR (L.drop (atR L r)) := List.Pairwise.sublist (List.drop_sublist _ _) h
    have hcross : ∀ a ∈ L.take (atR L r), ∀ b ∈ L.drop (atR L r), lessB a b = true := by
      have hp : (L.take (atR L r) ++ L.drop (atR L r)).Pairwise fun a b => lessB a b = true := by rw [hsplit]; exact h
      exact (List.pairwise_append.1 hp).2.2
    have hr : ∀ b ∈ L.drop (atR L r), lessB r b = true := by
      intro b hb
      rcases less_tri b r with h3 | h3 | h3
      · rw [drop_not_less h b hb] at h3; cases h3
      · exfalso
        subst h3
        obtain ⟨j, hj, he⟩ := List.getElem_of_mem hb
        rw [List.length_drop] at hj
        rw [List.getElem_drop] at he
        have hat : atR L b < L.length := by omega
        rcases Nat.eq_zero_or_pos j with hj0 | hj0
        · subst hj0
          simp only [Nat.add_zero] at he
          refine hne ⟨hat, ?_⟩
          rw [List.getD, List.getElem?_eq_getElem hat]
          exact he
        · have hp := List.pairwise_iff_getElem.1 h (atR L b) (atR L b + j) hat (by omega) (by omega)
          rw [he] at hp
          have h4 : lessB (L[atR L b]) b = false := drop_not_less h _ (by
            rw [List.mem_iff_getElem]
            exact ⟨0, by rw [List.length_drop]; omega, by rw [List.getElem_drop]; rfl⟩)
          rw [hp] at h4; cases h4
      · exact h3
    refine List.pairwise_append.2 ⟨List.pairwise_append.2 ⟨h1, List.pairwise_singleton _ _, fun a ha b hb => ?_⟩, h2, fun a ha b hb => ?_⟩
    · rw [List.mem_singleton] at hb
      subst hb
      exact take_less a ha
    · rw [List.mem_append, List.mem_singleton] at ha
      rcases ha with ha | rfl
      · exact hcross a ha b hb
      · exact hr b hb
theorem putL_mem {L : List Rq} {r : Rq} (x : Rq) : x ∈ putL L r ↔ x ∈ L ∨ x = r := by
  unfold putL
  split
  · rename_i h
    constructor
    · exact .inl
    · rintro (h1 | rfl)
      · exact h1
      · have := h.2
        rw [List.getD, List.getElem?_eq_getElem h.1] at this
        simp only [Option.getD_some] at this
        exact this ▸ List.getElem_mem _
  · have hsplit := List.take_append_drop (atR L r) L
    rw [List.mem_append, List.mem_append, List.mem_singleton]
    conv => rhs; rw [← hsplit, List.mem_append]
    constructor
    · rintro ((h | h) | h)
      · exact .inl (.inl h)
      · exact .inr h
      · exact .inl (.inr h)
    · rintro ((h | h) | h)
      · exact .inl (.inl h)
      · exact .inr h
      · exact .inl (.inr h)
theorem foldP_asc {L M : List Rq} (h : AscR L) : AscR (foldP L M) := by
  unfold foldP
  induction M generalizing L with
  | nil => exact h
  | cons x M ih => exact ih (putL_asc h)
theorem foldP_mem {L M : List Rq} (x : Rq) : x ∈ foldP L M ↔ x ∈ L ∨ x ∈ M := by
  unfold foldP
  induction M generalizing L with
  | nil => simp
  | cons y M ih =>
    rw [List.foldl_cons, ih, putL_mem, List.mem_cons]
    constructor
    · rintro ((h | h) | h)
      · exact .inl h
      · exact .inr (.inl h)
      · exact .inr (.inr h)
    · rintro (h | h | h)
      · exact .inl (.inl h)
      · exact .inl (.inr h)
      · exact .inr h
/-- Two ascending rows with the same members are one. -/
theorem asc_ext {L M : List Rq} (hL : AscR L) (hM : AscR M) (h : ∀ x, x ∈ L ↔ x ∈ M) : L = M := by
  induction L generalizing M with
  | nil =>
    cases M with
    | nil => rfl
    | cons y M => exact absurd ((h y).2 (List.mem_cons_self ..)) (by simp)
  | cons x L ih =>
    cases M with
    | nil => exact absurd ((h x).1 (List.mem_cons_self ..)) (by simp)
    | cons y M =>
      have hL' := List.pairwise_cons.1 hL
      have hM' := List.pairwise_cons.1 hM
      have hxy : x = y := by
        have h1 := (h x).1 (List.mem_cons_self ..)
        have h2 := (h y).2 (List.mem_cons_self ..)
        rcases List.mem_cons.1 h1 with e | h1
        · exact e
        · rcases List.mem_cons.1 h2 with e | h2
          · exact e.symm
          · have a1 := hM'.1 x h1
            have a2 := hL'.1 y h2
            have := less_trans a1 a2
            rw [less_irrefl] at this; cases this
      subst hxy
      congr 1
      refine ih hL'.2 hM'.2 fun z => ?_
      have hz := h z
      constructor
      · intro hzL
        rcases List.mem_cons.1 (hz.1 (List.mem_cons_of_mem _ hzL)) with e | h1
        · subst e
          have := hL'.1 z hzL
          rw [less_irrefl] at this; cases this
        · exact h1
      · intro hzM
        rcases List.mem_cons.1 (hz.2 (List.mem_cons_of_mem _ hzM)) with e | h1
        · subst e
          have := hM'.1 z hzM
          rw [less_irrefl] at this; cases this
        · exact h1
theorem unionL_asc (L M : List Rq) : AscR (unionL L M) := foldP_asc (foldP_asc AscR.nil)
theorem unionL_mem {L M : List Rq} (x : Rq) : x ∈ unionL L M ↔ x ∈ L ∨ x ∈ M := by
  unfold unionL
  rw [foldP_mem, foldP_mem]
  simp
end Go.Proofs.YtgeldpkopolnfaaDoor
