/- Lists of decisions in order: plain mathematics, and how they lie in a row of cells. -/
import Derived.Test.YtogcpjkgliijmaaCheck
import Derived.Laws.OwnMore
namespace Go.Proofs.Ytogcpjkgliijmaa
open Go.RowKit

def dz : Dec := ⟨0, 0, 0, 0, 0⟩

/-- Valid decisions in order. -/
def Good (l : List Dec) : Prop := (∀ i (h : i < l.length), l[i].ok = true) ∧ ∀ i j (hj : j < l.length) (hij : i ≤ j), l[i].day ≤ l[j].day ∧ l[i].known ≤ l[j].known

theorem Good.nil : Good [] := ⟨fun i h => by simp at h, fun i j h => by simp at h⟩

theorem getLastD_eq {l : List Dec} (h : 0 < l.length) : l.getLastD dz = l[l.length - 1] := by
  rw [List.getLastD_eq_getLast?, List.getLast?_eq_getElem?, List.getElem?_eq_getElem (by omega)]; rfl

theorem Good.snoc {l : List Dec} {d : Dec} (h : Good l) (hd : d.ok = true) (h1 : (l.getLastD dz).day ≤ d.day) (h2 : (l.getLastD dz).known ≤ d.known) : Good (l ++ [d]) := by
  refine ⟨fun i hi => ?_, fun i j hj hij => ?_⟩
  · by_cases hl : i < l.length
    · rw [List.getElem_append_left hl]; exact h.1 i hl
    · have : i = l.length := by simp at hi; omega
      subst this; simpa using hd
  · by_cases hl : j < l.length
    · rw [List.getElem_append_left hl, List.getElem_append_left (by omega)]; exact h.2 i j hl hij
    · have : j = l.length := by simp at hj; omega
      subst this
      by_cases hi : i < l.length
      · have hlast := h.2 i (l.length - 1) (by omega) (by omega)
        rw [getLastD_eq (by omega)] at h1 h2
        have e : (l ++ [d])[l.length] = d := by simp
        rw [List.getElem_append_left hi, e]
        omega
      · have : i = l.length := by omega
        subst this; omega

theorem chk_drop {l : List Dec} (h : Good l) : ∀ n k, k + n = l.length → chk (lastOf l k) (l.drop k) = 0 := by
  intro n
  induction n with
  | zero => intro k hk; rw [List.drop_of_length_le (by omega)]; rfl
  | succ n ih =>
    intro k hk
    have hf : foll (lastOf l k) l[k] = 0 := by
      rcases Nat.eq_zero_or_pos k with h0 | h0
      · subst h0; rw [lastOf_zero]; exact foll_none (h.1 _ _)
      · obtain ⟨m, rfl⟩ : ∃ m, k = m + 1 := ⟨k - 1, by omega⟩
        rw [lastOf_succ l m (by omega), foll_some (h.1 _ _)]
        have := h.2 m (m + 1) (by omega) (by omega)
        rw [if_neg]
        simp only [Bool.or_eq_true, decide_eq_true_eq]; omega
    rw [chk_step l k (by omega), if_pos hf]
    exact ih (k + 1) (by omega)

theorem chk_good {l : List Dec} (h : Good l) : chk none l = 0 := by
  have := chk_drop h l.length 0 (by omega)
  rw [lastOf_zero] at this; exact this

/-- The cells of a decision, of decisions. -/
def cells5 (d : Dec) : List Value := [.int .i64 d.day, .int .i64 d.known, .int .i64 d.kind, .int .i64 d.subj, .int .i64 d.value]
def flat (l : List Dec) : List Value := l.flatMap cells5
theorem flat_snoc (l : List Dec) (d : Dec) : flat (l ++ [d]) = flat l ++ cells5 d := by simp [flat]
theorem flat_len (l : List Dec) : (flat l).length = l.length * 5 := by
  induction l with
  | nil => rfl
  | cons d l ih => simp only [flat, List.flatMap_cons, List.length_append, List.length_cons] at ih ⊢; rw [ih]; simp only [cells5, List.length_cons, List.length_nil]; omega
theorem flat_one (l : List Dec) : ∀ u ∈ flat l, u.oneCell' = true := by
  intro u hu
  simp only [flat, List.mem_flatMap] at hu
  obtain ⟨d, _, hd⟩ := hu
  simp only [cells5, List.mem_cons, List.not_mem_nil, or_false] at hd
  rcases hd with rfl | rfl | rfl | rfl | rfl <;> rfl
theorem flat_get (l : List Dec) : ∀ j (h : j < l.length) (i : Nat), i < 5 → (flat l)[j * 5 + i]? = (cells5 l[j])[i]? := by
  induction l with
  | nil => intro j h; simp at h
  | cons d l ih =>
    intro j h i hi
    have e : flat (d :: l) = cells5 d ++ flat l := by simp [flat]
    rw [e]
    cases j with
    | zero => rw [List.getElem?_append_left (by simp only [cells5, List.length_cons, List.length_nil]; omega)]; simp
    | succ j =>
      rw [List.getElem?_append_right (by simp only [cells5, List.length_cons, List.length_nil]; omega)]
      have e2 : (j + 1) * 5 + i - (cells5 d).length = j * 5 + i := by simp only [cells5, List.length_cons, List.length_nil]; omega
      rw [e2, ih j (by simpa using h) i hi]; simp

/-- A row of the call's own reads as decisions. -/
theorem row_of_own {w : World} {base g cap : Nat} {e : TypeId} {l : List Dec} (h : w.ownsRow base e 5 (.slice (some ⟨g, 0, none⟩) l.length cap) l.length (flat l)) : Row w g 0 l := by
  have key : ∀ j (hj : j < l.length) i, i < 5 → w.cell? ⟨g, 0 + j * 5 + i, none⟩ = (cells5 l[j])[i]? := by
    intro j hj i hi
    rw [Nat.zero_add, h.cellAt (j * 5 + i) (by omega), flat_get l j hj i hi]
  intro j hj
  exact ⟨key j hj 0 (by omega), key j hj 1 (by omega), key j hj 2 (by omega), key j hj 3 (by omega), key j hj 4 (by omega)⟩

/-- The cells of a row, as the law of append asks for them. -/
theorem cells_of_row {w : World} {b o : Nat} {l : List Dec} (h : Row w b o l) : ∀ j u, (flat l)[j]? = some u → w.cell? ((⟨b, o, none⟩ : Addr).add j) = some u := by
  intro j u hu
  have hj : j < l.length * 5 := by
    have := (List.getElem?_eq_some_iff.1 hu).1
    rw [flat_len] at this; exact this
  have hadd : (⟨b, o, none⟩ : Addr).add j = ⟨b, o + j, none⟩ := by unfold Addr.add; split <;> simp_all
  rw [hadd]
  have e : j = j / 5 * 5 + j % 5 := by omega
  have hq : j / 5 < l.length := by omega
  have hr : j % 5 < 5 := by omega
  rw [e, flat_get l (j / 5) hq (j % 5) hr] at hu
  obtain ⟨h0, h1, h2, h3, h4⟩ := h (j / 5) hq
  rw [show o + j = o + j / 5 * 5 + j % 5 from by omega]
  generalize j % 5 = r at hu hr ⊢
  match r, hr with
  | 0, _ => rw [← hu]; exact h0
  | 1, _ => rw [← hu]; exact h1
  | 2, _ => rw [← hu]; exact h2
  | 3, _ => rw [← hu]; exact h3
  | 4, _ => rw [← hu]; exact h4
end Go.Proofs.Ytogcpjkgliijmaa
