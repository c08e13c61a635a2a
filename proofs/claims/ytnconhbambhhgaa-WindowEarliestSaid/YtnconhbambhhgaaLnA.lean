/- move.Has; the days of a good calendar. -/
import Derived.Test.YtnconhbambhhgaaLdE
import Derived.Test.YtnconhbambhhgaaCalE
namespace Go.Proofs.Ytnconhbambhhgaa
open Go.RowKit
set_option linter.all false

theorem days_of {f t : Int} (h : noDays f t = false) : 0 ≤ f ∧ f < t := by
  unfold noDays at h
  simp only [Bool.or_eq_false_iff, decide_eq_false_iff_not] at h
  omega
/-- Days, one behind the other. -/
def DaysOk (L : List Win) : Prop := (∀ j, j < L.length → (L.getD j win0).from_ < (L.getD j win0).to_) ∧ AscW L
theorem asc_chain {L : List Win} (h : DaysOk L) : ∀ j, j < L.length → ∀ i, i < j → (L.getD i win0).to_ ≤ (L.getD j win0).from_ := by
  intro j
  induction j with
  | zero => intro _ i hi; omega
  | succ j ih =>
    intro hj i hi
    have h1 := h.2 j hj
    rcases Nat.lt_or_ge i j with h' | h'
    · have h2 := ih (by omega) i h'
      have h3 := h.1 j (by omega)
      omega
    · obtain rfl : i = j := by omega
      exact h1
/-- The next day is one on which the team may work. -/
theorem next_may {n team r : Int} {L : List Win} {T : Nat → List Int} (hD : DaysOk L) (h : FirstR n team L T r true) : mayF L T r team = true := by
  rcases h with ⟨_, h, _⟩ | ⟨j, hj, hr, _, hok, _⟩
  · cases h
  · unfold okW at hok
    simp only [Bool.and_eq_true, decide_eq_true_eq] at hok
    have hjt := hD.1 j hj
    have hF : FindR r L (j : Int) := by
      refine .inr ⟨j, rfl, hj, ?_, fun i hi => ?_⟩
      · unfold inD
        rw [decide_eq_true (by omega), decide_eq_true (by omega)]; rfl
      · have := asc_chain hD j hj i hi
        unfold inD
        rw [decide_eq_false (show ¬ r < (L.getD i win0).to_ by omega), Bool.and_false]
    rcases findR_fi hF with ⟨h1, _⟩ | ⟨h1, h2⟩
    · omega
    · have h3 : fi r L = j := by omega
      unfold mayF
      rw [h3, decide_eq_true hj, hok.2]; rfl
/-- On no day before it may the team work. -/
theorem next_first {n team r k : Int} {L : List Win} {T : Nat → List Int} {ok : Bool} (hD : DaysOk L) (h : FirstR n team L T r ok) (hk : n ≤ k) (hm : mayF L T k team = true) : ok = true ∧ r ≤ k := by
  unfold mayF at hm
  simp only [Bool.and_eq_true, decide_eq_true_eq] at hm
  obtain ⟨hf, hb⟩ := hm
  have hin := fi_get hf
  unfold inD at hin
  simp only [Bool.and_eq_true, decide_eq_true_eq] at hin
  have hok : okW n team L T (fi k L) = true := by
    unfold okW
    rw [decide_eq_true (by omega), hb]; rfl
  rcases h with ⟨_, _, h⟩ | ⟨j, hj, hr, ho, _, hbef⟩
  · rw [h _ hf] at hok; cases hok
  · refine ⟨ho, ?_⟩
    rcases Nat.lt_trichotomy j (fi k L) with h' | h' | h'
    · have := asc_chain hD _ hf j h'
      have := hD.1 j hj
      omega
    · rw [h'] at hr; omega
    · rw [hbef _ h'] at hok; cases hok
end Go.Proofs.Ytnconhbambhhgaa
