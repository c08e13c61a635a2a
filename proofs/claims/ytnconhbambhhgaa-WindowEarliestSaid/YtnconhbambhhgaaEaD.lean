/- The day that Earliest names, and the days before it. -/
import Derived.Test.YtnconhbambhhgaaEaC
import Derived.Test.YtnconhbambhhgaaLnA
import Derived.Test.YtnconhbambhhgaaFlC
namespace Go.Proofs.Ytnconhbambhhgaa
open Go.RowKit
set_option linter.all false

theorem earl_may {d r : Int} {team : Nat} {L : List Win} {T : Nat → List Int} {R TS DS : List Int} (hD : DaysOk L) (h : FirstHR (roomF L TS DS R team) d (team : Int) L T r true) : goodF L T R TS DS team r = true ∧ d ≤ r ∧ ∃ j, j < L.length ∧ r < (L.getD j win0).to_ := by
  rcases h with ⟨_, h, _⟩ | ⟨j, hj, hr, _, hok, _⟩
  · cases h
  · unfold okH okW roomF at hok
    simp only [Bool.and_eq_true, decide_eq_true_eq] at hok
    obtain ⟨⟨hok1, hok2⟩, hok3⟩ := hok
    have hjt := hD.1 j hj
    have hF : FindR r L (j : Int) := by
      refine .inr ⟨j, rfl, hj, ?_, fun i hi => ?_⟩
      · unfold inD
        rw [decide_eq_true (by omega), decide_eq_true (by omega)]; rfl
      · have := asc_chain hD j hj i hi
        unfold inD
        rw [decide_eq_false (show ¬ r < (L.getD i win0).to_ by omega), Bool.and_false]
    rcases findR_fi hF with ⟨h1, _⟩ | ⟨h1, h2⟩
    · omega
    · have h3 : fi r L = j := by omega
      refine ⟨?_, by omega, j, hj, by omega⟩
      unfold goodF mayF
      rw [h3, decide_eq_true hj, hok2, decide_eq_true hok3]; rfl
theorem earl_first {d r k : Int} {team : Nat} {L : List Win} {T : Nat → List Int} {R TS DS : List Int} {ok : Bool} (hD : DaysOk L) (h : FirstHR (roomF L TS DS R team) d (team : Int) L T r ok) (hk : d ≤ k) (hm : goodF L T R TS DS team k = true) : ok = true ∧ r ≤ k := by
  unfold goodF mayF at hm
  simp only [Bool.and_eq_true, decide_eq_true_eq] at hm
  obtain ⟨⟨hf, hb⟩, hc⟩ := hm
  have hin := fi_get hf
  unfold inD at hin
  simp only [Bool.and_eq_true, decide_eq_true_eq] at hin
  have hok : okH (roomF L TS DS R team) d (team : Int) L T (fi k L) = true := by
    unfold okH okW roomF
    rw [decide_eq_true (by omega), hb, decide_eq_true hc]; rfl
  rcases h with ⟨_, _, h⟩ | ⟨j, hj, hr, ho, _, hbef⟩
  · rw [h _ hf] at hok; cases hok
  · refine ⟨ho, ?_⟩
    rcases Nat.lt_trichotomy j (fi k L) with h' | h' | h'
    · have := asc_chain hD _ hf j h'
      have := hD.1 j hj
      omega
    · rw [h'] at hr; omega
    · rw [hbef _ h'] at hok; cases hok
/-- The days behind 'd', one after another: none fits before the one that is named. -/
theorem earl_before {d r k : Int} {team : Nat} {L : List Win} {T : Nat → List Int} {R TS DS : List Int} {ok : Bool} (hD : DaysOk L) (h : FirstHR (roomF L TS DS R team) d (team : Int) L T r ok) (hk : d ≤ k) (hb : ok = true → k < r) : goodF L T R TS DS team k = false := by
  cases hg : goodF L T R TS DS team k with
  | false => rfl
  | true =>
    obtain ⟨h1, h2⟩ := earl_first hD h hk hg
    have := hb h1; omega

theorem early_heavy (w : World) (a : Option Addr) (n c : Nat) (x : Int) (h : decide (n ≤ 400) = false) :
    Calls Try.prog 4 #[.slice a n c, .int .u8 x] w (BoolP true w) := by
  have CL := Lib.hid (light_any a n c false w h)
  clear h
  go_enter Try.func4, Try.ntmps4
  go_wp2_with fail
  refine (CL.out).mono ?_
  rintro e w1 ⟨rfl, rfl⟩
  have CA := Lib.hid (awake_any w1)
  clear CL
  go_wp2_with fail
  refine (CA.out).mono ?_
  rintro e w2 ⟨rfl, hb⟩
  have HB := Lib.hid hb; clear hb
  go_wp2_with fail
  go_ret
  exact ⟨rfl, HB.out⟩
end Go.Proofs.Ytnconhbambhhgaa
