/- move.Has; the days of a good calendar. -/
import Derived.Test.YtcppmkimfoajaaaLdE
import Derived.Test.YtcppmkimfoajaaaCalE
namespace Go.Proofs.Ytcppmkimfoajaaa
open Go.RowKit
set_option linter.all false

set_option maxRecDepth 100000 in
set_option maxHeartbeats 2000000 in
theorem moveHas_any (a : Option Addr) (cc : Nat) (L : List Int) (x : Int) (w : World) (hl : L.length ≤ 1000) (hL : TeamsAt w a L) : Calls Try.prog 28 #[.slice a L.length cc, .int .i64 x] w fun e w' => e = .returned (.bool (hasB x L)) ∧ w = w' := by
  have HL := Lib.hid hL
  obtain ⟨N, hN⟩ : ∃ N, L.length = N := ⟨_, rfl⟩
  have HN := Lib.hid hN
  rw [hN] at hl ⊢
  clear hL hN
  go_enter Try.func28, Try.ntmps28
  go_wp2_with fail
  go_loopw [6, 9] (fun _ iv wr => ∃ k : Nat, iv = .int .i64 (k : Int) ∧ k ≤ N ∧ (∀ j, j < k → L.getD j 0 ≠ x) ∧ w = wr) (fun _ iv _ => N - (intOf iv).toNat)
  case atStart => exact ⟨0, rfl, Nat.zero_le _, fun j hj => absurd hj (by omega), rfl⟩
  case round =>
    obtain ⟨k, rfl, hk, hj, rfl⟩ := hrel
    by_cases hlt : k < N
    · obtain ⟨b, o, hp, hc⟩ := HL.out k (by rw [HN.out]; exact hlt)
      subst hp
      have hi0 : (0 : Int) ≤ (k : Int) := by omega
      have hi2 : (k : Int) < (N : Int) := by omega
      have hd : decide (k < N) = true := decide_eq_true hlt
      generalize hy : L.getD k 0 = y at *
      have HJ := Lib.hid hj; have HY := Lib.hid hy
      clear hj hy
      by_cases hx : y = x
      · subst hx
        have hb : hasB y L = true := by
          unfold hasB
          rw [List.any_eq_true]
          refine ⟨L[k]'(by rw [HN.out]; exact hlt), List.getElem_mem _, ?_⟩
          have := HY.out
          rw [List.getD, List.getElem?_eq_getElem (by rw [HN.out]; exact hlt)] at this
          simpa using this
        have HB := Lib.hid hb; clear hb
        go_wp2_with fail
        go_ret
        exact ⟨by rw [HB.out]; rfl, rfl⟩
      · have hx2 : ¬ x = y := fun e => hx e.symm
        go_wp2_with fail
        go_roundw
        case rel => exact ⟨k + 1, by go_num, by omega, (fun j hj => by
          rcases Nat.lt_succ_iff_lt_or_eq.1 hj with h | h
          · exact HJ.out j h
          · rw [h, HY.out]; exact hx), by first | trivial | rfl⟩
        case measure => simp [intOf]; omega
    · have hk2 : k = N := by omega
      subst hk2
      have hb : hasB x L = false := by
        unfold hasB
        rw [List.any_eq_false]
        intro y hy
        obtain ⟨j, hj', rfl⟩ := List.getElem_of_mem hy
        have := hj j (by rw [← HN.out]; exact hj')
        rw [List.getD, List.getElem?_eq_getElem hj'] at this
        simpa using this
      have HB := Lib.hid hb
      clear hj hb
      go_wp2_with fail
      go_ret
      exact ⟨by rw [HB.out]; rfl, rfl⟩

theorem days_of {f t : Int} (h : noDays f t = false) : 0 ≤ f ∧ f < t := by
  unfold noDays at h
  simp only [Bool.or_eq_false_iff, decide_eq_false_iff_not] at h
  omega
/-- Days, one behind the other. -/
def DaysOk (L : List Win) : Prop := (∀ j, j < L.length → (L.getD j win0).from_ < (L.getD j win0).to_) ∧ AscW L
theorem asc_chain {L : List Win} (h : DaysOk L) : ∀ j, j < L.length → ∀ i, i < j → (L.getD i win0).to_ ≤ (L.getD j win0).from_ := by
  intro j
  induction j with
  | zero => intro _ i hi; omega
  | succ j ih =>
    intro hj i hi
    have h1 := h.2 j hj
    rcases Nat.lt_or_ge i j with h' | h'
    · have h2 := ih (by omega) i h'
      have h3 := h.1 j (by omega)
      omega
    · obtain rfl : i = j := by omega
      exact h1
/-- The next day is one on which the team may work. -/
theorem next_may {n team r : Int} {L : List Win} {T : Nat → List Int} (hD : DaysOk L) (h : FirstR n team L T r true) : mayF L T r team = true := by
  rcases h with ⟨_, h, _⟩ | ⟨j, hj, hr, _, hok, _⟩
  · cases h
  · unfold okW at hok
    simp only [Bool.and_eq_true, decide_eq_true_eq] at hok
    have hjt := hD.1 j hj
    have hF : FindR r L (j : Int) := by
      refine .inr ⟨j, rfl, hj, ?_, fun i hi => ?_⟩
      · unfold inD
        rw [decide_eq_true (by omega), decide_eq_true (by omega)]; rfl
      · have := asc_chain hD j hj i hi
        unfold inD
        rw [decide_eq_false (show ¬ r < (L.getD i win0).to_ by omega), Bool.and_false]
    rcases findR_fi hF with ⟨h1, _⟩ | ⟨h1, h2⟩
    · omega
    · have h3 : fi r L = j := by omega
      unfold mayF
      rw [h3, decide_eq_true hj, hok.2]; rfl
/-- On no day before it may the team work. -/
theorem next_first {n team r k : Int} {L : List Win} {T : Nat → List Int} {ok : Bool} (hD : DaysOk L) (h : FirstR n team L T r ok) (hk : n ≤ k) (hm : mayF L T k team = true) : ok = true ∧ r ≤ k := by
  unfold mayF at hm
  simp only [Bool.and_eq_true, decide_eq_true_eq] at hm
  obtain ⟨hf, hb⟩ := hm
  have hin := fi_get hf
  unfold inD at hin
  simp only [Bool.and_eq_true, decide_eq_true_eq] at hin
  have hok : okW n team L T (fi k L) = true := by
    unfold okW
    rw [decide_eq_true (by omega), hb]; rfl
  rcases h with ⟨_, _, h⟩ | ⟨j, hj, hr, ho, _, hbef⟩
  · rw [h _ hf] at hok; cases hok
  · refine ⟨ho, ?_⟩
    rcases Nat.lt_trichotomy j (fi k L) with h' | h' | h'
    · have := asc_chain hD _ hf j h'
      have := hD.1 j hj
      omega
    · rw [h'] at hr; omega
    · rw [hbef _ h'] at hok; cases hok
end Go.Proofs.Ytcppmkimfoajaaa
