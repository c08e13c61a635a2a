/- same: whether two tables are equal. -/
import Derived.Test.YtcppmkimfoajaaaNdY
namespace Go.Proofs.Ytcppmkimfoajaaa
open Go.RowKit
set_option linter.all false

def SameP (n : Nat) (M1 M2 : Nat → Nat → Bool) (w : World) (e : Ending) (w' : World) : Prop := ∃ r, e = .returned (.bool r) ∧ (r = true ↔ ∀ i j, i < n → j < n → M1 i j = M2 i j) ∧ Below w.heap.size w w'
set_option maxRecDepth 100000 in
set_option maxHeartbeats 8000000 in
theorem same_any (S1 S2 q1 q2 c1 c2 n : Nat) (bs1 bs2 : List Nat) (M1 M2 : Nat → Nat → Bool) (w : World) (hn : n ≤ 24) (h1 : MatAt S1 w q1 bs1 n M1) (h2 : MatAt S2 w q2 bs2 n M2) :
    Calls Try.prog 18 #[.slice (some ⟨q1, 0, none⟩) n c1, .slice (some ⟨q2, 0, none⟩) n c2] w (SameP n M1 M2 w) := by
  have H1 := Lib.hid h1; have H2 := Lib.hid h2
  clear h1 h2
  go_enter Try.func18, Try.ntmps18
  go_wp2_with fail
  go_loopw [9] (fun kv wr => ∃ i : Nat, kv = .int .i64 (i : Int) ∧ i ≤ n ∧ (∀ i' j, i' < i → j < n → M1 i' j = M2 i' j) ∧ Below w.heap.size w wr) (fun kv _ => n - (intOf kv).toNat)
  case atStart => exact ⟨0, rfl, Nat.zero_le _, fun _ _ h => by omega, Below.refl _ _⟩
  case round =>
    obtain ⟨i, rfl, hi, hall, hb⟩ := hrel
    have HALL := Lib.hid hall
    by_cases hlti : i < n
    · have hi0 : (0 : Int) ≤ (i : Int) := by omega
      have hi1 : (i : Int) < (n : Int) := by omega
      have hdi : decide (i < n) = true := decide_eq_true hlti
      have hdi' : decide ((i : Int) < (n : Int)) = true := decide_eq_true hi1
      have d1 := (H1.out.step hb).cellq i hlti
      have HBE := Lib.hid hb
      clear hall hb
      generalize hbi : bs1.getD i 0 = b1 at *
      have HB1 := Lib.hid hbi
      clear hbi
      go_wp2_with fail
      clear d1
      go_loopw [17] (fun kv wr => ∃ j : Nat, kv = .int .i64 (j : Int) ∧ j ≤ n ∧ (∀ j', j' < j → M1 i j' = M2 i j') ∧ Below w.heap.size w wr) (fun kv _ => n - (intOf kv).toNat)
      case atStart => exact ⟨0, rfl, Nat.zero_le _, fun _ h => by omega, HBE.out⟩
      case round =>
        clear HBE
        obtain ⟨j, rfl, hj, hallj, hb⟩ := hrel
        have HALJ := Lib.hid hallj
        by_cases hltj : j < n
        · have hj0 : (0 : Int) ≤ (j : Int) := by omega
          have hj1 : (j : Int) < (n : Int) := by omega
          have hdj : decide (j < n) = true := decide_eq_true hltj
          have d1 := (H1.out.step hb).cellq i hlti
          have d2 := (H2.out.step hb).cellq i hlti
          have f1 := (H1.out.step hb).cellr i j hlti hltj
          have f2 := (H2.out.step hb).cellr i j hlti hltj
          have HBE := Lib.hid hb
          clear hallj hb
          generalize hz1 : M1 i j = z1 at *
          generalize hz2 : M2 i j = z2 at *
          have HZ1 := Lib.hid hz1; have HZ2 := Lib.hid hz2
          clear hz1 hz2
          generalize bs1.getD i 0 = b1' at *
          generalize bs2.getD i 0 = b2' at *
          by_cases hz : z1 = z2
          · subst hz
            cases z1
            all_goals
              go_wp2_with fail
              go_quiet (fail)
              have HBD := Lib.hid (below_drewN HBE.out nq)
              go_wp2_with fail
              go_roundw
              case rel => exact ⟨j + 1, by go_num, by omega, (fun j' hj' => by
                rcases Nat.lt_succ_iff_lt_or_eq.1 hj' with h | h
                · exact HALJ.out j' h
                · rw [h, HZ1.out, HZ2.out]), HBD.out⟩
              case measure => simp [intOf]; omega
          · have hne : ¬ ∀ i j, i < n → j < n → M1 i j = M2 i j := fun h => hz (by rw [← HZ1.out, ← HZ2.out]; exact h i j hlti hltj)
            have HNE := Lib.hid hne
            clear hne
            have hzz : z1 = false ∧ z2 = true ∨ z1 = true ∧ z2 = false := by
              cases z1 <;> cases z2 <;> simp_all
            clear hz
            rcases hzz with ⟨rfl, rfl⟩ | ⟨rfl, rfl⟩
            all_goals
              go_wp2_with fail
              go_quiet (fail)
              have HBD := Lib.hid (below_drewN HBE.out nq)
              go_wp2_with fail
              go_ret
              exact ⟨false, rfl, ⟨(fun h => by cases h), fun h => absurd h HNE.out⟩, HBD.out⟩
        · have hjn : j = n := by omega
          subst hjn
          have hdj : decide (j < j) = false := by simp
          have hnj : ¬ (j : Int) < (j : Int) := by omega
          have HBE := Lib.hid hb
          clear hallj hb
          go_wp2_with fail
          go_roundw
          case rel => exact ⟨i + 1, by go_num, by omega, (fun i' j' hi' hj' => by
            rcases Nat.lt_succ_iff_lt_or_eq.1 hi' with h | h
            · exact HALL.out i' j' h hj'
            · rw [h]; exact HALJ.out j' hj'), HBE.out⟩
          case measure => simp [intOf]; omega
    · have hin' : i = n := by omega
      subst hin'
      have hdi : decide (i < i) = false := by simp
      have hni : ¬ (i : Int) < (i : Int) := by omega
      have HBE := Lib.hid hb
      clear hall hb
      go_wp2_with fail
      go_ret
      exact ⟨true, rfl, ⟨fun _ i' j hi' hj => HALL.out i' j hi' hj, fun _ => rfl⟩, HBE.out⟩
end Go.Proofs.Ytcppmkimfoajaaa
