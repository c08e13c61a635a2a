/- ref30: at, may. -/
import Derived.Test.YtnconhbambhhgaaLdA
namespace Go.Proofs.Ytnconhbambhhgaa
open Go.RowKit
set_option linter.all false

theorem inD_eq (d : Int) (x : Win) : inD d x = (decide (x.from_ ≤ d) && decide (d < x.to_)) := rfl
set_option maxRecDepth 100000 in
set_option maxHeartbeats 2000000 in
theorem rat_any (p q r : Option Addr) (c1 n2 c2 n c : Nat) (L : List Win) (d : Int) (w : World) (hl : L.length ≤ 1000) (hL : WinsAt w p L) :
    Calls Try.prog 62 #[.agg #[.slice p L.length c1, .slice q n2 c2, .slice r n c], .int .i64 d] w (FindP d L w) := by
  have hb0 := (Below.refl w.heap.size w).alloc (Nat.le_refl _) (.cells #[.slice p L.length c1, .slice q n2 c2, .slice r n c] 38)
  have hsz : w.heap.size ≤ (w.alloc (.cells #[.slice p L.length c1, .slice q n2 c2, .slice r n c] 38)).heap.size := by simp
  have HL := Lib.hid (hL.step hb0); have HB0 := Lib.hid hb0; have HSZ := Lib.hid hsz
  obtain ⟨N, hN⟩ : ∃ N, L.length = N := ⟨_, rfl⟩
  have HN := Lib.hid hN
  rw [hN] at hl HL HB0 HSZ ⊢
  clear hL hN hb0 hsz
  go_enter Try.func62, Try.ntmps62
  go_wp2_with fail
  generalize (w.alloc (.cells #[.slice p N c1, .slice q n2 c2, .slice r n c] 38)) = W0 at *
  go_loopw [10] (fun iv wr => FRel W0 d L iv wr) (fun iv _ => N - (intOf iv).toNat)
  case atStart => exact ⟨0, rfl, Nat.zero_le _, fun j hj => absurd hj (by omega), Below.refl _ _⟩
  case round =>
    obtain ⟨k, rfl, hk, hj, hb⟩ := hrel
    rw [HN.out] at hk
    by_cases hlt : k < N
    · obtain ⟨b, o, hp, c0, c1, c2⟩ := HL.out k (by rw [HN.out]; exact hlt)
      subst hp
      have c0 := cell_later' hb c0
      have c1 := cell_later' hb c1
      have c2 := cell_later' hb c2
      have hi0 : (0 : Int) ≤ (k : Int) := by omega
      have hi2 : (k : Int) < (N : Int) := by omega
      have hdd : decide (k < N) = true := decide_eq_true hlt
      have hx := inD_eq d (L.getD k win0)
      have HX := Lib.hid hx
      clear hx
      generalize hff : (L.getD k win0).from_ = f at *
      generalize htt : (L.getD k win0).to_ = t at *
      generalize (L.getD k win0).a = a' at *
      generalize (L.getD k win0).n = n' at *
      generalize (L.getD k win0).c = c' at *
      have HBE := Lib.hid (hb.alloc hb.size (.cells #[.int .i64 f, .int .i64 t, .slice a' n' c'] 77)); have HJ := Lib.hid hj
      clear hb hj hff htt
      by_cases h1 : f ≤ d
      · have g1 : decide (f ≤ d) = true := decide_eq_true h1
        by_cases h2 : d < t
        · have g2 : decide (d < t) = true := decide_eq_true h2
          go_wp2_with fail
          go_ret
          exact ⟨_, rfl, .inr ⟨k, rfl, by rw [HN.out]; exact hlt, by rw [HX.out, g1, g2]; rfl, HJ.out⟩, HB0.out.trans (HBE.out.mono HSZ.out)⟩
        · have g2 : decide (d < t) = false := decide_eq_false h2
          go_wp2_with fail
          go_roundw
          case rel => exact ⟨k + 1, by go_num, by rw [HN.out]; omega, (fun j hj => by
            rcases Nat.lt_succ_iff_lt_or_eq.1 hj with h | h
            · exact HJ.out j h
            · rw [h, HX.out, g2, Bool.and_false]), HBE.out⟩
          case measure => simp [intOf]; omega
      · have g1 : decide (f ≤ d) = false := decide_eq_false h1
        go_wp2_with fail
        go_roundw
        case rel => exact ⟨k + 1, by go_num, by rw [HN.out]; omega, (fun j hj => by
          rcases Nat.lt_succ_iff_lt_or_eq.1 hj with h | h
          · exact HJ.out j h
          · rw [h, HX.out, g1]; rfl), HBE.out⟩
        case measure => simp [intOf]; omega
    · have hk2 : k = N := by omega
      subst hk2
      have hdd : decide (k < k) = false := by simp
      have hni : ¬ (k : Int) < (k : Int) := by omega
      have HJ := Lib.hid hj; have HBE := Lib.hid hb
      clear hj hb
      go_wp2_with fail
      go_ret
      exact ⟨_, rfl, .inl ⟨rfl, fun j hj => HJ.out j (by rw [← HN.out]; exact hj)⟩, HB0.out.trans (HBE.out.mono HSZ.out)⟩

set_option maxRecDepth 100000 in
set_option maxHeartbeats 4000000 in
theorem rmay_any (p q r : Option Addr) (c1 n2 c2 n c : Nat) (L : List Win) (T : Nat → List Int) (team d : Int) (w : World) (hl : L.length ≤ 1000) (hL : WinsAt w p L) (hT : TsAt w L T) :
    Calls Try.prog 45 #[.agg #[.slice p L.length c1, .slice q n2 c2, .slice r n c], .int .i64 team, .int .i64 d] w (BoolP (mayF L T d team) w) := by
  have hb0 := (Below.refl w.heap.size w).alloc (Nat.le_refl _) (.cells #[.slice p L.length c1, .slice q n2 c2, .slice r n c] 38)
  have hsz : w.heap.size ≤ (w.alloc (.cells #[.slice p L.length c1, .slice q n2 c2, .slice r n c] 38)).heap.size := by simp
  have hx : CalBox w.heap.size p q r L.length c1 n2 c2 n c (w.alloc (.cells #[.slice p L.length c1, .slice q n2 c2, .slice r n c] 38)) := ⟨by simp, by simp, by simp⟩
  have CA := Lib.hid (rat_any p q r c1 n2 c2 n c L d _ hl (hL.step hb0))
  have HL := Lib.hid (hL.step hb0); have HT := Lib.hid (hT.step hb0); have HB0 := Lib.hid hb0; have HSZ := Lib.hid hsz; have HX := Lib.hid hx
  obtain ⟨x0, x1, x2⟩ := hx
  obtain ⟨N, hN⟩ : ∃ N, L.length = N := ⟨_, rfl⟩
  have HN := Lib.hid hN
  rw [hN] at hl HB0 HSZ HX CA x0 ⊢
  rw [hN] at HL HT
  clear hL hT hN hb0 hsz
  go_enter Try.func45, Try.ntmps45
  go_wp2_with fail
  generalize (w.alloc (.cells #[.slice p N c1, .slice q n2 c2, .slice r n c] 38)) = W0 at *
  refine (CA.out).mono ?_
  rintro e w1 ⟨x, rfl, hf, hb1⟩
  have HB1 := Lib.hid hb1
  have HBA := Lib.hid (HB0.out.trans (hb1.mono HSZ.out))
  clear x0 x1 x2
  obtain ⟨x0, x1, x2⟩ := HX.out.step hb1
  rcases findR_fi hf with ⟨rfl, hfi⟩ | ⟨rfl, hfi⟩
  · have hm : mayF L T d team = false := by unfold mayF; rw [hfi]; simp
    have HM := Lib.hid hm
    clear hm hf hb1 hfi CA
    go_wp2_with fail
    go_ret
    exact ⟨by rw [HM.out]; rfl, HBA.out⟩
  · obtain ⟨b, o, hp, e0, e1, e2⟩ := HL.out (fi d L) hfi
    obtain ⟨t1, t2, t3⟩ := HT.out (fi d L) hfi
    rw [t1] at e2
    subst hp
    have e0 := cell_later' hb1 e0
    have e1 := cell_later' hb1 e1
    have e2 := cell_later' hb1 e2
    have ht3 := t3.step hb1
    have hm : mayF L T d team = hasB team (T (fi d L)) := by unfold mayF; rw [decide_eq_true hfi]; rfl
    rw [HN.out] at hfi
    obtain ⟨TT, hTT⟩ : ∃ TT, T (fi d L) = TT := ⟨_, rfl⟩
    rw [hTT] at e2 t2 ht3 hm
    generalize (L.getD (fi d L) win0).from_ = f at *
    generalize (L.getD (fi d L) win0).to_ = t at *
    generalize (L.getD (fi d L) win0).a = a' at *
    generalize (L.getD (fi d L) win0).c = c' at *
    generalize fi d L = fx at *
    have hi0 : (0 : Int) ≤ (fx : Int) := by omega
    have hi2 : (fx : Int) < (N : Int) := by omega
    have hn0 : decide ((fx : Int) < 0) = false := decide_eq_false (by omega)
    have HM := Lib.hid hm; have HT3 := Lib.hid ht3
    obtain ⟨NT, hNT⟩ : ∃ NT, TT.length = NT := ⟨_, rfl⟩
    have HNT := Lib.hid hNT
    rw [hNT] at e2 t2
    clear hm hf hb1 t1 t3 hTT ht3 hNT CA
    go_wp2_with fail
    clear x0 x1 x2 e0 e1 e2
    go_loopw [22] (fun iv wr => ∃ k : Nat, iv = .int .i64 (k : Int) ∧ k ≤ NT ∧ (∀ j, j < k → TT.getD j 0 ≠ team) ∧ wr = w1) (fun iv _ => NT - (intOf iv).toNat)
    case atStart => exact ⟨0, rfl, Nat.zero_le _, fun j hj => absurd hj (by omega), rfl⟩
    case round =>
      obtain ⟨k, rfl, hk, hj, hwe⟩ := hrel
      by_cases hlt : k < NT
      · obtain ⟨b3, o3, hp3, hc⟩ := HT3.out k (by rw [HNT.out]; exact hlt)
        subst hp3
        rw [← hwe] at hc
        have hi0' : (0 : Int) ≤ (k : Int) := by omega
        have hi2' : (k : Int) < (NT : Int) := by omega
        have hdd : decide (k < NT) = true := decide_eq_true hlt
        obtain ⟨x, hxx⟩ : ∃ x, TT.getD k 0 = x := ⟨_, rfl⟩
        rw [hxx] at hc
        have HXX := Lib.hid hxx; have HJ := Lib.hid hj; have HWE := Lib.hid hwe
        clear hxx hj hwe
        by_cases he : x = team
        · subst he
          have hh : hasB x TT = true := by
            unfold hasB
            rw [List.any_eq_true]
            exact ⟨TT[k]'(by rw [HNT.out]; exact hlt), List.getElem_mem _, by
              have := HXX.out
              rw [List.getD, List.getElem?_eq_getElem (by rw [HNT.out]; exact hlt)] at this
              simpa using this⟩
          have HH := Lib.hid hh
          clear hh
          go_wp2_with fail
          go_ret
          exact ⟨by rw [HM.out, HH.out]; rfl, by rw [HWE.out]; exact HBA.out⟩
        · have hq : (x == team) = false := by simpa using he
          go_wp2_with fail
          go_roundw
          case rel => exact ⟨k + 1, by go_num, by omega, (fun j hj => by
            rcases Nat.lt_succ_iff_lt_or_eq.1 hj with h | h
            · exact HJ.out j h
            · rw [h, HXX.out]; exact he), HWE.out⟩
          case measure => simp [intOf]; omega
      · have hk2 : k = NT := by omega
        subst hk2
        have hdd : decide (k < k) = false := by simp
        have hni : ¬ (k : Int) < (k : Int) := by omega
        have hh : hasB team TT = false := by
          unfold hasB
          rw [List.any_eq_false]
          intro y hy
          obtain ⟨j, hj', rfl⟩ := List.getElem_of_mem hy
          have := hj j (by rw [← HNT.out]; exact hj')
          rw [List.getD, List.getElem?_eq_getElem hj'] at this
          simpa using this
        have HH := Lib.hid hh; have HWE := Lib.hid hwe
        clear hh hj hwe
        go_wp2_with fail
        go_ret
        exact ⟨by rw [HM.out, HH.out]; rfl, by rw [HWE.out]; exact HBA.out⟩
end Go.Proofs.Ytnconhbambhhgaa
