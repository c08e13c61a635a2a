/- The law of the next day. -/
import Derived.Test.YtcppmkimfoajaaaLnA
import Derived.Test.YtcppmkimfoajaaaCalD
namespace Go.Proofs.Ytcppmkimfoajaaa
open Go.RowKit
set_option linter.all false

set_option maxRecDepth 100000 in
set_option maxHeartbeats 4000000 in
theorem lnext_heavy (w : World) (a : Option Addr) (n c : Nat) (x : Int) (h : decide (n ≤ 400) = false) :
    Calls Try.prog 6 #[.slice a n c, .int .u8 x] w (BoolP true w) := by
  have CL := Lib.hid (light_any a n c false w h)
  clear h
  go_enter Try.func6, Try.ntmps6
  go_wp2_with fail
  refine (CL.out).mono ?_
  rintro e w1 ⟨rfl, rfl⟩
  have CA := Lib.hid (awake_any w1)
  clear CL
  go_wp2_with fail
  refine (CA.out).mono ?_
  rintro e w2 ⟨rfl, hb⟩
  have HB := Lib.hid hb; clear hb
  go_wp2_with fail
  go_ret
  exact ⟨rfl, HB.out⟩

set_option maxRecDepth 100000 in
set_option maxHeartbeats 4000000 in
theorem lnext_light (w : World) (a : Option Addr) (n c : Nat) (x : Int) (hx : 0 ≤ x ∧ x ≤ 255) (h : decide (n ≤ 400) = true) (hi : Ints w w.heap.size a n) :
    Calls Try.prog 6 #[.slice a n c, .int .u8 x] w (BoolP true w) := by
  have CL := Lib.hid (light_any a n c true w h)
  have CR := Lib.hid (roll_any a n c w (of_decide_eq_true h) hi)
  clear h hi
  go_enter Try.func6, Try.ntmps6
  go_wp2_with fail
  refine (CL.out).mono ?_
  rintro e w0 ⟨rfl, rfl⟩
  go_wp2_with fail
  refine (CR.out).mono ?_
  rintro e w1 ⟨rfl, hd1, hb1⟩
  obtain ⟨g, hg⟩ : ∃ g, w0.heap.size = g := ⟨_, rfl⟩
  rw [hg] at hd1 hb1
  have hs0 : g < w1.heap.size := hd1.lt
  have CC := Lib.hid (calendar_any w1 g hd1)
  have HB1 := Lib.hid hb1; have HG := Lib.hid hg
  rw [hg]
  clear hd1 hb1 hg CL CR
  go_wp2_with fail
  refine (CC.out).mono ?_
  rintro e w2 ⟨p, q, r, c1, c2, L, T, Q, R, rfl, hd2, hg2, hgood, hR, hQ, hL2, hL5, hto⟩
  have cN := next_any (w2.alloc (.cells #[.slice p L.length c1, .slice q Q.length c2, .slice r R.length 2] 46)) g 2 (by decide) (by decide) (hd2.below ((Below.refl _ _).alloc (Nat.le_refl _) _))
  have CN := Lib.hid cN
  have HGD := Lib.hid hgood
  have hb2 : Below g w0 w2 := HB1.out.trans ⟨hg2.os, hg2.tape, hg2.output, hg2.size, fun k hk => hg2.block k (by omega) (by simp; omega)⟩
  have HB2 := Lib.hid hb2
  have HTO := Lib.hid hto; have HR := Lib.hid hR; clear hR hQ
  have hsz2 : g < w2.heap.size := hd2.lt
  clear hd2 hg2 hgood cN hb2 hto CC
  go_wp2_with fail
  refine (CN.out).mono ?_
  rintro e w3 ⟨team, rfl, ht0, ht1, hd3, hg3⟩
  have hGC := HGD.out w3 ((World.grownBy_alloc w2 (.cells #[.slice p L.length c1, .slice q Q.length c2, .slice r R.length 2] 46) (some g)).trans hg3)
  have hx3 : CalBox w2.heap.size p q r L.length c1 Q.length c2 R.length 2 w3 := by
    have hh : w3.heap[w2.heap.size]? = some (.cells #[.slice p L.length c1, .slice q Q.length c2, .slice r R.length 2] 46 (0, 0)) :=
      (hg3.block _ (by simp) (by simp; omega)).trans (heap_alloc_new _ _)
    refine ⟨?_, ?_, ?_⟩ <;> rw [cell_of_row _ _ _ _ _ _ hh] <;> rfl
  have hb3 : Below g w0 w3 := HB2.out.trans ⟨hg3.os, hg3.tape, hg3.output, by have := hg3.size; simp at this; omega, fun k hk => (hg3.block k (by simp; omega) (by simp; omega)).trans (Below.heap_alloc _ _ _ (by omega))⟩
  have HG3 := Lib.hid hGC; have HX3 := Lib.hid hx3; have HB3 := Lib.hid hb3
  have hgw3 : g < w3.heap.size := hd3.lt
  clear hd3 hg3 hGC hb3 CN HGD
  obtain ⟨x0, x1, x2⟩ := hx3
  generalize w2.heap.size = C at *
  have hmod : ∃ d : Int, x % 80 = d ∧ 0 ≤ d ∧ d < 80 := ⟨_, rfl, by omega, by omega⟩
  obtain ⟨d, hd, hd0, hd1⟩ := hmod
  have htm : isT R.length team = true := by
    unfold isT
    rw [decide_eq_true ht0, HR.out, decide_eq_true (by omega)]; rfl
  have HTM := Lib.hid htm
  have CX := Lib.hid (next_good p q r L T Q R c1 c2 2 team d w3 HG3.out htm)
  have HDO := Lib.hid (show DaysOk L from ⟨fun j hj => (days_of (HG3.out.days j hj)).2, HG3.out.asc⟩)
  clear htm
  go_wp2_with fail
  rw [hd]
  refine (CX.out).mono ?_
  rintro e w4 ⟨rr, ok, rfl, hfr, hb4⟩
  have HFR := Lib.hid hfr; have HB4 := Lib.hid hb4
  have HG4 := Lib.hid (HG3.out.step hb4); have HX4 := Lib.hid (HX3.out.step hb4)
  have hgw4 : g < w4.heap.size := by have := hb4.size; omega
  clear hfr hb4 CX x0 x1 x2 HG3 HX3
  go_wp2_with fail
  clear hd
  have HBW := Lib.hid (HB3.out.trans (HB4.out.mono (Nat.le_of_lt hgw3)))
  clear HB3 HB4 HB2 HB1
  go_loopw [12, 13, 14, 15, 16, 17] (fun kv _ _ _ _ _ wr => ∃ k : Int, kv = .int .i64 k ∧ d ≤ k ∧ k ≤ 260 ∧ (ok = true → k ≤ max rr d) ∧ Below w4.heap.size w4 wr) (fun kv _ _ _ _ _ _ => (260 - intOf kv).toNat)
  case atStart => exact ⟨d, rfl, Int.le_refl _, by omega, fun _ => by omega, Below.refl _ _⟩
  case round =>
    obtain ⟨k, rfl, hdk, hk, hok, hb⟩ := hrel
    have HBR := Lib.hid hb
    obtain ⟨x0, x1, x2⟩ := HX4.out.step hb
    have HGR := Lib.hid (HG4.out.step hb)
    have hrd : ok = true → d ≤ rr := fun h => by
      rcases HFR.out with ⟨_, h2, _⟩ | ⟨j, _, h2, _⟩
      · rw [h] at h2; cases h2
      · omega
    have hok2 : ok = true → k ≤ rr := fun h => by have := hok h; have := hrd h; omega
    have HOK := Lib.hid hok2; have HRD := Lib.hid hrd
    clear hb hok hrd hok2
    by_cases hlt : k < 260
    · have hdd : decide (k < 260) = true := decide_eq_true hlt
      have s1 : IntKind.i64.wrap (k + 1) = k + 1 := IntWalk.i64_in _ (by omega)
      have CY := Lib.hid (may_good p q r L T Q R c1 c2 2 team k wr HGR.out HTM.out)
      go_wp2_with fail
      refine (CY.out).mono ?_
      rintro e w5 ⟨r1, hr1, rfl, hb5⟩
      rw [mayR_F hr1]
      have HG5 := Lib.hid (HGR.out.step hb5)
      have HB5 := Lib.hid (HBR.out.trans (hb5.mono HBR.out.size))
      clear x0 x1 x2 CY hr1 hb5 HGR HBR
      obtain ⟨x0, x1, x2⟩ := HX4.out.step HB5.out
      have CT := Lib.hid (at_good p q r L T Q R c1 c2 2 k w5 HG5.out)
      obtain ⟨m, hm⟩ : ∃ m, mayF L T k team = m := ⟨_, rfl⟩
      rw [hm]
      have HM := Lib.hid hm; clear hm
      go_wp2_with fail
      refine (CT.out).mono ?_
      rintro e w6 ⟨r2, hr2, rfl, hb6⟩
      have HG6 := Lib.hid (HG5.out.step hb6)
      have HB6 := Lib.hid (HB5.out.trans (hb6.mono HB5.out.size))
      clear x0 x1 x2 CT hb6 HG5 HB5
      obtain ⟨x0, x1, x2⟩ := HX4.out.step HB6.out
      have HF := Lib.hid (findR_fi hr2)
      clear hr2
      rcases HF.out with ⟨rfl, hfl⟩ | ⟨rfl, hfl⟩
      · have hmf : m = false := by
          rw [← HM.out]; unfold mayF
          rw [decide_eq_false (by omega)]; rfl
        subst hmf
        rw [show max (-1 : Int) 0 = 0 from rfl, show decide ((0 : Int) ≤ -1) = false from rfl]
        have hll : ¬ (L.length : Int) ≤ 0 := by omega
        have hl0 : ¬ L.length = 0 := by omega
        have hl1 : ¬ L = [] := fun e => hl0 (by rw [e]; rfl)
        have hnot : ok = true → ¬ k = rr := fun h e => by
          have h1 := next_may HDO.out (h ▸ HFR.out)
          rw [← e, HM.out] at h1; cases h1
        clear hfl
        cases ok with
        | false =>
          go_wp2_with fail
          exact ⟨⟨k + 1, rfl, by omega, by omega, (fun h => by cases h), HB6.out⟩, by simp [intOf]; omega⟩
        | true =>
          have hne := hnot rfl
          have hle := HOK.out rfl
          have hne2 : (k == rr) = false := by simpa using hne
          go_wp2_with fail
          exact ⟨⟨k + 1, rfl, by omega, by omega, (fun _ => by omega), HB6.out⟩, by simp [intOf]; omega⟩
      · have hi0 : (0 : Int) ≤ ((fi k L : Nat) : Int) := by omega
        rw [show max ((fi k L : Nat) : Int) 0 = ((fi k L : Nat) : Int) from Int.max_eq_left hi0, decide_eq_true hi0]
        obtain ⟨b, o, hp, e0, e1, e2⟩ := HG6.out.wins (fi k L) hfl
        obtain ⟨t1, t2, t3⟩ := HG6.out.ts (fi k L) hfl
        rw [t1] at e2
        have CH := Lib.hid (moveHas_any (L.getD (fi k L) win0).a (L.getD (fi k L) win0).c (T (fi k L)) team w6 t2 t3)
        have hin := fi_get hfl
        unfold inD at hin
        simp only [Bool.and_eq_true, decide_eq_true_eq] at hin
        obtain ⟨hin1, hin2⟩ := hin
        subst hp
        have hmh : m = hasB team (T (fi k L)) := by
          rw [← HM.out]; unfold mayF
          rw [decide_eq_true hfl]; rfl
        rw [← hmh] at CH
        have hrest : (m = true → ok = true ∧ rr ≤ k) ∧ (m = false → ok = true → ¬ k = rr) := ⟨fun h => next_first HDO.out HFR.out hdk (HM.out.trans h), fun h h' e => by
          have h1 := next_may HDO.out (h' ▸ HFR.out)
          rw [← e, HM.out, h] at h1; cases h1⟩
        have HREST := Lib.hid hrest
        generalize (L.getD (fi k L) win0).from_ = wf at *
        generalize (L.getD (fi k L) win0).to_ = wt at *
        generalize (L.getD (fi k L) win0).a = a' at *
        generalize (L.getD (fi k L) win0).c = c' at *
        generalize (T (fi k L)).length = n' at *
        generalize fi k L = f at *
        have hi1 : (f : Int) < (L.length : Int) := by omega
        have hll : ¬ (L.length : Int) ≤ (f : Int) := by omega
        have hg1 : decide (k < wf) = false := decide_eq_false (by omega)
        have hg2 : decide (wt ≤ k) = false := decide_eq_false (by omega)
        have hg3 : decide ((f : Int) < 0) = false := decide_eq_false (by omega)
        have hg4 : decide (L.length ≤ f) = false := decide_eq_false (by omega)
        have hng1 : ¬ k < wf := by omega
        have hng2 : ¬ wt ≤ k := by omega
        clear hmh hrest t1 t2 t3 hin1 hin2
        cases m with
        | true =>
          obtain ⟨hok, hrk⟩ := HREST.out.1 rfl
          subst hok
          have hke : k = rr := by have := HOK.out rfl; omega
          subst hke
          have CA := Lib.hid (awake_any w6)
          go_wp2_with fail
          refine (CH.out).mono ?_
          rintro e w7 ⟨rfl, rfl⟩
          go_wp2_with fail
          refine (CA.out).mono ?_
          rintro e w8 ⟨rfl, hb8⟩
          have HB8 := Lib.hid (HBW.out.trans ((HB6.out.trans (hb8.mono HB6.out.size)).mono (Nat.le_of_lt hgw4)))
          clear hb8
          go_wp2_with fail
          go_ret
          exact ⟨rfl, by rw [HG.out]; exact HB8.out⟩
        | false =>
          have hnot := HREST.out.2 rfl
          cases ok with
          | false =>
            go_wp2_with fail
            exact ⟨⟨k + 1, rfl, by omega, by omega, (fun h => by cases h), HB6.out⟩, by simp [intOf]; omega⟩
          | true =>
            have hne := hnot rfl
            have hle := HOK.out rfl
            have hne2 : (k == rr) = false := by simpa using hne
            go_wp2_with fail
            exact ⟨⟨k + 1, rfl, by omega, by omega, (fun _ => by omega), HB6.out⟩, by simp [intOf]; omega⟩
    · have hk6 : k = 260 := by omega
      subst hk6
      have hokf : ok = false := by
        cases ok with
        | false => rfl
        | true =>
          exfalso
          have h1 := HOK.out rfl
          rcases HFR.out with ⟨_, h2, _⟩ | ⟨j, hj, h2, _⟩
          · cases h2
          · have h3 := HTO.out j hj
            have h4 := HDO.out.1 j hj
            omega
      subst hokf
      have CA := Lib.hid (awake_any wr)
      go_wp2_with fail
      refine (CA.out).mono ?_
      rintro e w8 ⟨rfl, hb8⟩
      have HB8 := Lib.hid (HBW.out.trans ((HBR.out.trans (hb8.mono HBR.out.size)).mono (Nat.le_of_lt hgw4)))
      clear hb8
      go_wp2_with fail
      go_ret
      exact ⟨rfl, by rw [HG.out]; exact HB8.out⟩

theorem lnext_any (w : World) (a : Option Addr) (n c : Nat) (x : Int) (hx : 0 ≤ x ∧ x ≤ 255) (hi : Ints w w.heap.size a n) :
    Calls Try.prog 6 #[.slice a n c, .int .u8 x] w fun e w' => e = .returned (.bool true) ∧ Below w.heap.size w w' := by
  cases h : decide (n ≤ 400)
  · exact lnext_heavy w a n c x h
  · exact lnext_light w a n c x hx h hi
end Go.Proofs.Ytcppmkimfoajaaa
