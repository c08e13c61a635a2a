/- ref30.fit of changes that may be made. -/
import Derived.Test.YtnconhbambhhgaaRfB
import Derived.Test.YtnconhbambhhgaaRegC
namespace Go.Proofs.Ytnconhbambhhgaa
open Go.RowKit
set_option linter.all false

def GF (C : Nat) (p q r : Option Addr) (nL c1 nQ c2 nR c3 N c5 b2 o2 k : Nat) (t d : Int) (_ : Array Bool) (i : Nat) (v : Value) (_ : World) : Prop := match i with
  | 0 => v = .agg #[.slice p nL c1, .slice q nQ c2, .slice r nR c3]
  | 1 => v = .int .i64 t
  | 2 => v = .slice (some ⟨b2, o2, none⟩) N c5
  | 3 => v = .int .i64 (k : Int)
  | 4 => v = .pointer (some ⟨b2, o2 + k, none⟩)
  | 5 => v = .int .i64 d
  | 6 => v = .bool true
  | 7 => v = .bool false
  | _ => True

set_option maxRecDepth 100000 in
set_option maxHeartbeats 8000000 in
theorem rfit_good (p q r ta da : Option Addr) (L : List Win) (T : Nat → List Int) (Q R TS DS : List Int) (c1 c2 c3 c4 c5 : Nat) (w : World) (h : GoodCal w p q r L T Q R)
    (hTS : TeamsAt w ta TS) (hDS : TeamsAt w da DS) (hlen : DS.length = TS.length) (h24 : TS.length ≤ 24) (hts : TS.all (isT R.length) = true)
    (hmay : ∀ j, j < TS.length → mayF L T (DS.getD j 0) (TS.getD j 0) = true) :
    Calls Try.prog 61 #[.agg #[.slice p L.length c1, .slice q Q.length c2, .slice r R.length c3], .slice ta TS.length c4, .slice da DS.length c5] w (IntP 0 w) := by
  have hb0 := (Below.refl w.heap.size w).alloc (Nat.le_refl _) (.cells #[.slice p L.length c1, .slice q Q.length c2, .slice r R.length c3] 38)
  have hx : CalBox w.heap.size p q r L.length c1 Q.length c2 R.length c3 (w.alloc (.cells #[.slice p L.length c1, .slice q Q.length c2, .slice r R.length c3] 38)) := ⟨by simp, by simp, by simp⟩
  have hsz : w.heap.size ≤ (w.alloc (.cells #[.slice p L.length c1, .slice q Q.length c2, .slice r R.length c3] 38)).heap.size := by simp
  have hg := h.step hb0
  have CK := Lib.hid (rcheck_good p q r L T Q R c1 c2 c3 _ hg)
  have CM := Lib.hid (fun d t W (hW : Below (w.alloc (.cells #[.slice p L.length c1, .slice q Q.length c2, .slice r R.length c3] 38)).heap.size (w.alloc (.cells #[.slice p L.length c1, .slice q Q.length c2, .slice r R.length c3] 38)) W) => rmay_any p q r c1 Q.length c2 R.length c3 L T t d W (by have := h.l1; omega) (hg.wins.step hW) (hg.ts.step hW))
  have HT := Lib.hid (hTS.step hb0); have HD := Lib.hid (hDS.step hb0)
  have HX := Lib.hid hx; have HB0 := Lib.hid hb0; have HSZ := Lib.hid hsz; have HTS := Lib.hid hts; have HMAY := Lib.hid hmay
  obtain ⟨x0, x1, x2⟩ := hx
  clear h hg hb0 hsz hTS hDS hts hmay
  rw [hlen]
  have HLEN := Lib.hid hlen
  obtain ⟨nL, hL⟩ : ∃ N, L.length = N := ⟨_, rfl⟩
  obtain ⟨nQ, hQ⟩ : ∃ N, Q.length = N := ⟨_, rfl⟩
  obtain ⟨nR, hR⟩ : ∃ N, R.length = N := ⟨_, rfl⟩
  obtain ⟨N, hN⟩ : ∃ N, TS.length = N := ⟨_, rfl⟩
  have HNT := Lib.hid hN
  rw [hL, hQ, hR] at HX HB0 HSZ CK CM x0 x1 x2
  rw [hL, hQ, hR] at HT HD
  rw [hR] at HTS
  rw [hN] at h24
  rw [hL, hQ, hR, hN]
  clear hlen hL hQ hR hN
  go_enter Try.func61, Try.ntmps61
  go_wp2_with fail
  generalize (w.alloc (.cells #[.slice p nL c1, .slice q nQ c2, .slice r nR c3] 38)) = W0 at *
  obtain ⟨C, hC⟩ : ∃ C, w.heap.size = C := ⟨_, rfl⟩
  rw [hC] at HX x0 x1 x2
  simp only [hC]
  have HC := Lib.hid hC
  clear hC
  refine (CK.out).mono ?_
  rintro e w1 ⟨rfl, hb1⟩
  have HB1 := Lib.hid hb1
  clear hb1 CK x0 x1 x2
  have dN : decide (24 < N) = false := decide_eq_false (by omega)
  go_wp2_with fail
  go_loopw [30] (fun iv wr => ∃ k : Nat, iv = .int .i64 (k : Int) ∧ k ≤ N ∧ wr = w1) (fun iv _ => N - (intOf iv).toNat)
  case atStart => exact ⟨0, rfl, Nat.zero_le _, rfl⟩
  case round =>
    obtain ⟨k, rfl, hk, hwe⟩ := hrel
    have HWE := Lib.hid hwe
    by_cases hlt : k < N
    · obtain ⟨b, o, hp, hc⟩ := (HT.out.step HB1.out) k (by rw [HNT.out]; exact hlt)
      obtain ⟨x0, x1, x2⟩ := HX.out.step HB1.out
      rw [← hwe] at hc x0 x1 x2
      obtain ⟨g1, g2⟩ := isT_of_all HTS.out (j := k) (by rw [HNT.out]; exact hlt)
      subst hp
      generalize TS.getD k 0 = y at *
      have hi0 : (0 : Int) ≤ (k : Int) := by omega
      have hi2 : (k : Int) < (N : Int) := by omega
      have hdd : decide (k < N) = true := decide_eq_true hlt
      have h1 : decide (y < 0) = false := decide_eq_false (by omega)
      have h2 : decide ((nR : Int) ≤ y) = false := decide_eq_false (by omega)
      clear hwe
      go_wp2_with fail
      go_roundw
      case rel => exact ⟨k + 1, by go_num, by omega, HWE.out⟩
      case measure => simp [intOf]; omega
    · have hkN : ¬ (k : Int) < (N : Int) := by omega
      have hdd : decide (k < N) = false := decide_eq_false hlt
      clear hwe
      go_wp2_with fail
      go_loopw [46] (fun iv wr => ∃ k : Nat, iv = .int .i64 (k : Int) ∧ k ≤ N ∧ Below W0.heap.size W0 wr) (fun iv _ => N - (intOf iv).toNat)
      case atStart => exact ⟨0, rfl, Nat.zero_le _, by rw [HWE.out]; exact HB1.out⟩
      case round =>
        obtain ⟨k, rfl, hk, hb⟩ := hrel
        by_cases hlt : k < N
        · obtain ⟨b, o, hp, hc⟩ := (HT.out.step hb) k (by rw [HNT.out]; exact hlt)
          obtain ⟨b2, o2, hp2, hcd⟩ := (HD.out.step hb) k (by rw [HLEN.out, HNT.out]; exact hlt)
          have hmy := HMAY.out k (by rw [HNT.out]; exact hlt)
          subst hp; subst hp2
          obtain ⟨t, ht⟩ : ∃ t, TS.getD k 0 = t := ⟨_, rfl⟩
          obtain ⟨d, hd⟩ : ∃ d, DS.getD k 0 = d := ⟨_, rfl⟩
          rw [ht] at hc hmy
          rw [hd] at hcd hmy
          have hi0 : (0 : Int) ≤ (k : Int) := by omega
          have hi2 : (k : Int) < (N : Int) := by omega
          have hdd : decide (k < N) = true := decide_eq_true hlt
          have HXD := Lib.hid (HX.out.step hb); have HCD := Lib.hid hcd; have HBR := Lib.hid hb; have HMY := Lib.hid hmy
          clear hcd hmy ht hd hb
          go_upto_region 17 with fail
          clear hc
          refine region_factsC (by kernel_rfl) (GF C p q r nL c1 nQ c2 nR c3 N c5 b2 o2 k t d) (fun _ W => Below wr.heap.size wr W) (by kernel_rfl) (by kernel_rfl) ?h0 ?hstep ?hend
          case h0 => exact below_drewN (Below.refl _ _) 1
          case hstep =>
            intro i oo l a W ho hat K hK
            have hi : i < 8 := (Array.getElem?_eq_some_iff.1 ho).1
            obtain rfl | rfl | rfl | rfl | rfl | rfl | rfl | rfl : i = 0 ∨ i = 1 ∨ i = 2 ∨ i = 3 ∨ i = 4 ∨ i = 5 ∨ i = 6 ∨ i = 7 := by omega
            all_goals
              have ho := Option.some.inj (show some _ = some oo from ho)
              subst ho
            · have e0 : a.tmps[3]?.getD undef = .pointer (some ⟨C, 0, none⟩) := hat.out 3 (by kernel_rfl)
              obtain ⟨x0, x1, x2⟩ := HXD.out.step hat.base
              have HF1 := Lib.hid (hK (.agg #[.slice p nL c1, .slice q nQ c2, .slice r nR c3]) W rfl (fun _ _ _ h => h) hat.base)
              clear hat hK
              go_simp
              exact HF1.out
            · have e0 : a.tmps[11]?.getD undef = .int .i64 t := hat.out 11 (by kernel_rfl)
              have HF1 := Lib.hid (hK (.int .i64 t) W rfl (fun _ _ _ h => h) hat.base)
              clear hat hK
              go_simp
              exact HF1.out
            · have e0 : a.tmps[2]?.getD undef = .slice (some ⟨b2, o2, none⟩) N c5 := hat.out 2 (by kernel_rfl)
              have HF1 := Lib.hid (hK (.slice (some ⟨b2, o2, none⟩) N c5) W rfl (fun _ _ _ h => h) hat.base)
              clear hat hK
              go_simp
              exact HF1.out
            · have e0 : a.tmps[10]?.getD undef = .int .i64 (k : Int) := hat.out 10 (by kernel_rfl)
              have HF1 := Lib.hid (hK (.int .i64 (k : Int)) W rfl (fun _ _ _ h => h) hat.base)
              clear hat hK
              go_simp
              exact HF1.out
            · have e0 : a.tmps[53]?.getD undef = .slice (some ⟨b2, o2, none⟩) N c5 := hat.have_ 2 53 (by kernel_rfl) (hat.dep 2 (by kernel_rfl))
              have e1 : a.tmps[54]?.getD undef = .int .i64 (k : Int) := hat.have_ 3 54 (by kernel_rfl) (hat.dep 3 (by kernel_rfl))
              have HF1 := Lib.hid (hK (.pointer (some ⟨b2, o2 + k, none⟩)) W rfl (fun _ _ _ h => h) hat.base)
              clear hat hK
              go_simp
              exact HF1.out
            · have e0 : a.tmps[55]?.getD undef = .pointer (some ⟨b2, o2 + k, none⟩) := hat.have_ 4 55 (by kernel_rfl) (hat.dep 4 (by kernel_rfl))
              have cd := cell_later' hat.base HCD.out
              have HF1 := Lib.hid (hK (.int .i64 d) W rfl (fun _ _ _ h => h) hat.base)
              clear hat hK
              go_simp
              exact HF1.out
            · have e0 : a.tmps[51]?.getD undef = .agg #[.slice p nL c1, .slice q nQ c2, .slice r nR c3] := hat.have_ 0 51 (by kernel_rfl) (hat.dep 0 (by kernel_rfl))
              have e1 : a.tmps[52]?.getD undef = .int .i64 t := hat.have_ 1 52 (by kernel_rfl) (hat.dep 1 (by kernel_rfl))
              have e2 : a.tmps[56]?.getD undef = .int .i64 d := hat.have_ 5 56 (by kernel_rfl) (hat.dep 5 (by kernel_rfl))
              have CMW := Lib.hid (CM.out d t W (HBR.out.trans (hat.base.mono HBR.out.size)))
              have HH := Lib.hid (And.intro hat hK)
              clear hat hK
              go_simp
              refine (CMW.out).mono ?_
              rintro e w' ⟨rfl, hbx⟩
              obtain ⟨hat, hK⟩ := HH.out
              rw [HMY.out]
              exact hK _ _ rfl (fun _ _ _ h => h) (hat.base.trans (hbx.mono hat.base.size))
            · have e0 : a.tmps[57]?.getD undef = .bool true := hat.have_ 6 57 (by kernel_rfl) (hat.dep 6 (by kernel_rfl))
              have HF1 := Lib.hid (hK (.bool false) W rfl (fun _ _ _ h => h) hat.base)
              clear hat hK
              go_simp
              exact HF1.out
          case hend =>
            intro l u wc hall hG hB
            have e7 : u 7 = .bool false := hG 7 58 (by kernel_rfl)
            have HB2 := Lib.hid (HBR.out.trans (hB.mono HBR.out.size))
            clear hG hB hall
            simp only [putAll, Act.put, List.setIfInBounds_toArray, List.set_cons_zero, List.set_cons_succ, Nat.zero_add, Nat.reduceAdd]
            rw [e7]
            clear e7
            generalize u 0 = y0; generalize u 1 = y1; generalize u 2 = y2; generalize u 3 = y3; generalize u 4 = y4; generalize u 5 = y5; generalize u 6 = y6
            go_wp2_with fail
            go_roundw
            case rel => exact ⟨k + 1, by go_num, by omega, HB2.out⟩
            case measure => simp [intOf]; omega
        · have hkN : ¬ (k : Int) < (N : Int) := by omega
          have hdd : decide (k < N) = false := decide_eq_false hlt
          have HBR := Lib.hid hb
          clear hb
          go_wp2_with fail
          go_ret
          exact ⟨rfl, HB0.out.trans (HBR.out.mono HSZ.out)⟩
end Go.Proofs.Ytnconhbambhhgaa
