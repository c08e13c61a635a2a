/- ref30.Earliest of changes that fit. -/
import Derived.Test.YtnconhbambhhgaaRfE
import Derived.Test.YtnconhbambhhgaaLnA
namespace Go.Proofs.Ytnconhbambhhgaa
open Go.RowKit
set_option linter.all false

theorem some_getD {x : Option Value} {b : Bool} (h : x.getD undef = .bool b) : x = some (.bool b) := by
  cases x with
  | none => cases h
  | some v => exact congrArg some h
def GE1 (X C qq cq : Nat) (p q r : Option Addr) (nL c1 nQ c2 nR c3 : Nat) (b3 o3 bi i team cn : Nat) (d tt rm : Int) (zz : Bool) (_ : Array Bool) (k : Nat) (v : Value) (_ : World) : Prop := match k with
  | 0 => v = .int .i64 d
  | 1 => v = .pointer (some ⟨X, 0, none⟩)
  | 2 => v = .pointer (some ⟨X, 1, none⟩)
  | 3 => v = .int .i64 tt
  | 4 => v = .bool true
  | 5 => v = .bool true
  | 6 => v = .agg #[.slice p nL c1, .slice q nQ c2, .slice r nR c3]
  | 7 => v = .int .i64 (team : Int)
  | 8 => v = .int .i64 d
  | 9 => v = .bool true
  | 10 => v = .bool true
  | 11 => v = .bool true
  | 12 => v = .slice (some ⟨qq, 0, none⟩) nL cq
  | 13 => v = .int .i64 (i : Int)
  | 14 => v = .pointer (some ⟨qq, i, none⟩)
  | 15 => v = .slice (some ⟨bi, 0, none⟩) nR nR
  | 16 => v = .int .i64 (team : Int)
  | 17 => v = .pointer (some ⟨bi, team, none⟩)
  | 18 => v = .int .i64 (cn : Int)
  | 19 => v = .pointer (some ⟨C, 2, none⟩)
  | 20 => v = .slice (some ⟨b3, o3, none⟩) nR c3
  | 21 => v = .int .i64 (team : Int)
  | 22 => v = .pointer (some ⟨b3, o3 + team, none⟩)
  | 23 => v = .int .i64 rm
  | 24 => v = .bool zz
  | 25 => v = .bool zz
  | _ => True
def GE0 (X C qq cq : Nat) (p q r : Option Addr) (nL c1 nQ c2 nR c3 : Nat) (b3 o3 bi i team cn : Nat) (d tt rm : Int) (zz : Bool) (_ : Array Bool) (k : Nat) (v : Value) (_ : World) : Prop := match k with
  | 0 => v = .int .i64 d
  | 1 => v = .pointer (some ⟨X, 0, none⟩)
  | 2 => v = .pointer (some ⟨X, 1, none⟩)
  | 3 => v = .int .i64 tt
  | 4 => v = .bool true
  | 5 => v = .bool true
  | 6 => v = .agg #[.slice p nL c1, .slice q nQ c2, .slice r nR c3]
  | 7 => v = .int .i64 (team : Int)
  | 8 => v = .int .i64 d
  | 9 => v = .bool false
  | 10 => v = .bool false
  | 11 => v = .bool false
  | 25 => v = .bool false
  | _ => True
/-- A day in window i is in no earlier one. -/
theorem fi_asc {L : List Win} {d : Int} {i : Nat} (hi : i < L.length) (h1 : (L.getD i win0).from_ ≤ d) (h2 : d < (L.getD i win0).to_) (hD : DaysOk L) : fi d L = i := by
  have hin : inD d (L.getD i win0) = true := by
    unfold inD
    rw [decide_eq_true h1, decide_eq_true h2]; rfl
  rcases Nat.lt_trichotomy (fi d L) i with h | h | h
  · exfalso
    have hg := fi_get (d := d) (L := L) (by omega)
    unfold inD at hg
    simp only [Bool.and_eq_true, decide_eq_true_eq] at hg
    have := asc_chain hD i hi _ h
    omega
  · exact h
  · have := fi_not h
    rw [hin] at this; cases this
def REarlP (L : List Win) (T : Nat → List Int) (R TS DS : List Int) (team : Nat) (w : World) (e : Ending) (w' : World) : Prop := ∃ r ok, e = .returned (.tuple #[.int .i64 r, .bool ok, .int .i64 0]) ∧ (ok = true → mayF L T r (team : Int) = true ∧ (cnt L TS DS TS.length (fi r L) team : Int) < R.getD team 0) ∧ Below w.heap.size w w'

set_option maxRecDepth 100000 in
set_option maxHeartbeats 8000000 in
theorem rearliest_good (p q r ta da : Option Addr) (L : List Win) (T : Nat → List Int) (Q R TS DS : List Int) (c1 c2 c3 c4 c5 team : Nat) (d0 : Int) (w : World) (h : GoodCal w p q r L T Q R) (hL1 : 1 ≤ L.length)
    (hTS : TeamsAt w ta TS) (hDS : TeamsAt w da DS) (hlen : DS.length = TS.length) (h24 : TS.length ≤ 24) (hts : TS.all (isT R.length) = true) (htm : team < R.length)
    (hmay : ∀ j, j < TS.length → mayF L T (DS.getD j 0) (TS.getD j 0) = true)
    (hfit : ∀ i t, i < L.length → t < R.length → (cnt L TS DS TS.length i t : Int) ≤ R.getD t 0) :
    Calls Try.prog 29 #[.agg #[.slice p L.length c1, .slice q Q.length c2, .slice r R.length c3], .slice ta TS.length c4, .slice da DS.length c5, .int .i64 (team : Int), .int .i64 d0] w (REarlP L T R TS DS team w) := by
  have hb0 := (Below.refl w.heap.size w).alloc (Nat.le_refl _) (.cells #[.slice p L.length c1, .slice q Q.length c2, .slice r R.length c3] 38)
  have hx : CalBox w.heap.size p q r L.length c1 Q.length c2 R.length c3 (w.alloc (.cells #[.slice p L.length c1, .slice q Q.length c2, .slice r R.length c3] 38)) := ⟨by simp, by simp, by simp⟩
  have hsz : w.heap.size ≤ (w.alloc (.cells #[.slice p L.length c1, .slice q Q.length c2, .slice r R.length c3] 38)).heap.size := by simp
  have hg := h.step hb0
  have l1 := h.l1; have l3 := h.l3
  have CK := Lib.hid (rcheck_good p q r L T Q R c1 c2 c3 _ hg)
  have CF := Lib.hid (fun W (hW : Below (w.alloc (.cells #[.slice p L.length c1, .slice q Q.length c2, .slice r R.length c3] 38)).heap.size (w.alloc (.cells #[.slice p L.length c1, .slice q Q.length c2, .slice r R.length c3] 38)) W) => rfits_good p q r ta da L T Q R TS DS c1 c2 c3 c4 c5 W (hg.step hW) hL1 ((hTS.step hb0).step hW) ((hDS.step hb0).step hW) hlen h24 hts hmay hfit)
  have CL := Lib.hid (fun W (hW : Below (w.alloc (.cells #[.slice p L.length c1, .slice q Q.length c2, .slice r R.length c3] 38)).heap.size (w.alloc (.cells #[.slice p L.length c1, .slice q Q.length c2, .slice r R.length c3] 38)) W) => rload_good p q r ta da L T Q R TS DS c1 c2 c3 c4 c5 W (hg.step hW) hL1 ((hTS.step hb0).step hW) ((hDS.step hb0).step hW) hlen h24 hts (fi_of_may hmay))
  have CM := Lib.hid (fun d W (hW : Below (w.alloc (.cells #[.slice p L.length c1, .slice q Q.length c2, .slice r R.length c3] 38)).heap.size (w.alloc (.cells #[.slice p L.length c1, .slice q Q.length c2, .slice r R.length c3] 38)) W) => rmay_any p q r c1 Q.length c2 R.length c3 L T (team : Int) d W (by omega) (hg.wins.step hW) (hg.ts.step hW))
  have HRM := Lib.hid hg.room; have HWN := Lib.hid hg.wins
  have HDO := Lib.hid (show DaysOk L from ⟨fun j hj => (days_of (h.days j hj)).2, h.asc⟩)
  have HX := Lib.hid hx; have HB0 := Lib.hid hb0; have HSZ := Lib.hid hsz
  obtain ⟨x0, x1, x2⟩ := hx
  clear h hg hb0 hsz hTS hDS hts hmay hfit
  rw [hlen] at CF CL ⊢
  obtain ⟨nL, hL⟩ : ∃ N, L.length = N := ⟨_, rfl⟩
  obtain ⟨nQ, hQ⟩ : ∃ N, Q.length = N := ⟨_, rfl⟩
  obtain ⟨nR, hR⟩ : ∃ N, R.length = N := ⟨_, rfl⟩
  obtain ⟨N, hN⟩ : ∃ N, TS.length = N := ⟨_, rfl⟩
  have HNT := Lib.hid hN; have HNL := Lib.hid hL; have HNR := Lib.hid hR
  rw [hL, hQ, hR] at HX HB0 HSZ x0 x1 x2 HRM CK CM HWN
  rw [hL, hQ, hR, hN] at CF CL
  rw [hL] at l1 hL1
  rw [hR] at l3 htm
  rw [hN] at h24
  rw [hL, hQ, hR, hN]
  have dN : decide (24 < N) = false := decide_eq_false (by omega)
  have m0 : decide ((team : Int) < 0) = false := decide_eq_false (by omega)
  have m1 : decide (nR ≤ team) = false := decide_eq_false (by omega)
  clear hlen hL hQ hR hN
  go_enter Try.func29, Try.ntmps29
  go_wp2_with fail
  generalize (w.alloc (.cells #[.slice p nL c1, .slice q nQ c2, .slice r nR c3] 38)) = W0 at *
  obtain ⟨C, hC⟩ : ∃ C, w.heap.size = C := ⟨_, rfl⟩
  rw [hC] at HX x0 x1 x2
  simp only [hC]
  have HC := Lib.hid hC
  clear hC
  refine (CK.out).mono ?_
  rintro e w1 ⟨rfl, hb1⟩
  have HB1 := Lib.hid hb1
  have CFX := Lib.hid (CF.out w1 hb1)
  clear x0 x1 x2
  obtain ⟨x0, x1, x2⟩ := HX.out.step hb1
  clear hb1 CF CK
  go_wp2_with fail
  refine (CFX.out).mono ?_
  rintro e w2 ⟨rfl, hb2⟩
  have HB2 := Lib.hid (HB1.out.trans (hb2.mono HB1.out.size))
  have CLX := Lib.hid (CL.out w2 HB2.out)
  clear x0 x1 x2
  obtain ⟨x0, x1, x2⟩ := HX.out.step HB2.out
  clear hb2 CL CFX HB1
  go_wp2_with fail
  refine (CLX.out).mono ?_
  rintro e w3 ⟨qq, cq, bs, rfl, hcq, hTab, hb3⟩
  rw [HNL.out] at hTab hcq ⊢
  have HB3 := Lib.hid (HB2.out.trans (hb3.mono HB2.out.size))
  have HTB := Lib.hid hTab
  rw [HNT.out] at HTB
  clear hb3 hTab x0 x1 x2 CLX HB2
  obtain ⟨x0, x1, x2⟩ := HX.out.step HB3.out
  go_wp2_with fail
  clear x0 x1 x2
  go_loopw [58] (fun iv wr => ∃ i : Nat, iv = .int .i64 (i : Int) ∧ i ≤ nL ∧ Below w3.heap.size w3 wr) (fun iv _ => nL - (intOf iv).toNat)
  case atStart => exact ⟨0, rfl, Nat.zero_le _, Below.refl _ _⟩
  case round =>
    obtain ⟨i, rfl, hi, hb⟩ := hrel
    have hbw := HB3.out.trans (hb.mono HB3.out.size)
    by_cases hlt : i < nL
    · obtain ⟨b, o, hp, e0, e1, e2⟩ := (HWN.out.step hbw) i (by rw [HNL.out]; exact hlt)
      obtain ⟨b3, o3, hp3, hrc⟩ := (HRM.out.step hbw) team (by rw [HNR.out]; exact htm)
      have hTb := HTB.out.step hb
      have d1 := hTb.cellq i hlt
      have d2 := hTb.cellr i team hlt htm
      subst hp
      subst hp3
      obtain ⟨bi, hbi⟩ : ∃ b, bs.getD i 0 = b := ⟨_, rfl⟩
      rw [hbi] at d1 d2
      obtain ⟨cn, hcn⟩ : ∃ c, cnt L TS DS N i team = c := ⟨_, rfl⟩
      rw [hcn] at d2
      obtain ⟨rm, hrm⟩ : ∃ x, R.getD team 0 = x := ⟨_, rfl⟩
      rw [hrm] at hrc
      have HCT := Lib.hid hcn; have HRT := Lib.hid hrm
      obtain ⟨f, hff⟩ : ∃ f, (L.getD i win0).from_ = f := ⟨_, rfl⟩
      obtain ⟨tt, htt⟩ : ∃ f, (L.getD i win0).to_ = f := ⟨_, rfl⟩
      rw [hff] at e0
      rw [htt] at e1
      have HFF := Lib.hid hff; have HTT := Lib.hid htt
      generalize (L.getD i win0).a = a' at *
      generalize (L.getD i win0).n = n' at *
      generalize (L.getD i win0).c = c' at *
      have hi0 : (0 : Int) ≤ (i : Int) := by omega
      have hi2 : (i : Int) < (nL : Int) := by omega
      have hdd : decide (i < nL) = true := decide_eq_true hlt
      have ht0 : (0 : Int) ≤ (team : Int) := by omega
      have ht1 : (team : Int) < (nR : Int) := by omega
      have hba := (Below.refl wr.heap.size wr).alloc (Nat.le_refl _) (.cells #[.int .i64 f, .int .i64 tt, .slice a' n' c'] 77)
      have HB3A := Lib.hid (hb.trans (hba.mono hb.size))
      have HBA := Lib.hid (hbw.trans (hba.mono hbw.size))
      have HXA := Lib.hid ((HX.out.step hbw).step hba)
      have HQI := Lib.hid (cell_later' hba d1); have HCN := Lib.hid (cell_later' hba d2); have HRMC := Lib.hid (cell_later' hba hrc)
      obtain ⟨X, hX⟩ : ∃ X, wr.heap.size = X := ⟨_, rfl⟩
      have HXH := Lib.hid (show (wr.alloc (.cells #[.int .i64 f, .int .i64 tt, .slice a' n' c'] 77)).heap[X]? = some (.cells #[.int .i64 f, .int .i64 tt, .slice a' n' c'] 77 (0, 0)) by rw [← hX]; exact heap_alloc_new _ _)
      obtain ⟨d, hd⟩ : ∃ d, max d0 f = d := ⟨_, rfl⟩
      have HD := Lib.hid hd
      have hkey : (d0 < f ∧ d = f) ∨ (¬ d0 < f ∧ d = d0) := by omega
      obtain ⟨m, hm⟩ : ∃ m, mayF L T d (team : Int) = m := ⟨_, rfl⟩
      obtain ⟨zz, hzz⟩ : ∃ z, decide ((cn : Int) < rm) = z := ⟨_, rfl⟩
      have HMY := Lib.hid hm; have HZZ := Lib.hid hzz
      clear hb hbw hTb d1 d2 hrc hbi hcn hrm hff htt hba hd hm hzz
      rcases hkey with ⟨hk1, hk2⟩ | ⟨hk1, hk2⟩
      all_goals
        subst hk2
        go_upto_region 18 with fail
        clear e0 e1 e2 hX
        generalize hWA : (wr.alloc (.cells #[.int .i64 _, .int .i64 tt, .slice a' n' c'] 77)) = wA at *
        clear hWA
        have z1 := cell_of_row _ X 1 _ _ _ HXH.out
        simp at z1
        by_cases h2 : d < tt
        · have g2 : decide (d < tt) = true := decide_eq_true h2
          clear z1
          cases m with
          | false =>
            refine region_factsC (by kernel_rfl) (GE0 X C qq cq (some ⟨b, o, none⟩) q (some ⟨b3, o3, none⟩) nL c1 nQ c2 nR c3 b3 o3 bi i team cn d tt rm zz) (fun _ W => Below wA.heap.size wA W) (by kernel_rfl) (by kernel_rfl) ?h0 ?hstep ?hend
            case h0 => exact below_drewN (Below.refl _ _) 1
            case hstep =>
              intro i oo l a W ho hat K hK
              have hi : i < 26 := (Array.getElem?_eq_some_iff.1 ho).1
              obtain rfl | rfl | rfl | rfl | rfl | rfl | rfl | rfl | rfl | rfl | rfl | rfl | rfl | rfl | rfl | rfl | rfl | rfl | rfl | rfl | rfl | rfl | rfl | rfl | rfl | rfl : i = 0 ∨ i = 1 ∨ i = 2 ∨ i = 3 ∨ i = 4 ∨ i = 5 ∨ i = 6 ∨ i = 7 ∨ i = 8 ∨ i = 9 ∨ i = 10 ∨ i = 11 ∨ i = 12 ∨ i = 13 ∨ i = 14 ∨ i = 15 ∨ i = 16 ∨ i = 17 ∨ i = 18 ∨ i = 19 ∨ i = 20 ∨ i = 21 ∨ i = 22 ∨ i = 23 ∨ i = 24 ∨ i = 25 := by omega
              all_goals
                have ho := Option.some.inj (show some _ = some oo from ho)
                subst ho
              · have e0 : a.tmps[18]?.getD undef = .int .i64 d := hat.out 18 (by kernel_rfl)
                have HF1 := Lib.hid (hK (.int .i64 d) W rfl (fun _ _ _ h => h) hat.base)
                clear hat hK
                go_simp
                exact HF1.out
              · have e0 : a.tmps[17]?.getD undef = .pointer (some ⟨X, 0, none⟩) := hat.out 17 (by kernel_rfl)
                have HF1 := Lib.hid (hK (.pointer (some ⟨X, 0, none⟩)) W rfl (fun _ _ _ h => h) hat.base)
                clear hat hK
                go_simp
                exact HF1.out
              · have e0 : a.tmps[69]?.getD undef = .pointer (some ⟨X, 0, none⟩) := hat.have_ 1 69 (by kernel_rfl) (hat.dep 1 (by kernel_rfl))
                have HF1 := Lib.hid (hK (.pointer (some ⟨X, 1, none⟩)) W rfl (fun _ _ _ h => h) hat.base)
                clear hat hK
                go_simp
                exact HF1.out
              · have e0 : a.tmps[70]?.getD undef = .pointer (some ⟨X, 1, none⟩) := hat.have_ 2 70 (by kernel_rfl) (hat.dep 2 (by kernel_rfl))
                have hxw := (hat.base.block X (lt_of_heap HXH.out)).trans HXH.out
                have z1 := cell_of_row _ X 1 _ _ _ hxw
                simp at z1
                clear hxw
                have HF1 := Lib.hid (hK (.int .i64 tt) W rfl (fun _ _ _ h => h) hat.base)
                clear hat hK
                go_simp
                exact HF1.out
              · have e0 : a.tmps[68]?.getD undef = .int .i64 d := hat.have_ 0 68 (by kernel_rfl) (hat.dep 0 (by kernel_rfl))
                have e1 : a.tmps[71]?.getD undef = .int .i64 tt := hat.have_ 3 71 (by kernel_rfl) (hat.dep 3 (by kernel_rfl))
                have HF1 := Lib.hid (hK (.bool true) W rfl (fun _ _ _ h => h) hat.base)
                clear hat hK
                go_simp
                exact HF1.out
              · have e0 : a.tmps[72]?.getD undef = .bool true := hat.have_ 4 72 (by kernel_rfl) (hat.dep 4 (by kernel_rfl))
                have HF1 := Lib.hid (hK (.bool true) W rfl (fun _ _ _ h => h) hat.base)
                clear hat hK
                go_simp
                exact HF1.out
              · have e0 : a.tmps[5]?.getD undef = .pointer (some ⟨C, 0, none⟩) := hat.out 5 (by kernel_rfl)
                have hgd : a.tmps[73]? = some (.bool true) := some_getD (hat.have_ 5 73 (by kernel_rfl) (hat.dep 5 (by kernel_rfl)))
                obtain ⟨x0, x1, x2⟩ := HXA.out.step hat.base
                have HF1 := Lib.hid (hK (.agg #[.slice (some ⟨b, o, none⟩) nL c1, .slice q nQ c2, .slice (some ⟨b3, o3, none⟩) nR c3]) W rfl (fun _ _ _ h => h) hat.base)
                clear hat hK
                go_simp
                exact HF1.out
              · have e0 : a.tmps[3]?.getD undef = .int .i64 (team : Int) := hat.out 3 (by kernel_rfl)
                have hgd : a.tmps[73]? = some (.bool true) := some_getD (hat.have_ 5 73 (by kernel_rfl) (hat.dep 5 (by kernel_rfl)))
                have HF1 := Lib.hid (hK (.int .i64 (team : Int)) W rfl (fun _ _ _ h => h) hat.base)
                clear hat hK
                go_simp
                exact HF1.out
              · have e0 : a.tmps[18]?.getD undef = .int .i64 d := hat.out 18 (by kernel_rfl)
                have hgd : a.tmps[73]? = some (.bool true) := some_getD (hat.have_ 5 73 (by kernel_rfl) (hat.dep 5 (by kernel_rfl)))
                have HF1 := Lib.hid (hK (.int .i64 d) W rfl (fun _ _ _ h => h) hat.base)
                clear hat hK
                go_simp
                exact HF1.out
              · have hgd : a.tmps[73]? = some (.bool true) := some_getD (hat.have_ 5 73 (by kernel_rfl) (hat.dep 5 (by kernel_rfl)))
                have e0 : a.tmps[74]?.getD undef = .agg #[.slice (some ⟨b, o, none⟩) nL c1, .slice q nQ c2, .slice (some ⟨b3, o3, none⟩) nR c3] := hat.have_ 6 74 (by kernel_rfl) (hat.dep 6 (by kernel_rfl))
                have e1 : a.tmps[75]?.getD undef = .int .i64 (team : Int) := hat.have_ 7 75 (by kernel_rfl) (hat.dep 7 (by kernel_rfl))
                have e2 : a.tmps[76]?.getD undef = .int .i64 d := hat.have_ 8 76 (by kernel_rfl) (hat.dep 8 (by kernel_rfl))
                have CMW := Lib.hid (CM.out d W (HBA.out.trans (hat.base.mono HBA.out.size)))
                rw [HMY.out] at CMW
                have HH := Lib.hid (And.intro hat hK)
                clear hat hK
                go_simp
                refine (CMW.out).mono ?_
                rintro e w' ⟨rfl, hbx⟩
                obtain ⟨hat, hK⟩ := HH.out
                exact hK _ _ rfl (fun _ _ _ h => h) (hat.base.trans (hbx.mono hat.base.size))
              · have e0 : a.tmps[73]?.getD undef = .bool true := hat.have_ 5 73 (by kernel_rfl) (hat.dep 5 (by kernel_rfl))
                have e1 : a.tmps[77]?.getD undef = .bool false := hat.have_ 9 77 (by kernel_rfl) (hat.dep 9 (by kernel_rfl))
                have HF1 := Lib.hid (hK (.bool false) W rfl (fun _ _ _ h => h) hat.base)
                clear hat hK
                go_simp
                exact HF1.out
              · have e0 : a.tmps[78]?.getD undef = .bool false := hat.have_ 10 78 (by kernel_rfl) (hat.dep 10 (by kernel_rfl))
                have HF1 := Lib.hid (hK (.bool false) W rfl (fun _ _ _ h => h) hat.base)
                clear hat hK
                go_simp
                exact HF1.out
              · have hgd : a.tmps[79]? = some (.bool false) := some_getD (hat.have_ 11 79 (by kernel_rfl) (hat.dep 11 (by kernel_rfl)))
                have HF1 := Lib.hid (hK undef W trivial (fun _ _ _ h => h) hat.base)
                clear hat hK
                go_simp
                exact HF1.out
              · have hgd : a.tmps[79]? = some (.bool false) := some_getD (hat.have_ 11 79 (by kernel_rfl) (hat.dep 11 (by kernel_rfl)))
                have HF1 := Lib.hid (hK undef W trivial (fun _ _ _ h => h) hat.base)
                clear hat hK
                go_simp
                exact HF1.out
              · have hgd : a.tmps[79]? = some (.bool false) := some_getD (hat.have_ 11 79 (by kernel_rfl) (hat.dep 11 (by kernel_rfl)))
                have HF1 := Lib.hid (hK undef W trivial (fun _ _ _ h => h) hat.base)
                clear hat hK
                go_simp
                exact HF1.out
              · have hgd : a.tmps[79]? = some (.bool false) := some_getD (hat.have_ 11 79 (by kernel_rfl) (hat.dep 11 (by kernel_rfl)))
                have HF1 := Lib.hid (hK undef W trivial (fun _ _ _ h => h) hat.base)
                clear hat hK
                go_simp
                exact HF1.out
              · have hgd : a.tmps[79]? = some (.bool false) := some_getD (hat.have_ 11 79 (by kernel_rfl) (hat.dep 11 (by kernel_rfl)))
                have HF1 := Lib.hid (hK undef W trivial (fun _ _ _ h => h) hat.base)
                clear hat hK
                go_simp
                exact HF1.out
              · have hgd : a.tmps[79]? = some (.bool false) := some_getD (hat.have_ 11 79 (by kernel_rfl) (hat.dep 11 (by kernel_rfl)))
                have HF1 := Lib.hid (hK undef W trivial (fun _ _ _ h => h) hat.base)
                clear hat hK
                go_simp
                exact HF1.out
              · have hgd : a.tmps[79]? = some (.bool false) := some_getD (hat.have_ 11 79 (by kernel_rfl) (hat.dep 11 (by kernel_rfl)))
                have HF1 := Lib.hid (hK undef W trivial (fun _ _ _ h => h) hat.base)
                clear hat hK
                go_simp
                exact HF1.out
              · have hgd : a.tmps[79]? = some (.bool false) := some_getD (hat.have_ 11 79 (by kernel_rfl) (hat.dep 11 (by kernel_rfl)))
                have HF1 := Lib.hid (hK undef W trivial (fun _ _ _ h => h) hat.base)
                clear hat hK
                go_simp
                exact HF1.out
              · have hgd : a.tmps[79]? = some (.bool false) := some_getD (hat.have_ 11 79 (by kernel_rfl) (hat.dep 11 (by kernel_rfl)))
                have HF1 := Lib.hid (hK undef W trivial (fun _ _ _ h => h) hat.base)
                clear hat hK
                go_simp
                exact HF1.out
              · have hgd : a.tmps[79]? = some (.bool false) := some_getD (hat.have_ 11 79 (by kernel_rfl) (hat.dep 11 (by kernel_rfl)))
                have HF1 := Lib.hid (hK undef W trivial (fun _ _ _ h => h) hat.base)
                clear hat hK
                go_simp
                exact HF1.out
              · have hgd : a.tmps[79]? = some (.bool false) := some_getD (hat.have_ 11 79 (by kernel_rfl) (hat.dep 11 (by kernel_rfl)))
                have HF1 := Lib.hid (hK undef W trivial (fun _ _ _ h => h) hat.base)
                clear hat hK
                go_simp
                exact HF1.out
              · have hgd : a.tmps[79]? = some (.bool false) := some_getD (hat.have_ 11 79 (by kernel_rfl) (hat.dep 11 (by kernel_rfl)))
                have HF1 := Lib.hid (hK undef W trivial (fun _ _ _ h => h) hat.base)
                clear hat hK
                go_simp
                exact HF1.out
              · have hgd : a.tmps[79]? = some (.bool false) := some_getD (hat.have_ 11 79 (by kernel_rfl) (hat.dep 11 (by kernel_rfl)))
                have HF1 := Lib.hid (hK undef W trivial (fun _ _ _ h => h) hat.base)
                clear hat hK
                go_simp
                exact HF1.out
              · have e0 : a.tmps[79]?.getD undef = .bool false := hat.have_ 11 79 (by kernel_rfl) (hat.dep 11 (by kernel_rfl))
                have HF1 := Lib.hid (hK (.bool false) W rfl (fun _ _ _ h => h) hat.base)
                clear hat hK
                go_simp
                exact HF1.out
            case hend =>
              intro l u wc hall hG hB
              have e25 : u 25 = .bool false := hG 25 93 (by kernel_rfl)
              have HBC := Lib.hid (HB3A.out.trans (hB.mono HB3A.out.size))
              clear hG hB hall
              simp only [putAll, Act.put, List.setIfInBounds_toArray, List.set_cons_zero, List.set_cons_succ, Nat.zero_add, Nat.reduceAdd]
              rw [e25]
              clear e25
              generalize u 0 = y0; generalize u 1 = y1; generalize u 2 = y2; generalize u 3 = y3; generalize u 4 = y4; generalize u 5 = y5; generalize u 6 = y6; generalize u 7 = y7; generalize u 8 = y8; generalize u 9 = y9; generalize u 10 = y10; generalize u 11 = y11; generalize u 12 = y12; generalize u 13 = y13; generalize u 14 = y14; generalize u 15 = y15; generalize u 16 = y16; generalize u 17 = y17; generalize u 18 = y18; generalize u 19 = y19; generalize u 20 = y20; generalize u 21 = y21; generalize u 22 = y22; generalize u 23 = y23; generalize u 24 = y24
              go_wp2_with fail
              go_roundw
              case rel => exact ⟨i + 1, by go_num, by omega, HBC.out⟩
              case measure => simp [intOf]; omega
          | true =>
            refine region_factsC (by kernel_rfl) (GE1 X C qq cq (some ⟨b, o, none⟩) q (some ⟨b3, o3, none⟩) nL c1 nQ c2 nR c3 b3 o3 bi i team cn d tt rm zz) (fun _ W => Below wA.heap.size wA W) (by kernel_rfl) (by kernel_rfl) ?h0 ?hstep ?hend
            case h0 => exact below_drewN (Below.refl _ _) 1
            case hstep =>
              intro i oo l a W ho hat K hK
              have hi : i < 26 := (Array.getElem?_eq_some_iff.1 ho).1
              obtain rfl | rfl | rfl | rfl | rfl | rfl | rfl | rfl | rfl | rfl | rfl | rfl | rfl | rfl | rfl | rfl | rfl | rfl | rfl | rfl | rfl | rfl | rfl | rfl | rfl | rfl : i = 0 ∨ i = 1 ∨ i = 2 ∨ i = 3 ∨ i = 4 ∨ i = 5 ∨ i = 6 ∨ i = 7 ∨ i = 8 ∨ i = 9 ∨ i = 10 ∨ i = 11 ∨ i = 12 ∨ i = 13 ∨ i = 14 ∨ i = 15 ∨ i = 16 ∨ i = 17 ∨ i = 18 ∨ i = 19 ∨ i = 20 ∨ i = 21 ∨ i = 22 ∨ i = 23 ∨ i = 24 ∨ i = 25 := by omega
              all_goals
                have ho := Option.some.inj (show some _ = some oo from ho)
                subst ho
              · have e0 : a.tmps[18]?.getD undef = .int .i64 d := hat.out 18 (by kernel_rfl)
                have HF1 := Lib.hid (hK (.int .i64 d) W rfl (fun _ _ _ h => h) hat.base)
                clear hat hK
                go_simp
                exact HF1.out
              · have e0 : a.tmps[17]?.getD undef = .pointer (some ⟨X, 0, none⟩) := hat.out 17 (by kernel_rfl)
                have HF1 := Lib.hid (hK (.pointer (some ⟨X, 0, none⟩)) W rfl (fun _ _ _ h => h) hat.base)
                clear hat hK
                go_simp
                exact HF1.out
              · have e0 : a.tmps[69]?.getD undef = .pointer (some ⟨X, 0, none⟩) := hat.have_ 1 69 (by kernel_rfl) (hat.dep 1 (by kernel_rfl))
                have HF1 := Lib.hid (hK (.pointer (some ⟨X, 1, none⟩)) W rfl (fun _ _ _ h => h) hat.base)
                clear hat hK
                go_simp
                exact HF1.out
              · have e0 : a.tmps[70]?.getD undef = .pointer (some ⟨X, 1, none⟩) := hat.have_ 2 70 (by kernel_rfl) (hat.dep 2 (by kernel_rfl))
                have hxw := (hat.base.block X (lt_of_heap HXH.out)).trans HXH.out
                have z1 := cell_of_row _ X 1 _ _ _ hxw
                simp at z1
                clear hxw
                have HF1 := Lib.hid (hK (.int .i64 tt) W rfl (fun _ _ _ h => h) hat.base)
                clear hat hK
                go_simp
                exact HF1.out
              · have e0 : a.tmps[68]?.getD undef = .int .i64 d := hat.have_ 0 68 (by kernel_rfl) (hat.dep 0 (by kernel_rfl))
                have e1 : a.tmps[71]?.getD undef = .int .i64 tt := hat.have_ 3 71 (by kernel_rfl) (hat.dep 3 (by kernel_rfl))
                have HF1 := Lib.hid (hK (.bool true) W rfl (fun _ _ _ h => h) hat.base)
                clear hat hK
                go_simp
                exact HF1.out
              · have e0 : a.tmps[72]?.getD undef = .bool true := hat.have_ 4 72 (by kernel_rfl) (hat.dep 4 (by kernel_rfl))
                have HF1 := Lib.hid (hK (.bool true) W rfl (fun _ _ _ h => h) hat.base)
                clear hat hK
                go_simp
                exact HF1.out
              · have e0 : a.tmps[5]?.getD undef = .pointer (some ⟨C, 0, none⟩) := hat.out 5 (by kernel_rfl)
                have hgd : a.tmps[73]? = some (.bool true) := some_getD (hat.have_ 5 73 (by kernel_rfl) (hat.dep 5 (by kernel_rfl)))
                obtain ⟨x0, x1, x2⟩ := HXA.out.step hat.base
                have HF1 := Lib.hid (hK (.agg #[.slice (some ⟨b, o, none⟩) nL c1, .slice q nQ c2, .slice (some ⟨b3, o3, none⟩) nR c3]) W rfl (fun _ _ _ h => h) hat.base)
                clear hat hK
                go_simp
                exact HF1.out
              · have e0 : a.tmps[3]?.getD undef = .int .i64 (team : Int) := hat.out 3 (by kernel_rfl)
                have hgd : a.tmps[73]? = some (.bool true) := some_getD (hat.have_ 5 73 (by kernel_rfl) (hat.dep 5 (by kernel_rfl)))
                have HF1 := Lib.hid (hK (.int .i64 (team : Int)) W rfl (fun _ _ _ h => h) hat.base)
                clear hat hK
                go_simp
                exact HF1.out
              · have e0 : a.tmps[18]?.getD undef = .int .i64 d := hat.out 18 (by kernel_rfl)
                have hgd : a.tmps[73]? = some (.bool true) := some_getD (hat.have_ 5 73 (by kernel_rfl) (hat.dep 5 (by kernel_rfl)))
                have HF1 := Lib.hid (hK (.int .i64 d) W rfl (fun _ _ _ h => h) hat.base)
                clear hat hK
                go_simp
                exact HF1.out
              · have hgd : a.tmps[73]? = some (.bool true) := some_getD (hat.have_ 5 73 (by kernel_rfl) (hat.dep 5 (by kernel_rfl)))
                have e0 : a.tmps[74]?.getD undef = .agg #[.slice (some ⟨b, o, none⟩) nL c1, .slice q nQ c2, .slice (some ⟨b3, o3, none⟩) nR c3] := hat.have_ 6 74 (by kernel_rfl) (hat.dep 6 (by kernel_rfl))
                have e1 : a.tmps[75]?.getD undef = .int .i64 (team : Int) := hat.have_ 7 75 (by kernel_rfl) (hat.dep 7 (by kernel_rfl))
                have e2 : a.tmps[76]?.getD undef = .int .i64 d := hat.have_ 8 76 (by kernel_rfl) (hat.dep 8 (by kernel_rfl))
                have CMW := Lib.hid (CM.out d W (HBA.out.trans (hat.base.mono HBA.out.size)))
                rw [HMY.out] at CMW
                have HH := Lib.hid (And.intro hat hK)
                clear hat hK
                go_simp
                refine (CMW.out).mono ?_
                rintro e w' ⟨rfl, hbx⟩
                obtain ⟨hat, hK⟩ := HH.out
                exact hK _ _ rfl (fun _ _ _ h => h) (hat.base.trans (hbx.mono hat.base.size))
              · have e0 : a.tmps[73]?.getD undef = .bool true := hat.have_ 5 73 (by kernel_rfl) (hat.dep 5 (by kernel_rfl))
                have e1 : a.tmps[77]?.getD undef = .bool true := hat.have_ 9 77 (by kernel_rfl) (hat.dep 9 (by kernel_rfl))
                have HF1 := Lib.hid (hK (.bool true) W rfl (fun _ _ _ h => h) hat.base)
                clear hat hK
                go_simp
                exact HF1.out
              · have e0 : a.tmps[78]?.getD undef = .bool true := hat.have_ 10 78 (by kernel_rfl) (hat.dep 10 (by kernel_rfl))
                have HF1 := Lib.hid (hK (.bool true) W rfl (fun _ _ _ h => h) hat.base)
                clear hat hK
                go_simp
                exact HF1.out
              · have e0 : a.tmps[15]?.getD undef = .slice (some ⟨qq, 0, none⟩) nL cq := hat.out 15 (by kernel_rfl)
                have hgd : a.tmps[79]? = some (.bool true) := some_getD (hat.have_ 11 79 (by kernel_rfl) (hat.dep 11 (by kernel_rfl)))
                have HF1 := Lib.hid (hK (.slice (some ⟨qq, 0, none⟩) nL cq) W rfl (fun _ _ _ h => h) hat.base)
                clear hat hK
                go_simp
                exact HF1.out
              · have e0 : a.tmps[16]?.getD undef = .int .i64 (i : Int) := hat.out 16 (by kernel_rfl)
                have hgd : a.tmps[79]? = some (.bool true) := some_getD (hat.have_ 11 79 (by kernel_rfl) (hat.dep 11 (by kernel_rfl)))
                have HF1 := Lib.hid (hK (.int .i64 (i : Int)) W rfl (fun _ _ _ h => h) hat.base)
                clear hat hK
                go_simp
                exact HF1.out
              · have e0 : a.tmps[80]?.getD undef = .slice (some ⟨qq, 0, none⟩) nL cq := hat.have_ 12 80 (by kernel_rfl) (hat.dep 12 (by kernel_rfl))
                have e1 : a.tmps[81]?.getD undef = .int .i64 (i : Int) := hat.have_ 13 81 (by kernel_rfl) (hat.dep 13 (by kernel_rfl))
                have hgd : a.tmps[79]? = some (.bool true) := some_getD (hat.have_ 11 79 (by kernel_rfl) (hat.dep 11 (by kernel_rfl)))
                have HF1 := Lib.hid (hK (.pointer (some ⟨qq, i, none⟩)) W rfl (fun _ _ _ h => h) hat.base)
                clear hat hK
                go_simp
                exact HF1.out
              · have e0 : a.tmps[82]?.getD undef = .pointer (some ⟨qq, i, none⟩) := hat.have_ 14 82 (by kernel_rfl) (hat.dep 14 (by kernel_rfl))
                have hgd : a.tmps[79]? = some (.bool true) := some_getD (hat.have_ 11 79 (by kernel_rfl) (hat.dep 11 (by kernel_rfl)))
                have cd := cell_later' hat.base HQI.out
                have HF1 := Lib.hid (hK (.slice (some ⟨bi, 0, none⟩) nR nR) W rfl (fun _ _ _ h => h) hat.base)
                clear hat hK
                go_simp
                exact HF1.out
              · have e0 : a.tmps[3]?.getD undef = .int .i64 (team : Int) := hat.out 3 (by kernel_rfl)
                have hgd : a.tmps[79]? = some (.bool true) := some_getD (hat.have_ 11 79 (by kernel_rfl) (hat.dep 11 (by kernel_rfl)))
                have HF1 := Lib.hid (hK (.int .i64 (team : Int)) W rfl (fun _ _ _ h => h) hat.base)
                clear hat hK
                go_simp
                exact HF1.out
              · have e0 : a.tmps[83]?.getD undef = .slice (some ⟨bi, 0, none⟩) nR nR := hat.have_ 15 83 (by kernel_rfl) (hat.dep 15 (by kernel_rfl))
                have e1 : a.tmps[84]?.getD undef = .int .i64 (team : Int) := hat.have_ 16 84 (by kernel_rfl) (hat.dep 16 (by kernel_rfl))
                have hgd : a.tmps[79]? = some (.bool true) := some_getD (hat.have_ 11 79 (by kernel_rfl) (hat.dep 11 (by kernel_rfl)))
                have HF1 := Lib.hid (hK (.pointer (some ⟨bi, team, none⟩)) W rfl (fun _ _ _ h => h) hat.base)
                clear hat hK
                go_simp
                exact HF1.out
              · have e0 : a.tmps[85]?.getD undef = .pointer (some ⟨bi, team, none⟩) := hat.have_ 17 85 (by kernel_rfl) (hat.dep 17 (by kernel_rfl))
                have hgd : a.tmps[79]? = some (.bool true) := some_getD (hat.have_ 11 79 (by kernel_rfl) (hat.dep 11 (by kernel_rfl)))
                have cd := cell_later' hat.base HCN.out
                have HF1 := Lib.hid (hK (.int .i64 (cn : Int)) W rfl (fun _ _ _ h => h) hat.base)
                clear hat hK
                go_simp
                exact HF1.out
              · have e0 : a.tmps[5]?.getD undef = .pointer (some ⟨C, 0, none⟩) := hat.out 5 (by kernel_rfl)
                have hgd : a.tmps[79]? = some (.bool true) := some_getD (hat.have_ 11 79 (by kernel_rfl) (hat.dep 11 (by kernel_rfl)))
                have HF1 := Lib.hid (hK (.pointer (some ⟨C, 2, none⟩)) W rfl (fun _ _ _ h => h) hat.base)
                clear hat hK
                go_simp
                exact HF1.out
              · have e0 : a.tmps[87]?.getD undef = .pointer (some ⟨C, 2, none⟩) := hat.have_ 19 87 (by kernel_rfl) (hat.dep 19 (by kernel_rfl))
                have hgd : a.tmps[79]? = some (.bool true) := some_getD (hat.have_ 11 79 (by kernel_rfl) (hat.dep 11 (by kernel_rfl)))
                obtain ⟨x0, x1, x2⟩ := HXA.out.step hat.base
                have HF1 := Lib.hid (hK (.slice (some ⟨b3, o3, none⟩) nR c3) W rfl (fun _ _ _ h => h) hat.base)
                clear hat hK
                go_simp
                exact HF1.out
              · have e0 : a.tmps[3]?.getD undef = .int .i64 (team : Int) := hat.out 3 (by kernel_rfl)
                have hgd : a.tmps[79]? = some (.bool true) := some_getD (hat.have_ 11 79 (by kernel_rfl) (hat.dep 11 (by kernel_rfl)))
                have HF1 := Lib.hid (hK (.int .i64 (team : Int)) W rfl (fun _ _ _ h => h) hat.base)
                clear hat hK
                go_simp
                exact HF1.out
              · have e0 : a.tmps[88]?.getD undef = .slice (some ⟨b3, o3, none⟩) nR c3 := hat.have_ 20 88 (by kernel_rfl) (hat.dep 20 (by kernel_rfl))
                have e1 : a.tmps[89]?.getD undef = .int .i64 (team : Int) := hat.have_ 21 89 (by kernel_rfl) (hat.dep 21 (by kernel_rfl))
                have hgd : a.tmps[79]? = some (.bool true) := some_getD (hat.have_ 11 79 (by kernel_rfl) (hat.dep 11 (by kernel_rfl)))
                have HF1 := Lib.hid (hK (.pointer (some ⟨b3, o3 + team, none⟩)) W rfl (fun _ _ _ h => h) hat.base)
                clear hat hK
                go_simp
                exact HF1.out
              · have e0 : a.tmps[90]?.getD undef = .pointer (some ⟨b3, o3 + team, none⟩) := hat.have_ 22 90 (by kernel_rfl) (hat.dep 22 (by kernel_rfl))
                have hgd : a.tmps[79]? = some (.bool true) := some_getD (hat.have_ 11 79 (by kernel_rfl) (hat.dep 11 (by kernel_rfl)))
                have cd := cell_later' hat.base HRMC.out
                have HF1 := Lib.hid (hK (.int .i64 rm) W rfl (fun _ _ _ h => h) hat.base)
                clear hat hK
                go_simp
                exact HF1.out
              · have e0 : a.tmps[86]?.getD undef = .int .i64 (cn : Int) := hat.have_ 18 86 (by kernel_rfl) (hat.dep 18 (by kernel_rfl))
                have e1 : a.tmps[91]?.getD undef = .int .i64 rm := hat.have_ 23 91 (by kernel_rfl) (hat.dep 23 (by kernel_rfl))
                have hgd : a.tmps[79]? = some (.bool true) := some_getD (hat.have_ 11 79 (by kernel_rfl) (hat.dep 11 (by kernel_rfl)))
                have hzz := HZZ.out
                have HF1 := Lib.hid (hK (.bool zz) W rfl (fun _ _ _ h => h) hat.base)
                clear hat hK
                go_simp
                exact HF1.out
              · have e0 : a.tmps[79]?.getD undef = .bool true := hat.have_ 11 79 (by kernel_rfl) (hat.dep 11 (by kernel_rfl))
                have e1 : a.tmps[92]?.getD undef = .bool zz := hat.have_ 24 92 (by kernel_rfl) (hat.dep 24 (by kernel_rfl))
                have HF1 := Lib.hid (hK (.bool zz) W rfl (fun _ _ _ h => h) hat.base)
                clear hat hK
                go_simp
                exact HF1.out
            case hend =>
              intro l u wc hall hG hB
              have e25 : u 25 = .bool zz := hG 25 93 (by kernel_rfl)
              have HBC := Lib.hid (HB3A.out.trans (hB.mono HB3A.out.size))
              have HBF := Lib.hid (HBA.out.trans (hB.mono HBA.out.size))
              clear hG hB hall
              simp only [putAll, Act.put, List.setIfInBounds_toArray, List.set_cons_zero, List.set_cons_succ, Nat.zero_add, Nat.reduceAdd]
              rw [e25]
              clear e25
              generalize u 0 = y0; generalize u 1 = y1; generalize u 2 = y2; generalize u 3 = y3; generalize u 4 = y4; generalize u 5 = y5; generalize u 6 = y6; generalize u 7 = y7; generalize u 8 = y8; generalize u 9 = y9; generalize u 10 = y10; generalize u 11 = y11; generalize u 12 = y12; generalize u 13 = y13; generalize u 14 = y14; generalize u 15 = y15; generalize u 16 = y16; generalize u 17 = y17; generalize u 18 = y18; generalize u 19 = y19; generalize u 20 = y20; generalize u 21 = y21; generalize u 22 = y22; generalize u 23 = y23; generalize u 24 = y24
              cases zz with
              | false =>
                go_wp2_with fail
                go_roundw
                case rel => exact ⟨i + 1, by go_num, by omega, HBC.out⟩
                case measure => simp [intOf]; omega
              | true =>
                have hfe : fi d L = i := fi_asc (by rw [HNL.out]; exact hlt) (by have := HFF.out; have := HD.out; omega) (by have := HTT.out; omega) HDO.out
                have HFE := Lib.hid hfe
                clear hfe
                go_wp2_with fail
                exact bodyPost_ret (v := .tuple #[.int .i64 d, .bool true, .int .i64 0]) (by simp [results, Try.results29, go_sem]) rfl ⟨d, true, rfl, (fun _ => ⟨HMY.out, by rw [HNT.out, HFE.out, HCT.out, HRT.out]; exact of_decide_eq_true HZZ.out⟩), HB0.out.trans (HBF.out.mono HSZ.out)⟩
        · have g2 : decide (d < tt) = false := decide_eq_false h2
          go_quiet (fail)
          have HBD := Lib.hid (below_drewN HB3A.out nq)
          go_wp2_with fail
          go_roundw
          case rel => exact ⟨i + 1, by go_num, by omega, HBD.out⟩
          case measure => simp [intOf]; omega
    · have hdd : decide (i < nL) = false := decide_eq_false hlt
      have hni : ¬ (i : Int) < (nL : Int) := by omega
      have HBW := Lib.hid hbw
      clear hb hbw
      go_wp2_with fail
      exact bodyPost_ret (v := .tuple #[.int .i64 0, .bool false, .int .i64 0]) (by simp [results, Try.results29, go_sem]) rfl ⟨0, false, rfl, (fun h => by cases h), HB0.out.trans (HBW.out.mono HSZ.out)⟩
end Go.Proofs.Ytnconhbambhhgaa
