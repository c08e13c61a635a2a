/- The law WindowLoads: sums of loads; the walk. -/
import Derived.Test.YtnconhbambhhgaaLoA
import Derived.Test.YtnconhbambhhgaaFiA
import Derived.Test.YtnconhbambhhgaaLdD
import Derived.Test.YtnconhbambhhgaaLdE
import Derived.Test.YtnconhbambhhgaaWnI
namespace Go.Proofs.Ytnconhbambhhgaa
open Go.RowKit
set_option linter.all false

def sumT (M : Nat → Nat) : Nat → Nat
  | 0 => 0
  | t + 1 => sumT M t + M t
def sumI (M : Nat → Nat → Nat) (n : Nat) : Nat → Nat
  | 0 => 0
  | i + 1 => sumI M n i + sumT (M i) n
theorem sumT_succ (M : Nat → Nat) (t : Nat) : sumT M (t + 1) = sumT M t + M t := rfl
theorem sumI_succ (M : Nat → Nat → Nat) (n i : Nat) : sumI M n (i + 1) = sumI M n i + sumT (M i) n := rfl
theorem sumT_le {M : Nat → Nat} {c : Nat} (h : ∀ t, M t ≤ c) (t : Nat) (hc : c ≤ 24) : sumT M t ≤ 24 * t := by
  induction t with
  | zero => exact Nat.le_refl _
  | succ t ih => rw [sumT_succ]; have := h t; omega
theorem sumI_le {M : Nat → Nat → Nat} {c n : Nat} (h : ∀ i t, M i t ≤ c) (i : Nat) (hc : c ≤ 24) (hn : n ≤ 8) : sumI M n i ≤ 200 * i := by
  induction i with
  | zero => exact Nat.le_refl _
  | succ i ih => rw [sumI_succ]; have := sumT_le (h i) n hc; omega
theorem sumT_add (a b : Nat → Nat) (n : Nat) : sumT (fun t => a t + b t) n = sumT a n + sumT b n := by
  induction n with
  | zero => rfl
  | succ n ih => rw [sumT_succ, sumT_succ, sumT_succ, ih]; omega
theorem sumI_add (a b : Nat → Nat → Nat) (m n : Nat) : sumI (fun i t => a i t + b i t) m n = sumI a m n + sumI b m n := by
  induction n with
  | zero => rfl
  | succ n ih => rw [sumI_succ, sumI_succ, sumI_succ, ih, sumT_add]; omega
theorem sumT_one (c : Prop) [Decidable c] (x : Int) (n : Nat) : sumT (fun t => if c ∧ x = (t : Int) then 1 else 0) n = if c ∧ 0 ≤ x ∧ x < (n : Int) then 1 else 0 := by
  induction n with
  | zero => rw [if_neg (fun h => by omega)]; rfl
  | succ n ih =>
    rw [sumT_succ, ih]
    by_cases hc : c
    · by_cases h1 : x = (n : Int)
      · rw [if_neg (fun h => by omega), if_pos ⟨hc, h1⟩, if_pos ⟨hc, by omega, by omega⟩]
      · rw [if_neg (fun h => h1 h.2 : ¬ (c ∧ x = (n : Int)))]
        by_cases h2 : 0 ≤ x ∧ x < (n : Int)
        · rw [if_pos ⟨hc, h2⟩, if_pos ⟨hc, h2.1, by omega⟩]
        · rw [if_neg (fun h => h2 h.2), if_neg (fun h => h2 ⟨h.2.1, by omega⟩)]
    · rw [if_neg (fun h => hc h.1), if_neg (fun h => hc h.1), if_neg (fun h => hc h.1)]
theorem sumI_one (f : Nat) (x : Int) (m n : Nat) (h0 : 0 ≤ x) (h1 : x < (m : Int)) : sumI (fun i t => if f = i ∧ x = (t : Int) then 1 else 0) m n = if f < n then 1 else 0 := by
  induction n with
  | zero => rw [if_neg (by omega)]; rfl
  | succ n ih =>
    rw [sumI_succ, ih, sumT_one]
    by_cases h : f = n
    · rw [if_neg (by omega), if_pos ⟨h, h0, h1⟩, if_pos (by omega)]
    · rw [if_neg (fun e => h e.1 : ¬ (f = n ∧ 0 ≤ x ∧ x < (m : Int)))]
      by_cases h2 : f < n
      · rw [if_pos h2, if_pos (by omega)]
      · rw [if_neg h2, if_neg (by omega)]
theorem sumI_cnt (L : List Win) (TS DS : List Int) (nR nL : Nat) (k : Nat) (hf : ∀ j, j < k → fi (DS.getD j 0) L < nL) (ht : ∀ j, j < k → 0 ≤ TS.getD j 0 ∧ TS.getD j 0 < (nR : Int)) : sumI (cnt L TS DS k) nR nL = k := by
  induction k with
  | zero =>
    have : ∀ n, sumI (cnt L TS DS 0) nR n = 0 := fun n => by
      have h := sumI_le (M := cnt L TS DS 0) (c := 0) (n := 0) (fun _ _ => Nat.le_refl _) n (by omega) (by omega)
      induction n with
      | zero => rfl
      | succ n ih =>
        have h2 : ∀ t, sumT (cnt L TS DS 0 n) t = 0 := fun t => by
          induction t with
          | zero => rfl
          | succ t ih => rw [sumT_succ, ih]; rfl
        rw [sumI_succ, h2, ih (sumI_le (M := cnt L TS DS 0) (c := 0) (n := 0) (fun _ _ => Nat.le_refl _) n (by omega) (by omega))]
    exact this nL
  | succ k ih =>
    have e : cnt L TS DS (k + 1) = fun i t => cnt L TS DS k i t + if fi (DS.getD k 0) L = i ∧ TS.getD k 0 = (t : Int) then 1 else 0 := by
      funext i t; exact cnt_succ L TS DS k i t
    obtain ⟨h0, h1⟩ := ht k (by omega)
    rw [e, sumI_add, ih (fun j hj => hf j (by omega)) (fun j hj => ht j (by omega)), sumI_one _ _ _ _ h0 h1, if_pos (hf k (by omega))]

/-- Loads in memory, as a reader sees them. -/
def LoR (W : World) (qq nL nR : Nat) (M : Nat → Nat → Nat) : Prop := ∀ i, i < nL → ∃ b cc, W.cell? ⟨qq, i, none⟩ = some (.slice (some ⟨b, 0, none⟩) nR cc) ∧ ∀ j, j < nR → W.cell? ⟨b, j, none⟩ = some (.int .i64 (M i j : Int))
theorem LoR.step {W W' : World} {qq nL nR : Nat} {M : Nat → Nat → Nat} (h : LoR W qq nL nR M) (hb : Below W.heap.size W W') : LoR W' qq nL nR M := fun i hi => by
  obtain ⟨b, cc, h1, h2⟩ := h i hi
  exact ⟨b, cc, cell_later' hb h1, fun j hj => cell_later' hb (h2 j hj)⟩
theorem LdT.read {S : Nat} {W : World} {v : Value} {rows : List (Nat × Nat)} {nR k : Nat} {M : Nat → Nat → Nat} (h : LdT S W v rows nR k M) (hk : 0 < k) : ∃ qq cap, v = .slice (some ⟨qq, 0, none⟩) k cap ∧ LoR W qq k nR M := by
  obtain ⟨g, cap, hv, _, _⟩ := h.own.form hk
  have hc := h.own.cells (g := g) (by rw [hv]; rfl)
  refine ⟨g, cap, hv, fun i hi => ?_⟩
  obtain ⟨cs, h1, h2⟩ := h.row i hi
  obtain ⟨x, hx⟩ : ∃ x, rows.getD i (0, 0) = x := ⟨_, rfl⟩
  rw [hx] at h1
  refine ⟨x.1, x.2, ?_, fun j hj => ?_⟩
  · have h3 := hc i (slD nR x) (by
      rw [List.getElem?_map, List.getElem?_eq_getElem (by rw [h.len]; exact hi)]
      rw [List.getD, List.getElem?_eq_getElem (by rw [h.len]; exact hi)] at hx
      simp only [Option.getD_some] at hx
      rw [hx]; rfl)
    rw [Addr.add_lit] at h3
    rw [Nat.zero_add] at h3
    exact h3
  · have h4 := cell_of_row _ x.1 j _ _ _ h1
    rw [h4]; exact h2 j hj

theorem loads_heavy (w : World) (a : Option Addr) (n c : Nat) (h : decide (n ≤ 400) = false) :
    Calls Try.prog 5 #[.slice a n c] w (BoolP true w) := by
  have CL := Lib.hid (light_any a n c false w h)
  clear h
  go_enter Try.func5, Try.ntmps5
  go_wp2_with fail
  refine (CL.out).mono ?_
  rintro e w1 ⟨rfl, rfl⟩
  have CA := Lib.hid (awake_any w1)
  clear CL
  go_wp2_with fail
  refine (CA.out).mono ?_
  rintro e w2 ⟨rfl, hb⟩
  have HB := Lib.hid hb; clear hb
  go_wp2_with fail
  go_ret
  exact ⟨rfl, HB.out⟩

def G20 (p q r : Option Addr) (nL c1 nQ c2 nR N cd b2 o2 k f : Nat) (d : Int) (_ : Array Bool) (i : Nat) (v : Value) (_ : World) : Prop := match i with
  | 0 => v = .agg #[.slice p nL c1, .slice q nQ c2, .slice r nR 2]
  | 1 => v = .slice (some ⟨b2, o2, none⟩) N cd
  | 2 => v = .int .i64 (k : Int)
  | 3 => v = .pointer (some ⟨b2, o2 + k, none⟩)
  | 4 => v = .int .i64 d
  | 5 => v = .tuple #[.int .i64 (f : Int), .bool true, .int .i64 0]
  | 6 => v = .tuple #[.int .i64 (f : Int), .bool true, .int .i64 0]
  | 7 => v = .int .i64 (f : Int)
  | 8 => v = .bool true
  | 9 => v = .int .i64 0
  | 10 => v = .int .i64 (f : Int)
  | 11 => v = .bool true
  | 12 => v = .int .i64 0
  | _ => True

set_option maxRecDepth 100000 in
set_option maxHeartbeats 8000000 in
theorem loads_light (w : World) (a : Option Addr) (n c : Nat) (h : decide (n ≤ 400) = true) (hi : Ints w w.heap.size a n) :
    Calls Try.prog 5 #[.slice a n c] w (BoolP true w) := by
  have CL := Lib.hid (light_any a n c true w h)
  have CR := Lib.hid (roll_any a n c w (of_decide_eq_true h) hi)
  clear h hi
  go_enter Try.func5, Try.ntmps5
  go_wp2_with fail
  refine (CL.out).mono ?_
  rintro e w0 ⟨rfl, rfl⟩
  go_wp2_with fail
  refine (CR.out).mono ?_
  rintro e w1 ⟨rfl, hd1, hb1⟩
  obtain ⟨g, hg⟩ : ∃ g, w0.heap.size = g := ⟨_, rfl⟩
  rw [hg] at hd1 hb1
  have hs0 : g < w1.heap.size := hd1.lt
  have CC := Lib.hid (fill_any w1 g hd1)
  have HB1 := Lib.hid hb1; have HG := Lib.hid hg
  rw [hg]
  clear hd1 hb1 hg CL CR
  go_wp2_with fail
  refine (CC.out).mono ?_
  rintro e w2 ⟨p, q, r, ta, da, c1, c2, ct, cd, L, T, Q, R, TS, DS, rfl, hd2, hg2, hgood, hR, hQ, hL2, hL5, hto, hC, h6⟩
  obtain ⟨hG, hTS, hDS⟩ := hgood w2 (World.grownBy.refl _ _)
  have hb2 : Below g w0 w2 := HB1.out.trans ⟨hg2.os, hg2.tape, hg2.output, hg2.size, fun k hk => hg2.block k (by omega) (by simp; omega)⟩
  have hsz2 : g < w2.heap.size := hd2.lt
  have hb0 := (Below.refl w2.heap.size w2).alloc (Nat.le_refl _) (.cells #[.slice p L.length c1, .slice q Q.length c2, .slice r R.length 2] 38)
  have hx : CalBox w2.heap.size p q r L.length c1 Q.length c2 R.length 2 (w2.alloc (.cells #[.slice p L.length c1, .slice q Q.length c2, .slice r R.length 2] 38)) := ⟨by simp, by simp, by simp⟩
  have hG0 := hG.step hb0
  have hlen := hC.len
  have LO := Lib.hid (load_good p q r ta da L T Q R TS DS c1 c2 2 ct cd _ hG0 (by omega) (hTS.step hb0) (hDS.step hb0) hlen (by omega) hC.tin hC.may)
  have FT := Lib.hid (fun W (hW : Below (w2.alloc (.cells #[.slice p L.length c1, .slice q Q.length c2, .slice r R.length 2] 38)).heap.size (w2.alloc (.cells #[.slice p L.length c1, .slice q Q.length c2, .slice r R.length 2] 38)) W) => fits_good p q r ta da L T Q R TS DS c1 c2 2 ct cd W (hG0.step hW) ((hTS.step hb0).step hW) ((hDS.step hb0).step hW) hlen (by omega) hC.tin hC.may)
  have AT := Lib.hid (fun d W (hW : Below (w2.alloc (.cells #[.slice p L.length c1, .slice q Q.length c2, .slice r R.length 2] 38)).heap.size (w2.alloc (.cells #[.slice p L.length c1, .slice q Q.length c2, .slice r R.length 2] 38)) W) => at_good p q r L T Q R c1 c2 2 d W (hG0.step hW))
  have hfi : ∀ j, j < TS.length → fi (DS.getD j 0) L < L.length := fun j hj => by
    have := hC.may j hj
    unfold mayF at this
    rw [Bool.and_eq_true] at this
    exact of_decide_eq_true this.1
  have hsum : sumI (cnt L TS DS TS.length) R.length L.length = TS.length := sumI_cnt L TS DS R.length L.length TS.length hfi (fun j hj => isT_of_all hC.tin hj)
  have HSUM := Lib.hid hsum; have HFI := Lib.hid hfi; have HFIT := Lib.hid hC.fit
  have HX := Lib.hid hx; have HB2 := Lib.hid (hb2.trans (hb0.mono (Nat.le_of_lt hsz2)))
  have HTT := Lib.hid (hTS.step hb0); have HDD := Lib.hid (hDS.step hb0); have HRM := Lib.hid hG0.room
  have HTIN := Lib.hid hC.tin; have HLEN := Lib.hid hlen
  have hw1 : w0.heap.size ≤ g := by have := HG.out; omega
  rw [hlen] at LO FT
  clear hd2 hg2 hgood hG hTS hDS hb2 hb0 hx hG0 hlen hfi hsum hC hto hQ CC HB1
  obtain ⟨nL, hnL⟩ : ∃ N, L.length = N := ⟨_, rfl⟩
  obtain ⟨nQ, hnQ⟩ : ∃ N, Q.length = N := ⟨_, rfl⟩
  obtain ⟨nR, hnR⟩ : ∃ N, R.length = N := ⟨_, rfl⟩
  obtain ⟨N, hN⟩ : ∃ N, TS.length = N := ⟨_, rfl⟩
  have HNL := Lib.hid hnL; have HNR := Lib.hid hnR; have HNT := Lib.hid hN
  rw [hnL, hnQ, hnR, hN] at LO
  rw [hnL, hnQ, hnR] at FT AT HX HB2 HTT HDD HRM
  rw [hN] at FT h6
  rw [hnR] at hR
  rw [hnL] at hL2 hL5
  rw [hnL, hnR, hN] at HSUM HFIT
  rw [hnL, hN] at HFI
  rw [hnR] at HTIN
  rw [hnL, hnQ, hnR, hN]
  have hR1 : 1 ≤ nR := by omega
  have hR8 : nR ≤ 8 := by omega
  clear hnL hnQ hnR hN hR
  go_wp2_with fail
  generalize hW0 : w2.alloc (.cells #[.slice p nL c1, .slice q nQ c2, .slice r nR 2] 38) = W0 at *
  have hCb : w2.heap.size < W0.heap.size := by rw [← hW0]; simp
  clear hW0
  obtain ⟨Cb, hCbe⟩ : ∃ C, w2.heap.size = C := ⟨_, rfl⟩
  rw [hCbe] at HX hCb hsz2
  simp only [hCbe]
  clear hCbe
  refine (LO.out).mono ?_
  rintro e w3 ⟨v, rows, rfl, hT, hb3⟩
  obtain ⟨qq, cq, hv, hLR⟩ := hT.read (by omega)
  subst hv
  have FW := Lib.hid (FT.out w3 hb3)
  have HB3 := Lib.hid hb3; have HLR := Lib.hid hLR
  obtain ⟨x0, x1, x2⟩ := HX.out.step hb3
  clear hT hb3 hLR LO FT
  go_wp2_with fail
  refine (FW.out).mono ?_
  rintro e w4 ⟨cs, x, rfl, hF, hb4⟩
  have hx0 : x = 0 := by
    rcases hF with ⟨h, _⟩ | ⟨_, _, i, t, h1, h2, h3⟩
    · exact h
    · rw [HNL.out] at h1
      rw [HNR.out] at h2
      rw [HNT.out] at h3
      exact absurd (HFIT.out i t h1 h2) (by omega)
  subst hx0
  have hb04 := HB3.out.trans (hb4.mono HB3.out.size)
  have HB4 := Lib.hid hb04; have HL4 := Lib.hid (HLR.out.step hb4)
  clear x0 x1 x2
  have HX4 := Lib.hid (HX.out.step hb04)
  obtain ⟨x0, x1, x2⟩ := HX4.out
  clear hF hb4 hb04 FW
  go_wp2_with fail
  have hbz : Below W0.heap.size W0 w4 := HB4.out
  clear x0 x1 x2 HLR
  have hS4 : W0.heap.size ≤ w4.heap.size := hbz.size
  have l40 : nL ≤ 40 := by omega
  go_loopw [8, 55] (fun sv kv wr => ∃ i : Nat, kv = .int .i64 (i : Int) ∧ i ≤ nL ∧ sv = .int .i64 (sumI (cnt L TS DS N) nR i : Int) ∧ Below w4.heap.size w4 wr) (fun _ kv _ => nL - (intOf kv).toNat)
  case atStart => exact ⟨0, rfl, Nat.zero_le _, rfl, Below.refl _ _⟩
  case round =>
    obtain ⟨i, rfl, hi, rfl, hb⟩ := hrel
    have hsi := sumI_le (M := cnt L TS DS N) (c := N) (n := nR) (fun i t => cnt_le L TS DS N i t) i (by omega) hR8
    by_cases hlt : i < nL
    · have hk0 : (0 : Int) ≤ (i : Int) := by omega
      have hi2 : (i : Int) < (nL : Int) := by omega
      have hdd : decide (i < nL) = true := decide_eq_true hlt
      obtain ⟨b, cc, hc0, hc1⟩ := HL4.out.step hb i hlt
      obtain ⟨x0, x1, x2⟩ := HX4.out.step hb
      have HC1 := Lib.hid hc1; have HBI := Lib.hid hb
      generalize hsm : sumI (cnt L TS DS N) nR i = sm at *
      have HSM := Lib.hid hsm
      clear hc1 hb hsm
      go_wp2_with fail
      clear hc0 x0 x1 x2
      generalize hwo : wr = wo at *
      clear hwo wr
      have HC1' := HC1
      go_loopw [8, 68] (fun sv kv wm => ∃ t s : Nat, kv = .int .i64 (t : Int) ∧ t ≤ nR ∧ sv = .int .i64 (s : Int) ∧ s = sm + sumT (cnt L TS DS N i) t ∧ Below wo.heap.size wo wm) (fun _ kv _ => nR - (intOf kv).toNat)
      case atStart => exact ⟨0, sm, rfl, Nat.zero_le _, rfl, rfl, Below.refl _ _⟩
      case round =>
        clear HC1
        obtain ⟨t, s, rfl, ht, rfl, hss, hbm⟩ := hrel
        have hst := sumT_le (M := cnt L TS DS N i) (c := N) (fun t => cnt_le L TS DS N i t) t (by omega)
        have hsb : s ≤ 20000 := by omega
        have HSS := Lib.hid hss
        clear hss
        by_cases htl : t < nR
        · have ht0 : (0 : Int) ≤ (t : Int) := by omega
          have ht2 : (t : Int) < (nR : Int) := by omega
          have hdt : decide (t < nR) = true := decide_eq_true htl
          have hct := cell_later' hbm (HC1'.out t htl)
          have hbw := HBI.out.trans (hbm.mono HBI.out.size)
          have hcle := cnt_le L TS DS N i t
          have hfit := HFIT.out i t hlt htl
          generalize hcm : cnt L TS DS N i t = cm at *
          have HCM := Lib.hid hcm
          generalize hsu : sumT (cnt L TS DS N i) t = su at *
          have HSU := Lib.hid hsu
          have HBM := Lib.hid hbm; have HBW := Lib.hid hbw; have HFT := Lib.hid hfit
          clear hbm hbw hcm hsu hfit
          go_wp2_with fail
          clear hct
          generalize hwm : wr = wm at *
          clear hwm wr
          go_loopw [13, 75] (fun wv kv wk => ∃ k : Nat, kv = .int .i64 (k : Int) ∧ k ≤ N ∧ wv = .int .i64 (cnt L TS DS k i t : Int) ∧ Below wm.heap.size wm wk) (fun _ kv _ => N - (intOf kv).toNat)
          case atStart => exact ⟨0, rfl, Nat.zero_le _, rfl, Below.refl _ _⟩
          case round =>
            obtain ⟨k, rfl, hk, rfl, hbk⟩ := hrel
            have hbr4 := HBW.out.trans (hbk.mono HBW.out.size)
            have hbr := HB4.out.trans (hbr4.mono hS4)
            by_cases hkl : k < N
            · have hdk : decide (k < N) = true := decide_eq_true hkl
              have q0 : (0 : Int) ≤ (k : Int) := by omega
              have q1 : (k : Int) < (N : Int) := by omega
              have hckl := cnt_le L TS DS k i t
              have hcs := cnt_succ L TS DS k i t
              obtain ⟨b2, o2, hp2, hcd⟩ := (HDD.out.step hbr) k (by rw [HLEN.out, HNT.out]; exact hkl)
              obtain ⟨b1, o1, hp1, hct1⟩ := (HTT.out.step hbr) k (by rw [HNT.out]; exact hkl)
              subst hp1; subst hp2
              have hfl := HFI.out k hkl
              obtain ⟨d, hd⟩ : ∃ d, DS.getD k 0 = d := ⟨_, rfl⟩
              obtain ⟨tm, htm⟩ : ∃ t, TS.getD k 0 = t := ⟨_, rfl⟩
              rw [hd] at hcd hfl hcs
              rw [htm] at hct1 hcs
              obtain ⟨f, hf⟩ : ∃ f, fi d L = f := ⟨_, rfl⟩
              rw [hf] at hfl hcs
              generalize hck : cnt L TS DS k i t = ck at *
              have HCS := Lib.hid hcs; have HFL := Lib.hid hfl; have HFE := Lib.hid hf; have HCD := Lib.hid hcd; have HCT := Lib.hid hct1; have HBR := Lib.hid hbr; have HBK := Lib.hid hbk
              have q4 : IntKind.i64.wrap ((ck : Int) + 1) = (ck : Int) + 1 := IntWalk.i64_in _ (by omega)
              clear hd htm hf hcd hct1 hcs hbr hbr4 hbk hck hfl
              go_upto_region 20 with fail
              refine region_facts3E (by kernel_rfl) (G20 p q r nL c1 nQ c2 nR N cd b2 o2 k f d) (fun _ _ _ _ => True) (fun _ W => Below wr.heap.size wr W) (by kernel_rfl) (by kernel_rfl) ?h0 ?hstep ?hend
              case h0 => exact below_drewN (Below.refl _ _) 1
              case hstep =>
                intro i2 oo l a W ho hat hX K hK
                have hi2 : i2 < 13 := (Array.getElem?_eq_some_iff.1 ho).1
                obtain rfl | rfl | rfl | rfl | rfl | rfl | rfl | rfl | rfl | rfl | rfl | rfl | rfl : i2 = 0 ∨ i2 = 1 ∨ i2 = 2 ∨ i2 = 3 ∨ i2 = 4 ∨ i2 = 5 ∨ i2 = 6 ∨ i2 = 7 ∨ i2 = 8 ∨ i2 = 9 ∨ i2 = 10 ∨ i2 = 11 ∨ i2 = 12 := by omega
                all_goals
                  have ho := Option.some.inj (show some _ = some oo from ho)
                  subst ho
                · have e0 : a.tmps[3]?.getD undef = .pointer (some ⟨Cb, 0, none⟩) := hat.out 3 (by kernel_rfl)
                  obtain ⟨x0, x1, x2⟩ := HX.out.step (HBR.out.trans (hat.base.mono HBR.out.size))
                  have HF1 := Lib.hid (hK (.agg #[.slice p nL c1, .slice q nQ c2, .slice r nR 2]) W rfl (fun k d hk hl => hat.have_ k d hk hl) (fun _ _ _ _ _ => ⟨trivial, trivial⟩) hat.base)
                  clear hat hX hK
                  go_simp
                  exact HF1.out
                · have e0 : a.tmps[5]?.getD undef = .slice (some ⟨b2, o2, none⟩) N cd := hat.out 5 (by kernel_rfl)
                  have HF1 := Lib.hid (hK (.slice (some ⟨b2, o2, none⟩) N cd) W rfl (fun k d hk hl => hat.have_ k d hk hl) (fun _ _ _ _ _ => ⟨trivial, trivial⟩) hat.base)
                  clear hat hX hK
                  go_simp
                  exact HF1.out
                · have e0 : a.tmps[14]?.getD undef = .int .i64 (k : Int) := hat.out 14 (by kernel_rfl)
                  have HF1 := Lib.hid (hK (.int .i64 (k : Int)) W rfl (fun k d hk hl => hat.have_ k d hk hl) (fun _ _ _ _ _ => ⟨trivial, trivial⟩) hat.base)
                  clear hat hX hK
                  go_simp
                  exact HF1.out
                · have e0 : a.tmps[80]?.getD undef = .slice (some ⟨b2, o2, none⟩) N cd := hat.have_ 1 80 (by kernel_rfl) (hat.dep 1 (by kernel_rfl))
                  have e1 : a.tmps[81]?.getD undef = .int .i64 (k : Int) := hat.have_ 2 81 (by kernel_rfl) (hat.dep 2 (by kernel_rfl))
                  have HF1 := Lib.hid (hK (.pointer (some ⟨b2, o2 + k, none⟩)) W rfl (fun k d hk hl => hat.have_ k d hk hl) (fun _ _ _ _ _ => ⟨trivial, trivial⟩) hat.base)
                  clear hat hX hK
                  go_simp
                  exact HF1.out
                · have e0 : a.tmps[82]?.getD undef = .pointer (some ⟨b2, o2 + k, none⟩) := hat.have_ 3 82 (by kernel_rfl) (hat.dep 3 (by kernel_rfl))
                  have cd' := cell_later' hat.base HCD.out
                  have HF1 := Lib.hid (hK (.int .i64 d) W rfl (fun k d hk hl => hat.have_ k d hk hl) (fun _ _ _ _ _ => ⟨trivial, trivial⟩) hat.base)
                  clear hat hX hK
                  go_simp
                  exact HF1.out
                · have e0 : a.tmps[79]?.getD undef = .agg #[.slice p nL c1, .slice q nQ c2, .slice r nR 2] := hat.have_ 0 79 (by kernel_rfl) (hat.dep 0 (by kernel_rfl))
                  have e1 : a.tmps[83]?.getD undef = .int .i64 d := hat.have_ 4 83 (by kernel_rfl) (hat.dep 4 (by kernel_rfl))
                  have CA := Lib.hid (AT.out d W (HBR.out.trans (hat.base.mono HBR.out.size)))
                  have HH := Lib.hid (And.intro hat (And.intro hX hK))
                  clear hat hX hK
                  go_simp
                  refine (CA.out).mono ?_
                  rintro e w' ⟨r1, hr1, rfl, hbx⟩
                  obtain ⟨hat, hX, hK⟩ := HH.out
                  have hrf : r1 = (f : Int) := by
                    rcases findR_fi hr1 with ⟨_, h2⟩ | ⟨h2, _⟩
                    · have := HFL.out; rw [HFE.out, HNL.out] at h2; omega
                    · rw [h2, HFE.out]
                  subst hrf
                  exact hK _ _ (show _ = _ by rw [show max (f : Int) 0 = (f : Int) by omega, decide_eq_true (show (0 : Int) ≤ (f : Int) by omega)]) (fun k d hk hl => hat.have_ k d hk hl) (fun _ _ _ _ _ => ⟨trivial, trivial⟩) (hat.base.trans (hbx.mono hat.base.size))
                · have e0 : a.tmps[84]?.getD undef = .tuple #[.int .i64 (f : Int), .bool true, .int .i64 0] := hat.have_ 5 84 (by kernel_rfl) (hat.dep 5 (by kernel_rfl))
                  have HF1 := Lib.hid (hK (.tuple #[.int .i64 (f : Int), .bool true, .int .i64 0]) W rfl (fun k d hk hl => hat.have_ k d hk hl) (fun _ _ _ _ _ => ⟨trivial, trivial⟩) hat.base)
                  clear hat hX hK
                  go_simp
                  exact HF1.out
                · have e0 : a.tmps[78]?.getD undef = .tuple #[.int .i64 (f : Int), .bool true, .int .i64 0] := hat.have_ 6 78 (by kernel_rfl) (hat.dep 6 (by kernel_rfl))
                  have HF1 := Lib.hid (hK (.int .i64 (f : Int)) W rfl (fun k d hk hl => hat.have_ k d hk hl) (fun _ _ _ _ _ => ⟨trivial, trivial⟩) hat.base)
                  clear hat hX hK
                  go_simp
                  exact HF1.out
                · have e0 : a.tmps[78]?.getD undef = .tuple #[.int .i64 (f : Int), .bool true, .int .i64 0] := hat.have_ 6 78 (by kernel_rfl) (hat.dep 6 (by kernel_rfl))
                  have HF1 := Lib.hid (hK (.bool true) W rfl (fun k d hk hl => hat.have_ k d hk hl) (fun _ _ _ _ _ => ⟨trivial, trivial⟩) hat.base)
                  clear hat hX hK
                  go_simp
                  exact HF1.out
                · have e0 : a.tmps[78]?.getD undef = .tuple #[.int .i64 (f : Int), .bool true, .int .i64 0] := hat.have_ 6 78 (by kernel_rfl) (hat.dep 6 (by kernel_rfl))
                  have HF1 := Lib.hid (hK (.int .i64 0) W rfl (fun k d hk hl => hat.have_ k d hk hl) (fun _ _ _ _ _ => ⟨trivial, trivial⟩) hat.base)
                  clear hat hX hK
                  go_simp
                  exact HF1.out
                · have e0 : a.tmps[85]?.getD undef = .int .i64 (f : Int) := hat.have_ 7 85 (by kernel_rfl) (hat.dep 7 (by kernel_rfl))
                  have HF1 := Lib.hid (hK (.int .i64 (f : Int)) W rfl (fun k d hk hl => hat.have_ k d hk hl) (fun _ _ _ _ _ => ⟨trivial, trivial⟩) hat.base)
                  clear hat hX hK
                  go_simp
                  exact HF1.out
                · have e0 : a.tmps[86]?.getD undef = .bool true := hat.have_ 8 86 (by kernel_rfl) (hat.dep 8 (by kernel_rfl))
                  have HF1 := Lib.hid (hK (.bool true) W rfl (fun k d hk hl => hat.have_ k d hk hl) (fun _ _ _ _ _ => ⟨trivial, trivial⟩) hat.base)
                  clear hat hX hK
                  go_simp
                  exact HF1.out
                · have e0 : a.tmps[87]?.getD undef = .int .i64 0 := hat.have_ 9 87 (by kernel_rfl) (hat.dep 9 (by kernel_rfl))
                  have HF1 := Lib.hid (hK (.int .i64 0) W rfl (fun k d hk hl => hat.have_ k d hk hl) (fun _ _ _ _ _ => ⟨trivial, trivial⟩) hat.base)
                  clear hat hX hK
                  go_simp
                  exact HF1.out
              case hend =>
                intro l u wc hall hG _ hB
                have e10 : u 10 = .int .i64 (f : Int) := hG 10 15 (by kernel_rfl)
                have e11 : u 11 = .bool true := hG 11 16 (by kernel_rfl)
                have hct2 := cell_later' hB HCT.out
                have HBC := Lib.hid (HBK.out.trans (hB.mono HBK.out.size))
                clear hG hB hall
                simp only [putAll, Act.put, List.setIfInBounds_toArray, List.set_cons_zero, List.set_cons_succ, Nat.zero_add, Nat.reduceAdd]
                rw [e10, e11]
                clear e10 e11
                generalize u 0 = y0; generalize u 1 = y1; generalize u 2 = y2; generalize u 3 = y3; generalize u 4 = y4; generalize u 5 = y5; generalize u 6 = y6; generalize u 7 = y7; generalize u 8 = y8; generalize u 9 = y9; generalize u 12 = y12
                by_cases hfi : f = i
                · have hdf : decide (f = i) = true := decide_eq_true hfi
                  by_cases hte : tm = (t : Int)
                  · have hdtm : decide (tm = (t : Int)) = true := decide_eq_true hte
                    go_wp2_with fail
                    go_roundw
                    case rel => exact ⟨k + 1, by go_num, by omega, congrArg (Value.int .i64) (by rw [HCS.out, if_pos ⟨hfi, hte⟩]; omega), HBC.out⟩
                    case measure => simp [intOf]; omega
                  · have hdtm : decide (tm = (t : Int)) = false := decide_eq_false hte
                    go_wp2_with fail
                    go_roundw
                    case rel => exact ⟨k + 1, by go_num, by omega, congrArg (Value.int .i64) (by rw [HCS.out, if_neg (fun h => hte h.2)]; omega), HBC.out⟩
                    case measure => simp [intOf]; omega
                · have hdf : decide (f = i) = false := decide_eq_false hfi
                  have hfi' : ¬ (f : Int) = (i : Int) := by omega
                  go_wp2_with fail
                  go_roundw
                  case rel => exact ⟨k + 1, by go_num, by omega, congrArg (Value.int .i64) (by rw [HCS.out, if_neg (fun h => hfi h.1)]; omega), HBC.out⟩
                  case measure => simp [intOf]; omega
            · have hkN : k = N := by omega
              have hdk : decide (k < N) = false := decide_eq_false hkl
              have hnk : ¬ (k : Int) < (N : Int) := by omega
              have hcm2 := HCM.out
              rw [← hkN] at hcm2
              rw [hcm2]
              obtain ⟨x0, x1, x2⟩ := HX.out.step hbr
              obtain ⟨b3, o3, hp3, hcr⟩ := (HRM.out.step hbr) t (by rw [HNR.out]; exact htl)
              subst hp3
              generalize hrm : R.getD t 0 = rm at *
              have hgt : ¬ rm < (cm : Int) := by have := HFT.out; omega
              have hgd : decide (rm < (cm : Int)) = false := decide_eq_false hgt
              have q4 : IntKind.i64.wrap ((s : Int) + (cm : Int)) = (s : Int) + (cm : Int) := IntWalk.i64_in _ (by omega)
              have HBF2 := Lib.hid (HBM.out.trans (hbk.mono HBM.out.size))
              clear hbk hbr hbr4 hcm2
              go_wp2_with fail
              go_roundw
              case rel => exact ⟨t + 1, s + cm, by go_num, by omega, congrArg (Value.int .i64) (by omega), (by have := HSS.out; rw [sumT_succ, HSU.out, HCM.out]; omega), HBF2.out⟩
              case measure => simp [intOf]; omega
        · have htn : t = nR := by omega
          have hdt : decide (t < nR) = false := decide_eq_false htl
          have hnt : ¬ (t : Int) < (nR : Int) := by omega
          have HBO := Lib.hid (HBI.out.trans (hbm.mono HBI.out.size))
          clear hbm
          go_wp2_with fail
          go_roundw
          case rel => exact ⟨i + 1, by go_num, by omega, congrArg (Value.int .i64) (by have := HSS.out; rw [sumI_succ, HSM.out, ← htn]; omega), HBO.out⟩
          case measure => simp [intOf]; omega
    · have hin : i = nL := by omega
      subst hin
      have hdd : decide (i < i) = false := by simp
      have hni : ¬ (i : Int) < (i : Int) := by omega
      have hsm := HSUM.out
      rw [hsm]
      have HBF := Lib.hid hb
      have CA := Lib.hid (awake_any wr)
      clear hb hsi
      go_wp2_with fail
      refine (CA.out).mono ?_
      rintro e w5 ⟨rfl, hb5⟩
      have HB5 := Lib.hid hb5; clear hb5
      go_wp2_with fail
      go_ret
      refine ⟨rfl, ?_⟩
      have hsF := HBF.out.size
      rw [HG.out]
      exact HB2.out.trans ((HB4.out.mono (by omega)).trans ((HBF.out.mono (by omega)).trans (HB5.out.mono (by omega))))

theorem loads_any (w : World) (a : Option Addr) (n c : Nat) (hi : Ints w w.heap.size a n) : Calls Try.prog 5 #[.slice a n c] w fun e w' => e = .returned (.bool true) ∧ Below w.heap.size w w' := by
  cases h : decide (n ≤ 400) with
  | false => exact loads_heavy w a n c h
  | true => exact loads_light w a n c h hi
end Go.Proofs.Ytnconhbambhhgaa
