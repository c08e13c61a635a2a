/- OrderLoops. -/
import Derived.Test.YtgeldpkopolnfaaDoorOmX
import Derived.Test.YtgeldpkopolnfaaDoorNdF
namespace Go.Proofs.YtgeldpkopolnfaaDoor
open Go.RowKit
set_option linter.all false

theorem one_at (W : World) (x : Rq) : ReqsAt (W.alloc (.cells #[.int .i64 x.1, .int .i64 x.2] 47)) (some ⟨W.heap.size, 0, none⟩) [x] := by
  intro j hj
  obtain rfl : j = 0 := by simp at hj; omega
  have h := heap_alloc_new W (.cells #[.int .i64 x.1, .int .i64 x.2] 47)
  refine ⟨_, _, rfl, ?_, ?_⟩
  · rw [cell_of_row _ _ _ _ _ _ h]; rfl
  · rw [cell_of_row _ _ _ _ _ _ h]; rfl
theorem needok_ok {n : Nat} {L : List Rq} (h : NeedOk n L) : Ok n L := ok_up h.2
theorem union1_mem {L : List Rq} {p q : Nat} (x : Rq) : x ∈ unionL L [((p : Int), (q : Int))] ↔ x ∈ L ∨ x = ((p : Int), (q : Int)) := by rw [unionL_mem, List.mem_singleton]
theorem union1_length {L : List Rq} {x : Rq} (h : L.length ≤ 100) : (unionL L [x]).length ≤ 101 := by
  unfold unionL
  have h1 := foldP_length (foldP [] L) [x]
  have h2 := foldP_length [] L
  simp at h1 h2
  omega

set_option maxRecDepth 100000 in
set_option maxHeartbeats 4000000 in
theorem loops_heavy (w : World) (a : Option Addr) (n c : Nat) (p q : Int) (h : decide (n ≤ 400) = false) (hT : Deb w) :
    Calls Tryd.prog 5 #[.slice a n c, .int .u8 p, .int .u8 q] w (BoolP true w) := by
  have CL := Lib.hid (light_any a n c false w h)
  have CA := Lib.hid (awake_any w hT)
  clear h
  go_enter Tryd.func5, Tryd.ntmps5
  go_wp2_with fail
  refine (CL.out).mono ?_
  rintro e w1 ⟨rfl, rfl⟩
  clear CL
  go_wp2_with fail
  refine (CA.out).mono ?_
  rintro e w2 ⟨rfl, hb⟩
  have HB := Lib.hid hb; clear hb
  go_wp2_with fail
  go_ret
  exact ⟨rfl, HB.out⟩

set_option maxRecDepth 100000 in
set_option maxHeartbeats 8000000 in
theorem loops_light (w : World) (a : Option Addr) (n c : Nat) (p q : Nat) (hp : p ≤ 255) (hq : q ≤ 255) (h : decide (n ≤ 400) = true) (hi : Ints w w.heap.size a n) (hT : Deb w) :
    Calls Tryd.prog 5 #[.slice a n c, .int .u8 (p : Int), .int .u8 (q : Int)] w (BoolP true w) := by
  have CL := Lib.hid (light_any a n c true w h)
  have CR := Lib.hid (roll_any a n c w (of_decide_eq_true h) hi)
  have HT := Lib.hid hT
  have hw1 := hT.1
  clear h hi hT
  go_enter Tryd.func5, Tryd.ntmps5
  go_wp2_with fail
  refine (CL.out).mono ?_
  rintro e w0 ⟨rfl, rfl⟩
  go_wp2_with fail
  refine (CR.out).mono ?_
  rintro e w1 ⟨rfl, hd1, hb1⟩
  obtain ⟨g, hg⟩ : ∃ g, w0.heap.size = g := ⟨_, rfl⟩
  rw [hg] at hd1 hb1 hw1
  have hs0 : g < w1.heap.size := hd1.lt
  have HG := Lib.hid hg
  have HB1 := Lib.hid hb1
  have C1 := Lib.hid (needs_any w1 g 7 (by decide) (by decide) hd1)
  rw [hg]
  clear hg hb1 hd1 CL CR
  go_wp2_with fail
  refine (C1.out).mono ?_
  rintro e w2 ⟨v2, L, rfl, hok, hlL, hSL, hd2, hg2⟩
  obtain ⟨aL, cL, eL, hcL, hrL, hnL⟩ := hSL
  have hb2 : Below g w0 w2 := HB1.out.trans ⟨hg2.os, hg2.tape, hg2.output, hg2.size, fun k hk => hg2.block k (by omega) (by simp; omega)⟩
  have hs2 : g ≤ w2.heap.size := by have := hg2.size; omega
  subst eL
  have hRV : ReqV w2 7 (.slice aL L.length cL) L := ReqV.mk' (by decide) (by decide) (needok_ok hok) hok.1 (by omega) hcL hrL
  have HOK := Lib.hid (needok_ok hok); have HASC := Lib.hid hok.1
  have C2 := Lib.hid (hRV.closure (by decide))
  have HRL := Lib.hid hrL; have HB2 := Lib.hid hb2
  obtain ⟨ll, hll⟩ : ∃ ll, L.length = ll := ⟨_, rfl⟩
  have HLL := Lib.hid hll
  rw [hll] at C2 hlL ⊢
  clear hok hrL hb2 hnL hd2 hg2 C1 HB1 hcL hRV hll
  go_wp2_with fail
  refine (C2.out).mono ?_
  clear C2
  rintro e w3 ⟨aC, cC, C, rfl, hcC, hrC, hmem, hlC, hb3⟩
  have HB3 := Lib.hid (HB2.out.trans (hb3.mono hs2))
  have hs3 : g ≤ w3.heap.size := by have := hb3.size; omega
  have HRL3 := Lib.hid (HRL.out.step hb3)
  have HRC := Lib.hid hrC; have HM := Lib.hid hmem
  obtain ⟨N, hN⟩ : ∃ N, C.length = N := ⟨_, rfl⟩
  have HN := Lib.hid hN
  have HFD := Lib.hid (fun W r (hb : Below w3.heap.size w3 W) => found_any aC cC C r W (by omega) (hrC.step hb))
  have HUN := Lib.hid (fun W b (x : Rq) (hb : Below w3.heap.size w3 W) (hx : ReqsAt W b [x]) => refUnion_any aL b cL 1 L [x] W (by rw [HLL.out]; omega) (by simp) (HRL3.out.step hb) hx)
  rw [HLL.out] at HUN
  rw [hN] at HFD hlC hcC ⊢
  clear hb3 hrC hmem hN HRL
  go_wp2_with fail
  go_loopw [34] (fun kv wr => ∃ m : Nat, kv = .int .i64 (m : Int) ∧ m ≤ N ∧ Below w3.heap.size w3 wr) (fun kv _ => N - (intOf kv).toNat)
  case atStart => exact ⟨0, rfl, Nat.zero_le _, Below.refl _ _⟩
  case round =>
    obtain ⟨m, rfl, hm, hb⟩ := hrel
    by_cases hlt : m < N
    · have hm0 : (0 : Int) ≤ (m : Int) := by omega
      have hm1 : (m : Int) < (N : Int) := by omega
      have hdm : decide (m < N) = true := decide_eq_true hlt
      have hml : m < C.length := by rw [HN.out]; exact hlt
      obtain ⟨b1, o1, hp1, c0, c1⟩ := HRC.out m hml
      subst hp1
      have c0 := cell_later' hb c0
      have c1 := cell_later' hb c1
      obtain ⟨i, j, hi7, hj7, hxe, hway⟩ := (HM.out _).1 (getD_mem' hml)
      rw [hxe] at c0 c1
      dsimp only at c0 c1
      have HB := Lib.hid hb; have HWAY := Lib.hid hway
      have hsz : wr.heap.size + 1 = (wr.alloc (.cells #[.int .i64 (i : Int), .int .i64 (j : Int)] 47)).heap.size := by simp
      have hxx0 : (wr.alloc (.cells #[.int .i64 (i : Int), .int .i64 (j : Int)] 47)).cell? ⟨wr.heap.size, 0, none⟩ = some (.int .i64 (i : Int)) := by rw [cell_of_row _ _ _ _ _ _ (heap_alloc_new wr _)]; rfl
      have hxx1 : (wr.alloc (.cells #[.int .i64 (i : Int), .int .i64 (j : Int)] 47)).cell? ⟨wr.heap.size, 1, none⟩ = some (.int .i64 (j : Int)) := by rw [cell_of_row _ _ _ _ _ _ (heap_alloc_new wr _)]; rfl
      have hone := one_at (wr.alloc (.cells #[.int .i64 (i : Int), .int .i64 (j : Int)] 47)) ((j : Int), (i : Int))
      have hb4 := hb.alloc hb.size (.cells #[.int .i64 (i : Int), .int .i64 (j : Int)] 47)
      have hb5 := hb4.alloc hb4.size (.cells #[.int .i64 (j : Int), .int .i64 (i : Int)] 47)
      have CU := Lib.hid (HUN.out _ _ ((j : Int), (i : Int)) hb5 hone)
      rw [← hsz] at CU
      have HX0 := Lib.hid hxx0; have HX1 := Lib.hid hxx1; have HB5 := Lib.hid hb5
      clear hxe hway hone hb hb4 hb5 hsz
      go_wp2_with fail
      have hxb0 := cell_later' ((Below.refl _ _).alloc (Nat.le_refl _) (.cells #[.int .i64 (j : Int), .int .i64 (i : Int)] 47)) HX0.out
      have hxb1 := cell_later' ((Below.refl _ _).alloc (Nat.le_refl _) (.cells #[.int .i64 (j : Int), .int .i64 (i : Int)] 47)) HX1.out
      clear HX0 HX1
      obtain ⟨X, hX⟩ : ∃ X, wr.heap.size = X := ⟨_, rfl⟩
      rw [hX] at CU hxb0 hxb1 ⊢
      have HX0 := Lib.hid hxb0; have HX1 := Lib.hid hxb1
      clear hxb0 hxb1 hX
      generalize ((wr.alloc (.cells #[.int .i64 (i : Int), .int .i64 (j : Int)] 47)).alloc (.cells #[.int .i64 (j : Int), .int .i64 (i : Int)] 47)) = w5 at *
      refine (CU.out).mono ?_
      clear CU
      rintro e w6 ⟨aU, cU, rfl, hcU, hrU, hb6, _⟩
      have hmU := union1_mem (L := L) (p := j) (q := i)
      have hne : j ≠ i := by rintro rfl; exact HOK.out.acy _ hi7 HWAY.out
      have hlU : (unionL L [((j : Int), (i : Int))]).length ≤ 101 := union1_length (by rw [HLL.out]; omega)
      have CK := Lib.hid (check_any aU cU _ 7 w6 (by decide) (by decide) (inn_more hmU HOK.out.inn hj7 hi7) (unionL_asc _ _) (by omega) hrU)
      have HMC := Lib.hid (fun r (hr : ChkR 7 (unionL L [((j : Int), (i : Int))]) r) => (more_chk hmU HOK.out hi7 hr).2.1 hne HWAY.out)
      have HB6 := Lib.hid (HB5.out.trans (hb6.mono HB5.out.size))
      have HX06 := Lib.hid (cell_later' hb6 HX0.out); have HX16 := Lib.hid (cell_later' hb6 HX1.out)
      generalize unionL L [((j : Int), (i : Int))] = U at *
      generalize U.length = ul at *
      clear hcU hrU hb6 hmU hne hlU HB5 HX0 HX1
      go_wp2_with fail
      refine (CK.out).mono ?_
      clear CK
      rintro e w7 ⟨r, rfl, hr, hb7⟩
      obtain rfl := HMC.out r hr
      have HB7 := Lib.hid (HB6.out.trans (hb7.mono HB6.out.size))
      have HX0 := Lib.hid (cell_later' hb7 HX06.out); have HX1 := Lib.hid (cell_later' hb7 HX16.out)
      clear hr hb7 HMC HB6 HX06 HX16
      go_wp2_with fail
      go_loopw [51] (fun kv w8 => ∃ k : Nat, kv = .int .i64 (k : Int) ∧ k ≤ N ∧ Below w7.heap.size w7 w8) (fun kv _ => N - (intOf kv).toNat)
      case atStart => exact ⟨0, rfl, Nat.zero_le _, Below.refl _ _⟩
      case round =>
        obtain ⟨k, rfl, hk, hb8⟩ := hrel
        by_cases hlt2 : k < N
        · have hk0 : (0 : Int) ≤ (k : Int) := by omega
          have hk1 : (k : Int) < (N : Int) := by omega
          have hdk : decide (k < N) = true := decide_eq_true hlt2
          have hkl : k < C.length := by rw [HN.out]; exact hlt2
          have hb38 : Below w3.heap.size w3 wr := HB7.out.trans (hb8.mono HB7.out.size)
          obtain ⟨b2, o2, hp2, d0, d1⟩ := HRC.out k hkl
          injection hp2 with hp2
          injection hp2 with e1 e2 _
          subst e1; subst e2
          have d0 := cell_later' hb38 d0
          have d1 := cell_later' hb38 d1
          obtain ⟨i2, j2, hi27, hj27, hye, hway2⟩ := (HM.out _).1 (getD_mem' hkl)
          rw [hye] at d0 d1
          dsimp only at d0 d1
          have hy0 : (wr.alloc (.cells #[.int .i64 (i2 : Int), .int .i64 (j2 : Int)] 47)).cell? ⟨X, 0, none⟩ = some (.int .i64 (i : Int)) := cell_later' (hb8.alloc hb8.size _) HX0.out
          have hy1 : (wr.alloc (.cells #[.int .i64 (i2 : Int), .int .i64 (j2 : Int)] 47)).cell? ⟨X, 1, none⟩ = some (.int .i64 (j : Int)) := cell_later' (hb8.alloc hb8.size _) HX1.out
          by_cases heq : j = i2
          · subst heq
            have hmem : ((i : Int), (j2 : Int)) ∈ C := (HM.out _).2 ⟨i, j2, hi7, hj27, rfl, HWAY.out.trans hway2⟩
            have CF := HFD.out (wr.alloc (.cells #[.int .i64 (j : Int), .int .i64 (j2 : Int)] 47)) ((i : Int), (j2 : Int)) (hb38.alloc hb38.size _)
            rw [decide_eq_true hmem] at CF
            have CF := Lib.hid CF
            have HB8 := Lib.hid (hb8.alloc hb8.size (.cells #[.int .i64 (j : Int), .int .i64 (j2 : Int)] 47))
            clear hb38 hye hway2 hmem hb8
            go_wp2_with (go_at_call 24; refine (CF.out).mono ?_; clear CF; rintro e w9 ⟨rfl, hb9⟩; have HB9 := Lib.hid (HB8.out.trans (hb9.mono HB8.out.size)); clear hb9)
            go_roundw
            case rel => exact ⟨k + 1, by go_num, by omega, HB9.out⟩
            case measure => simp [intOf]; omega
          · have hq1 : ¬ (j : Int) = (i2 : Int) := by omega
            have hq2 : ((j : Int) == (i2 : Int)) = false := by simp; omega
            have HB8 := Lib.hid (hb8.alloc hb8.size (.cells #[.int .i64 (i2 : Int), .int .i64 (j2 : Int)] 47))
            clear hb38 hye hway2 hb8
            go_wp2_with fail
            go_roundw
            case rel => exact ⟨k + 1, by go_num, by omega, HB8.out⟩
            case measure => simp [intOf]; omega
        · have hkN : k = N := by omega
          subst hkN
          have hdk : decide (k < k) = false := by simp
          have hnk : ¬ (k : Int) < (k : Int) := by omega
          have HB8 := Lib.hid (HB7.out.trans (hb8.mono HB7.out.size))
          clear hb8
          go_wp2_with fail
          go_roundw
          case rel => exact ⟨m + 1, by go_num, by omega, HB8.out⟩
          case measure => simp [intOf]; omega
    · have hmN : m = N := by omega
      subst hmN
      have hdm : decide (m < m) = false := by simp
      have hnm : ¬ (m : Int) < (m : Int) := by omega
      have HB4 := Lib.hid hb
      clear hb
      obtain ⟨P, hP⟩ : ∃ P, p % 7 = P := ⟨_, rfl⟩
      obtain ⟨Q, hQ⟩ : ∃ Q, q % 7 = Q := ⟨_, rfl⟩
      have hP7 : P < 7 := by omega
      have hQ7 : Q < 7 := by omega
      have f7 : (p : Int) % 7 = (P : Int) := by rw [← hP]; omega
      have f8 : (q : Int) % 7 = (Q : Int) := by rw [← hQ]; omega
      have f1 : (p : Int).tmod 7 = (P : Int) := (Int.tmod_eq_emod_of_nonneg (by omega)).trans f7
      have f2 : (q : Int).tmod 7 = (Q : Int) := (Int.tmod_eq_emod_of_nonneg (by omega)).trans f8
      have f3 : IntKind.u8.wrap (P : Int) = (P : Int) := IntWalk.u8_in _ (by omega)
      have f4 : IntKind.u8.wrap (Q : Int) = (Q : Int) := IntWalk.u8_in _ (by omega)
      have f5 : IntKind.i64.wrap (P : Int) = (P : Int) := IntWalk.i64_in _ (by omega)
      have f6 : IntKind.i64.wrap (Q : Int) = (Q : Int) := IntWalk.i64_in _ (by omega)
      have hone := one_at (wr.alloc (.cells #[.int .i64 (P : Int), .int .i64 (Q : Int)] 47)) ((P : Int), (Q : Int))
      have hx0 : (wr.alloc (.cells #[.int .i64 (P : Int), .int .i64 (Q : Int)] 47)).cell? ⟨wr.heap.size, 0, none⟩ = some (.int .i64 (P : Int)) := by rw [cell_of_row _ _ _ _ _ _ (heap_alloc_new wr _)]; rfl
      have hx1 : (wr.alloc (.cells #[.int .i64 (P : Int), .int .i64 (Q : Int)] 47)).cell? ⟨wr.heap.size, 1, none⟩ = some (.int .i64 (Q : Int)) := by rw [cell_of_row _ _ _ _ _ _ (heap_alloc_new wr _)]; rfl
      have hb5 := HB4.out.alloc HB4.out.size (.cells #[.int .i64 (P : Int), .int .i64 (Q : Int)] 47)
      have hb6 := hb5.alloc hb5.size (.cells #[.int .i64 (P : Int), .int .i64 (Q : Int)] 47)
      have CU := Lib.hid (HUN.out _ _ ((P : Int), (Q : Int)) hb6 hone)
      have hxb0 := cell_later' ((Below.refl _ _).alloc (Nat.le_refl _) (.cells #[.int .i64 (P : Int), .int .i64 (Q : Int)] 47)) hx0
      have hxb1 := cell_later' ((Below.refl _ _).alloc (Nat.le_refl _) (.cells #[.int .i64 (P : Int), .int .i64 (Q : Int)] 47)) hx1
      rw [World.size_alloc] at CU
      have HX0 := Lib.hid hxb0; have HX1 := Lib.hid hxb1; have HB6 := Lib.hid hb6
      clear hone hb5 hb6 hxb0 hxb1 hP hQ HB4
      go_wp2_with fail
      obtain ⟨X, hX⟩ : ∃ X, wr.heap.size = X := ⟨_, rfl⟩
      rw [hX] at CU HX0 HX1 ⊢
      clear hx0 hx1 hX f1 f2 f3 f4 f5 f6 f7 f8
      generalize ((wr.alloc (.cells #[.int .i64 (P : Int), .int .i64 (Q : Int)] 47)).alloc (.cells #[.int .i64 (P : Int), .int .i64 (Q : Int)] 47)) = w5 at *
      refine (CU.out).mono ?_
      clear CU
      rintro e w6 ⟨aU, cU, rfl, hcU, hrU, hb7, _⟩
      have hmU := union1_mem (L := L) (p := P) (q := Q)
      have hlU : (unionL L [((P : Int), (Q : Int))]).length ≤ 101 := union1_length (by rw [HLL.out]; omega)
      have CK := Lib.hid (check_any aU cU _ 7 w6 (by decide) (by decide) (inn_more hmU HOK.out.inn hP7 hQ7) (unionL_asc _ _) (by omega) hrU)
      have HMC := Lib.hid (fun r (hr : ChkR 7 (unionL L [((P : Int), (Q : Int))]) r) => more_chk hmU HOK.out hQ7 hr)
      have HB7 := Lib.hid (HB6.out.trans (hb7.mono HB6.out.size))
      have HX07 := Lib.hid (cell_later' hb7 HX0.out); have HX17 := Lib.hid (cell_later' hb7 HX1.out)
      generalize unionL L [((P : Int), (Q : Int))] = U at *
      generalize U.length = ul at *
      clear hcU hrU hb7 hmU hlU HB6 HX0 HX1
      go_wp2_with fail
      refine (CK.out).mono ?_
      clear CK
      rintro e w7 ⟨r, rfl, hr, hb8⟩
      obtain ⟨k1, k2, k3⟩ := HMC.out r hr
      have HB8 := Lib.hid (HB7.out.trans (hb8.mono HB7.out.size))
      have hx0 := cell_later' hb8 HX07.out
      have hx1 := cell_later' hb8 HX17.out
      have hBg : Below g w0 w7 := HB3.out.trans (HB8.out.mono hs3)
      have CA := Lib.hid (fun W (hb : Below w7.heap.size w7 W) => awake_any W (HT.out.below (hBg.trans (hb.mono (by rw [← HG.out]; exact hBg.size))) hw1))
      have HBG := Lib.hid hBg
      have hgs : g ≤ w7.heap.size := by rw [← HG.out]; exact hBg.size
      have HGS := Lib.hid hgs
      have HFX := Lib.hid (HFD.out w7 ((Q : Int), (P : Int)) HB8.out)
      clear hr hb8 hBg hgs HMC HB7 HX07 HX17
      by_cases hPQ : P = Q
      · subst hPQ
        obtain rfl := k1 rfl
        clear k1 k2 k3
        have CA0 := Lib.hid (CA.out w7 (Below.refl _ _))
        go_wp2_with (go_at_call 8; refine (CA0.out).mono ?_; clear CA0; rintro e w8 ⟨rfl, hb9⟩; have HB9 := Lib.hid hb9; clear hb9)
        go_ret
        exact ⟨rfl, by rw [HG.out]; exact HBG.out.trans (HB9.out.mono HGS.out)⟩
      · have hq1 : ¬ (P : Int) = (Q : Int) := by omega
        have hq2 : ((P : Int) == (Q : Int)) = false := by simp; omega
        have hdm : decide (((Q : Int), (P : Int)) ∈ C) = true ↔ Way L Q P := by
          rw [decide_eq_true_iff, HM.out]
          constructor
          · rintro ⟨i, j, _, _, e, hw⟩
            injection e with e1 e2
            obtain rfl : Q = i := by omega
            obtain rfl : P = j := by omega
            exact hw
          · intro hw
            exact ⟨Q, P, hQ7, hP7, rfl, hw⟩
        have hx0 := hx0
        by_cases hway : Way L Q P
        · obtain rfl := k2 hPQ hway
          have HFX := Lib.hid (by have h := HFX.out; rw [hdm.2 hway] at h; exact h)
          clear k1 k2 k3 hdm hway hPQ
          go_wp2_with (first | (go_at_call 24; refine (HFX.out).mono ?_; clear HFX; rintro e w8 ⟨rfl, hb9⟩; have HB9 := Lib.hid hb9; have CA1 := Lib.hid (CA.out w8 hb9); clear hb9) | (go_at_call 8; refine (CA1.out).mono ?_; clear CA1; rintro e w9 ⟨rfl, hb10⟩; have HB10 := Lib.hid hb10; clear hb10))
          go_ret
          exact ⟨rfl, by rw [HG.out]; exact HBG.out.trans ((HB9.out.trans (HB10.out.mono HB9.out.size)).mono HGS.out)⟩
        · obtain rfl := k3 hPQ hway
          have hdf : decide (((Q : Int), (P : Int)) ∈ C) = false := by
            rw [← Bool.not_eq_true, hdm]; exact hway
          have HFX := Lib.hid (by have h := HFX.out; rw [hdf] at h; exact h)
          clear k1 k2 k3 hdm hway hPQ hdf
          go_wp2_with (first | (go_at_call 24; refine (HFX.out).mono ?_; clear HFX; rintro e w8 ⟨rfl, hb9⟩; have HB9 := Lib.hid hb9; have CA1 := Lib.hid (CA.out w8 hb9); clear hb9) | (go_at_call 8; refine (CA1.out).mono ?_; clear CA1; rintro e w9 ⟨rfl, hb10⟩; have HB10 := Lib.hid hb10; clear hb10))
          go_ret
          exact ⟨rfl, by rw [HG.out]; exact HBG.out.trans ((HB9.out.trans (HB10.out.mono HB9.out.size)).mono HGS.out)⟩
theorem loops_any (w : World) (a : Option Addr) (n c : Nat) (p q : Int) (hp : 0 ≤ p ∧ p ≤ 255) (hq : 0 ≤ q ∧ q ≤ 255) (hi : Ints w w.heap.size a n) (hT : Deb w) :
    Calls Tryd.prog 5 #[.slice a n c, .int .u8 p, .int .u8 q] w (BoolP true w) := by
  cases h : decide (n ≤ 400) with
  | false => exact loops_heavy w a n c p q h hT
  | true =>
    obtain ⟨p, rfl⟩ := Int.eq_ofNat_of_zero_le hp.1
    obtain ⟨q, rfl⟩ := Int.eq_ofNat_of_zero_le hq.1
    exact loops_light w a n c p q (by omega) (by omega) h hi hT
end Go.Proofs.YtgeldpkopolnfaaDoor
