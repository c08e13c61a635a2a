/- The law of unions. -/
import Derived.Test.YtcppmkimfoajaaaNdT
import Derived.Test.YtcppmkimfoajaaaNdY
import Derived.Test.YtcppmkimfoajaaaNdZ
import Derived.Test.YtcppmkimfoajaaaNdF
namespace Go.Proofs.Ytcppmkimfoajaaa
open Go.RowKit
set_option linter.all false

def SortedC : Prop := ∀ (a' : Option Addr) (c' : Nat) (L : List Rq) (w' : World), L.length ≤ 900 → ReqsAt w' a' L → Calls Try.prog 41 #[.slice a' L.length c'] w' (LstP (unionL L []) w')
theorem unionL_length (L M : List Rq) : (unionL L M).length ≤ L.length + M.length := by
  unfold unionL
  have h1 := foldP_length (foldP [] L) M
  have h2 := foldP_length [] L
  simp at h2
  omega
theorem un_assoc (A B C : List Rq) : unionL A (unionL B C) = unionL (unionL C A) B := asc_ext (unionL_asc _ _) (unionL_asc _ _) fun x => by
  simp only [unionL_mem]
  constructor
  · rintro (h | h | h)
    · exact .inl (.inr h)
    · exact .inr h
    · exact .inl (.inl h)
  · rintro ((h | h) | h)
    · exact .inr (.inr h)
    · exact .inl h
    · exact .inr (.inl h)
theorem un_idem {A : List Rq} (h : AscR A) : unionL A A = A := asc_ext (unionL_asc _ _) h fun x => by simp only [unionL_mem, or_self]
theorem un_has (A B C : List Rq) : unionL (unionL A (unionL B C)) B = unionL A (unionL B C) := asc_ext (unionL_asc _ _) (unionL_asc _ _) fun x => by
  simp only [unionL_mem]
  constructor
  · rintro (h | h)
    · exact h
    · exact .inr (.inl h)
  · exact .inl
theorem sameL_self (L : List Rq) : sameL L L = true := by unfold sameL; exact decide_eq_true rfl

set_option maxRecDepth 100000 in
set_option maxHeartbeats 4000000 in
theorem unions_heavy (w : World) (a : Option Addr) (n c : Nat) (h : decide (n ≤ 400) = false) (CS : SortedC) :
    Calls Try.prog 5 #[.slice a n c] w (BoolP true w) := by
  have CL := Lib.hid (light_any a n c false w h)
  have HCS := Lib.hid CS
  clear h CS
  go_enter Try.func5, Try.ntmps5
  go_wp2_with fail
  refine (CL.out).mono ?_
  rintro e w1 ⟨rfl, rfl⟩
  have CA := Lib.hid (awake28_any w1 HCS.out)
  clear CL
  go_wp2_with fail
  refine (CA.out).mono ?_
  rintro e w2 ⟨rfl, hb⟩
  have HB := Lib.hid hb; clear hb
  go_wp2_with fail
  go_ret
  exact ⟨rfl, HB.out⟩

def chQ : List Rq := [(1, 2), (2, 0), (3, 1)]
theorem chQ_in : Inn 4 chQ := fun x hx => by
  simp only [chQ, List.mem_cons, List.not_mem_nil, or_false] at hx
  rcases hx with rfl | rfl | rfl <;> decide
theorem chQ_ways : Way chQ 3 0 ∧ Way chQ 1 2 ∧ Way chQ 3 1 ∧ Way chQ 2 0 ∧ ¬ Way chQ 0 3 := by
  have h12 : Way chQ 1 2 := .one (by decide)
  have h20 : Way chQ 2 0 := .one (by decide)
  have h31 : Way chQ 3 1 := .one (by decide)
  refine ⟨h31.trans (h12.trans h20), h12, h31, h20, fun h => ?_⟩
  cases h with
  | one h => revert h; decide
  | more h _ =>
    simp only [chQ, List.mem_cons, List.not_mem_nil, or_false, Prod.mk.injEq] at h
    omega

set_option maxRecDepth 100000 in
set_option maxHeartbeats 8000000 in
theorem unions_light (w : World) (a : Option Addr) (n c : Nat) (h : decide (n ≤ 400) = true) (hi : Ints w w.heap.size a n) (CS : SortedC) :
    Calls Try.prog 5 #[.slice a n c] w (BoolP true w) := by
  have CL := Lib.hid (light_any a n c true w h)
  have CR := Lib.hid (roll_any a n c w (of_decide_eq_true h) hi)
  have HCS := Lib.hid CS
  clear h hi CS
  go_enter Try.func5, Try.ntmps5
  go_wp2_with fail
  refine (CL.out).mono ?_
  rintro e w0 ⟨rfl, rfl⟩
  go_wp2_with fail
  refine (CR.out).mono ?_
  rintro e w1 ⟨rfl, hd1, hb1⟩
  obtain ⟨g, hg⟩ : ∃ g, w0.heap.size = g := ⟨_, rfl⟩
  rw [hg] at hd1 hb1
  have hs0 : g < w1.heap.size := hd1.lt
  have HG := Lib.hid hg
  have HB1 := Lib.hid hb1
  have C1 := Lib.hid (needs_any w1 g 7 (by decide) (by decide) hd1)
  rw [hg]
  clear hg hb1 hd1 CL CR
  go_wp2_with fail
  refine (C1.out).mono ?_
  rintro e w2 ⟨v2, A, rfl, hokA, hlA, hSA, hd2, hg2⟩
  have HOA := Lib.hid hokA; have HSA := Lib.hid hSA; have HG2 := Lib.hid hg2
  have C2 := Lib.hid (needs_any w2 g 7 (by decide) (by decide) hd2)
  clear hokA hSA hd2 hg2 C1
  go_wp2_with fail
  refine (C2.out).mono ?_
  rintro e w3 ⟨v3, B, rfl, hokB, hlB, hSB, hd3, hg3⟩
  have HOB := Lib.hid hokB; have HSB := Lib.hid hSB; have HG3 := Lib.hid hg3
  have C3 := Lib.hid (needs_any w3 g 7 (by decide) (by decide) hd3)
  clear hokB hSB hd3 hg3 C2
  go_wp2_with fail
  refine (C3.out).mono ?_
  rintro e w4 ⟨v4, C, rfl, hokC, hlC, hSC, hd4, hg4⟩
  obtain ⟨aA, cA, eA, hcA, hrA, hnA⟩ := HSA.out
  obtain ⟨aB, cB, eB, hcB, hrB, hnB⟩ := HSB.out
  obtain ⟨aC, cC, eC, hcC, hrC, hnC⟩ := hSC
  have hrA4 := (hrA.grown HG3.out hnA).grown hg4 hnA
  have hrB4 := hrB.grown hg4 hnB
  have hgAll : w1.grownBy w4 (some g) := (HG2.out.trans HG3.out).trans hg4
  have hb4 : Below g w0 w4 := HB1.out.trans ⟨hgAll.os, hgAll.tape, hgAll.output, hgAll.size, fun k hk => hgAll.block k (by omega) (by simp; omega)⟩
  have hs4 : g ≤ w4.heap.size := by have := hgAll.size; omega
  have HB4 := Lib.hid hb4; have RA := Lib.hid hrA4; have RB := Lib.hid hrB4; have RC := Lib.hid hrC
  subst eA; subst eB; subst eC
  clear hb4 hrA4 hrB4 hrC hrA hrB hgAll hg4 hd4 hokC hnA hnB hnC HSA HSB HG2 HG3 C3 hcA hcB hcC
  -- b and c
  have K1 := Lib.hid (union_any aB aC cB cC B C w4 (by omega) (by omega) RB.out RC.out HCS.out)
  have hl1 := unionL_length B C
  obtain ⟨U, hU⟩ : ∃ U, unionL B C = U := ⟨_, rfl⟩
  rw [hU] at K1 hl1
  have HU := Lib.hid hU; clear hU
  go_wp2_with fail
  refine (K1.out).mono ?_
  rintro e w5 ⟨aU, cU, rfl, hcU, hrU, hb5, _⟩
  have HB5 := Lib.hid (HB4.out.trans (hb5.mono hs4))
  have hs5 : g ≤ w5.heap.size := by have := hb5.size; omega
  have RA5 := Lib.hid (RA.out.step hb5); have RB5 := Lib.hid (RB.out.step hb5); have RC5 := Lib.hid (RC.out.step hb5); have RU := Lib.hid hrU
  clear hb5 hrU hcU K1 RA RB RC HB4
  -- a and that
  have K2 := Lib.hid (union_any aA aU cA cU A U w5 (by omega) (by omega) RA5.out RU.out HCS.out)
  have hl2 := unionL_length A U
  obtain ⟨X, hX⟩ : ∃ X, unionL A U = X := ⟨_, rfl⟩
  rw [hX] at K2 hl2
  have HX := Lib.hid hX; clear hX
  go_wp2_with fail
  refine (K2.out).mono ?_
  rintro e w6 ⟨aX, cX, rfl, hcX, hrX, hb6, _⟩
  have HB6 := Lib.hid (HB5.out.trans (hb6.mono hs5))
  have hs6 : g ≤ w6.heap.size := by have := hb6.size; omega
  have RA6 := Lib.hid (RA5.out.step hb6); have RB6 := Lib.hid (RB5.out.step hb6); have RC6 := Lib.hid (RC5.out.step hb6); have RX := Lib.hid hrX
  clear hb6 hrX hcX K2 RA5 RB5 RC5 HB5 RU
  -- c and a
  have K3 := Lib.hid (union_any aC aA cC cA C A w6 (by omega) (by omega) RC6.out RA6.out HCS.out)
  have hl3 := unionL_length C A
  obtain ⟨V, hV⟩ : ∃ V, unionL C A = V := ⟨_, rfl⟩
  rw [hV] at K3 hl3
  have HV := Lib.hid hV; clear hV
  go_wp2_with fail
  refine (K3.out).mono ?_
  rintro e w7 ⟨aV, cV, rfl, hcV, hrV, hb7, _⟩
  have HB7 := Lib.hid (HB6.out.trans (hb7.mono hs6))
  have hs7 : g ≤ w7.heap.size := by have := hb7.size; omega
  have RA7 := Lib.hid (RA6.out.step hb7); have RB7 := Lib.hid (RB6.out.step hb7); have RX7 := Lib.hid (RX.out.step hb7); have RV := Lib.hid hrV
  clear hb7 hrV hcV K3 RA6 RB6 RC6 HB6 RX
  -- that and b
  have K4 := Lib.hid (union_any aV aB cV cB V B w7 (by omega) (by omega) RV.out RB7.out HCS.out)
  rw [← HV.out, ← un_assoc, HU.out, HX.out, HV.out] at K4
  go_wp2_with fail
  refine (K4.out).mono ?_
  rintro e w8 ⟨aY, cY, rfl, hcY, hrY, hb8, _⟩
  have HB8 := Lib.hid (HB7.out.trans (hb8.mono hs7))
  have hs8 : g ≤ w8.heap.size := by have := hb8.size; omega
  have RA8 := Lib.hid (RA7.out.step hb8); have RB8 := Lib.hid (RB7.out.step hb8); have RX8 := Lib.hid (RX7.out.step hb8); have RY := Lib.hid hrY
  clear hb8 hrY hcY K4 RA7 RB7 RX7 HB7 RV
  -- the chain
  have hba := (HB8.out.alloc hs8 (.cells #[.int .i64 3, .int .i64 1, .int .i64 2, .int .i64 0] 3))
  have hbs := (Below.refl w8.heap.size w8).alloc (Nat.le_refl _) (.cells #[.int .i64 3, .int .i64 1, .int .i64 2, .int .i64 0] 3)
  have hz : TeamsAt (w8.alloc (.cells #[.int .i64 3, .int .i64 1, .int .i64 2, .int .i64 0] 3)) (some ⟨w8.heap.size, 0, none⟩) [3, 1, 2, 0] := fun j hj => by
    refine ⟨w8.heap.size, 0, rfl, ?_⟩
    rw [cell_of_row _ _ _ _ _ _ (heap_alloc_new _ _)]
    match j, hj with
    | 0, _ => rfl
    | 1, _ => rfl
    | 2, _ => rfl
    | 3, _ => rfl
  have cc := chain_any (some ⟨w8.heap.size, 0, none⟩) 4 [3, 1, 2, 0] _ (by simp) hz HCS.out
  rw [show unionL (chainL [3, 1, 2, 0] ([3, 1, 2, 0] : List Int).length) [] = chQ by decide, show ([3, 1, 2, 0] : List Int).length = 4 from rfl] at cc
  have CC := Lib.hid cc; have HBA := Lib.hid hba
  have RA9 := Lib.hid (RA8.out.step hbs); have RB9 := Lib.hid (RB8.out.step hbs); have RX9 := Lib.hid (RX8.out.step hbs); have RY9 := Lib.hid (RY.out.step hbs)
  have hs9 : g ≤ (w8.alloc (.cells #[.int .i64 3, .int .i64 1, .int .i64 2, .int .i64 0] 3)).heap.size := by simp; omega
  clear cc hba hbs hz RA8 RB8 RX8 RY HB8
  go_wp2_with fail
  generalize w8.alloc (.cells #[.int .i64 3, .int .i64 1, .int .i64 2, .int .i64 0] 3) = W9 at *
  refine (CC.out).mono ?_
  rintro e w10 ⟨aQ, cQ, rfl, hcQ, hrQ, hb10, _⟩
  have HB10 := Lib.hid (HBA.out.trans (hb10.mono hs9))
  have hs10 : g ≤ w10.heap.size := by have := hb10.size; omega
  have RA10 := Lib.hid (RA9.out.step hb10); have RB10 := Lib.hid (RB9.out.step hb10); have RX10 := Lib.hid (RX9.out.step hb10); have RY10 := Lib.hid (RY9.out.step hb10)
  have K5 := Lib.hid (ways_any aQ cQ chQ 4 w10 (by decide) (by decide) chQ_in (by decide) hrQ)
  rw [show chQ.length = 3 from rfl] at K5 ⊢
  clear hb10 hrQ hcQ CC RA9 RB9 RX9 RY9 HBA
  go_wp2_with fail
  refine (K5.out).mono ?_
  rintro e w11 ⟨q, cM, bs, M, rfl, hcM, hMat, hMW, hb11⟩
  have HB11 := Lib.hid (HB10.out.trans (hb11.mono hs10))
  have hs11 : g ≤ w11.heap.size := by have := hb11.size; omega
  have RA11 := Lib.hid (RA10.out.step hb11); have RB11 := Lib.hid (RB10.out.step hb11); have RX11 := Lib.hid (RX10.out.step hb11); have RY11 := Lib.hid (RY10.out.step hb11)
  have HMT := Lib.hid hMat
  obtain ⟨q1, q2, q3, q4, q5⟩ := chQ_ways
  have m30 := Lib.hid ((hMW 3 0 (by decide) (by decide)).2 q1)
  have m12 := Lib.hid ((hMW 1 2 (by decide) (by decide)).2 q2)
  have m31 := Lib.hid ((hMW 3 1 (by decide) (by decide)).2 q3)
  have m20 := Lib.hid ((hMW 2 0 (by decide) (by decide)).2 q4)
  have m03 := Lib.hid (show M 0 3 = false by
    cases e : M 0 3 with
    | false => rfl
    | true => exact absurd ((hMW 0 3 (by decide) (by decide)).1 e) q5)
  clear q1 q2 q3 q4 q5 hMat hMW hb11 hcM K5 RA10 RB10 RX10 RY10 HB10
  -- the tests
  have K6 := Lib.hid (reqSame_any aX aY cX cY X X w11 (by omega) (by omega) RX11.out RY11.out)
  rw [sameL_self] at K6
  go_wp2_with fail
  refine (K6.out).mono ?_
  rintro e w12 ⟨rfl, hb12⟩
  have HB12 := Lib.hid (HB11.out.trans (hb12.mono hs11))
  have hs12 : g ≤ w12.heap.size := by have := hb12.size; omega
  have RA12 := Lib.hid (RA11.out.step hb12); have RB12 := Lib.hid (RB11.out.step hb12); have RX12 := Lib.hid (RX11.out.step hb12); have HMT12 := Lib.hid (HMT.out.step hb12)
  clear hb12 K6 RA11 RB11 RX11 RY11 HMT HB11
  have K7 := Lib.hid (union_any aA aA cA cA A A w12 (by omega) (by omega) RA12.out RA12.out HCS.out)
  rw [un_idem HOA.out.1] at K7
  go_wp2_with fail
  refine (K7.out).mono ?_
  rintro e w13 ⟨aP, cP, rfl, hcP, hrP, hb13, _⟩
  have HB13 := Lib.hid (HB12.out.trans (hb13.mono hs12))
  have hs13 : g ≤ w13.heap.size := by have := hb13.size; omega
  have RA13 := Lib.hid (RA12.out.step hb13); have RB13 := Lib.hid (RB12.out.step hb13); have RX13 := Lib.hid (RX12.out.step hb13); have HMT13 := Lib.hid (HMT12.out.step hb13)
  have K8 := Lib.hid (reqSame_any aP aA cP cA A A w13 (by omega) (by omega) hrP RA13.out)
  rw [sameL_self] at K8
  clear hb13 hrP hcP K7 RA12 RB12 RX12 HMT12 HB12
  go_wp2_with fail
  refine (K8.out).mono ?_
  rintro e w14 ⟨rfl, hb14⟩
  have HB14 := Lib.hid (HB13.out.trans (hb14.mono hs13))
  have hs14 : g ≤ w14.heap.size := by have := hb14.size; omega
  have RB14 := Lib.hid (RB13.out.step hb14); have RX14 := Lib.hid (RX13.out.step hb14); have HMT14 := Lib.hid (HMT13.out.step hb14)
  clear hb14 K8 RA13 RB13 RX13 HMT13 HB13
  have K9 := Lib.hid (union_any aX aB cX cB X B w14 (by omega) (by omega) RX14.out RB14.out HCS.out)
  rw [← HX.out, ← HU.out, un_has, HU.out, HX.out] at K9
  go_wp2_with fail
  refine (K9.out).mono ?_
  rintro e w15 ⟨aR, cR, rfl, hcR, hrR, hb15, _⟩
  have HB15 := Lib.hid (HB14.out.trans (hb15.mono hs14))
  have hs15 : g ≤ w15.heap.size := by have := hb15.size; omega
  have RX15 := Lib.hid (RX14.out.step hb15); have HMT15 := Lib.hid (HMT14.out.step hb15)
  have K10 := Lib.hid (reqSame_any aR aX cR cX X X w15 (by omega) (by omega) hrR RX15.out)
  rw [sameL_self] at K10
  clear hb15 hrR hcR K9 RB14 RX14 HMT14 HB14
  go_wp2_with fail
  refine (K10.out).mono ?_
  rintro e w16 ⟨rfl, hb16⟩
  have HB16 := Lib.hid (HB15.out.trans (hb16.mono hs15))
  have hs16 : g ≤ w16.heap.size := by have := hb16.size; omega
  have hM16 := HMT15.out.step hb16
  clear hb16 K10 RX15 HMT15 HB15
  have d3 := hM16.cellq 3 (by decide)
  have d1 := hM16.cellq 1 (by decide)
  have d2 := hM16.cellq 2 (by decide)
  have d0 := hM16.cellq 0 (by decide)
  have f30 := hM16.cellr 3 0 (by decide) (by decide)
  have f12 := hM16.cellr 1 2 (by decide) (by decide)
  have f31 := hM16.cellr 3 1 (by decide) (by decide)
  have f20 := hM16.cellr 2 0 (by decide) (by decide)
  have f03 := hM16.cellr 0 3 (by decide) (by decide)
  rw [m30.out] at f30
  rw [m12.out] at f12
  rw [m31.out] at f31
  rw [m20.out] at f20
  rw [m03.out] at f03
  generalize bs.getD 3 0 = b3 at *
  generalize bs.getD 1 0 = b1 at *
  generalize bs.getD 2 0 = b2 at *
  generalize bs.getD 0 0 = b0 at *
  have CA := Lib.hid (awake28_any w16 HCS.out)
  clear hM16 m30 m12 m31 m20 m03
  go_wp2_with fail
  refine (CA.out).mono ?_
  rintro e w17 ⟨rfl, hb17⟩
  have HB17 := Lib.hid (HB16.out.trans (hb17.mono hs16))
  clear hb17 CA
  go_wp2_with fail
  go_ret
  exact ⟨rfl, by rw [HG.out]; exact HB17.out⟩
theorem unions_any (w : World) (a : Option Addr) (n c : Nat) (hi : Ints w w.heap.size a n) (CS : SortedC) :
    Calls Try.prog 5 #[.slice a n c] w (BoolP true w) := by
  cases h : decide (n ≤ 400) with
  | false => exact unions_heavy w a n c h CS
  | true => exact unions_light w a n c h hi CS
end Go.Proofs.Ytcppmkimfoajaaa
