/- window.Check of a good calendar, checkTeam. -/
import Derived.Test.YtnconhbambhhgaaWnG
namespace Go.Proofs.Ytnconhbambhhgaa
open Go.RowKit
set_option linter.all false

structure GoodCal (W : World) (p q r : Option Addr) (L : List Win) (T : Nat → List Int) (Q R : List Int) : Prop where
  wins : WinsAt W p L
  ts : TsAt W L T
  team : TeamsAt W q Q
  room : TeamsAt W r R
  l1 : L.length ≤ 32
  l2 : Q.length ≤ 1000
  l3 : R.length ≤ 8
  rooms : R.all roomB = true
  days : ∀ j, j < L.length → noDays (L.getD j win0).from_ (L.getD j win0).to_ = false
  asc : AscW L
  asct : ∀ j, j < L.length → AscT (T j)
  tin : ∀ j, j < L.length → (T j).all (isT R.length) = true
  qin : Q.all (isT R.length) = true
theorem GoodCal.step {W W' : World} {p q r : Option Addr} {L : List Win} {T : Nat → List Int} {Q R : List Int} (h : GoodCal W p q r L T Q R) (hb : Below W.heap.size W W') : GoodCal W' p q r L T Q R :=
  ⟨h.wins.step hb, h.ts.step hb, h.team.step hb, h.room.step hb, h.l1, h.l2, h.l3, h.rooms, h.days, h.asc, h.asct, h.tin, h.qin⟩

set_option maxHeartbeats 1000000 in
theorem winTeams_any (g : Nat) (p q r a : Option Addr) (n1 c1 n2 c2 n c cc : Nat) (f t : Int) (Q : List Int) (w : World) (hl : Q.length ≤ 1000) (h : CalBox g p q r n1 c1 n2 c2 n c w) (hL : TeamsAt w a Q) (hall : Q.all (isT n) = true) :
    Calls Try.prog 54 #[.agg #[.int .i64 f, .int .i64 t, .slice a Q.length cc], .pointer (some ⟨g, 0, none⟩)] w (BoolP false w) := by
  have hb0 := (Below.refl w.heap.size w).alloc (Nat.le_refl _) (.cells #[.int .i64 f, .int .i64 t, .slice a Q.length cc] 77)
  obtain ⟨h0, h1, h2⟩ := h.step hb0
  have z2 : (w.alloc (.cells #[.int .i64 f, .int .i64 t, .slice a Q.length cc] 77)).cell? ⟨w.heap.size, 2, none⟩ = some (.slice a Q.length cc) := by simp
  have CT := Lib.hid (areTeams_any p q r a n1 c1 n2 c2 n c cc Q _ hl (hL.step hb0) hall)
  have HB0 := Lib.hid hb0
  clear hb0 hL hall hl h
  go_enter Try.func54, Try.ntmps54
  go_wp2_with fail
  refine (CT.out).mono ?_
  rintro e w1 ⟨rfl, hb1⟩
  go_wp2_with fail
  go_ret
  exact ⟨rfl, HB0.out.trans (hb1.mono (by simp))⟩

set_option maxRecDepth 100000 in
set_option maxHeartbeats 2000000 in
theorem winTeamsIx (g : Nat) (p q r a : Option Addr) (n1 k1 n2 k2 n k3 cc : Nat) (L : List Win) (T : Nat → List Int) (w : World) (hl : L.length ≤ 1000) (h : CalBox g p q r n1 k1 n2 k2 n k3 w) (hL : WinsAt w a L) (hT : TsAt w L T) (hall : ∀ j, j < L.length → (T j).all (isT n) = true) :
    Calls Try.prog 55 #[.slice a L.length cc, .func (.func 54) #[] #[.pointer (some ⟨g, 0, none⟩)]] w (IntP (-1) w) := by
  have HL := Lib.hid hL; have HT := Lib.hid hT; have HALL := Lib.hid hall; have HX := Lib.hid h
  obtain ⟨N, hN⟩ : ∃ N, L.length = N := ⟨_, rfl⟩
  have HN := Lib.hid hN
  rw [hN] at hl ⊢
  clear hL hN hall hT h
  go_enter Try.func55, Try.ntmps55
  go_wp2_with fail
  go_loopw [5, 8] (fun _ iv wr => AsRel w N iv wr) (fun _ iv _ => N - (intOf iv).toNat)
  case atStart => exact ⟨0, rfl, Nat.zero_le _, Below.refl _ _⟩
  case round =>
    obtain ⟨k, rfl, hk, hb⟩ := hrel
    by_cases hlt : k < N
    · have hkl : k < L.length := by rw [HN.out]; exact hlt
      obtain ⟨b, o, hp, c0, c1, c2⟩ := HL.out k hkl
      obtain ⟨t1, t2, t3⟩ := HT.out k hkl
      rw [t1] at c2
      subst hp
      have c0 := cell_later' hb c0
      have c1 := cell_later' hb c1
      have c2 := cell_later' hb c2
      have hi0 : (0 : Int) ≤ (k : Int) := by omega
      have hi2 : (k : Int) < (N : Int) := by omega
      have hdd : decide (k < N) = true := decide_eq_true hlt
      have CX := Lib.hid (winTeams_any g p q r (L.getD k win0).a n1 k1 n2 k2 n k3 (L.getD k win0).c (L.getD k win0).from_ (L.getD k win0).to_ (T k) wr t2 (HX.out.step hb) (t3.step hb) (HALL.out k hkl))
      generalize (L.getD k win0).from_ = f at *
      generalize (L.getD k win0).to_ = t at *
      generalize (L.getD k win0).a = a' at *
      generalize (L.getD k win0).c = c' at *
      have HBE := Lib.hid hb
      clear hb t1 t2 t3
      go_wp2_with fail
      refine (CX.out).mono ?_
      rintro e w1 ⟨rfl, hb1⟩
      have HB1 := Lib.hid (HBE.out.trans (hb1.mono HBE.out.size))
      clear hb1
      go_wp2_with fail
      go_roundw
      case rel => exact ⟨k + 1, by go_num, by omega, HB1.out⟩
      case measure => simp [intOf]; omega
    · have hk2 : k = N := by omega
      subst hk2
      have HBE := Lib.hid hb
      clear hb
      go_wp2_with fail
      go_ret
      exact ⟨rfl, HBE.out⟩

theorem winTeamsHas (g : Nat) (p q r a : Option Addr) (n1 k1 n2 k2 n k3 cc : Nat) (L : List Win) (T : Nat → List Int) (w : World) (hl : L.length ≤ 1000) (h : CalBox g p q r n1 k1 n2 k2 n k3 w) (hL : WinsAt w a L) (hT : TsAt w L T) (hall : ∀ j, j < L.length → (T j).all (isT n) = true) :
    Calls Try.prog 51 #[.slice a L.length cc, .func (.func 54) #[] #[.pointer (some ⟨g, 0, none⟩)]] w (BoolP false w) := by
  have CI := Lib.hid (winTeamsIx g p q r a n1 k1 n2 k2 n k3 cc L T w hl h hL hT hall)
  clear hL hall hl hT h
  go_enter Try.func51, Try.ntmps51
  go_wp2_with fail
  refine (CI.out).mono ?_
  rintro e w1 ⟨rfl, hb1⟩
  go_wp2_with fail
  go_ret
  exact ⟨rfl, hb1⟩

set_option maxRecDepth 100000 in
set_option maxHeartbeats 4000000 in
theorem check_good (p q r : Option Addr) (L : List Win) (T : Nat → List Int) (Q R : List Int) (c1 c2 c3 : Nat) (w : World) (h : GoodCal w p q r L T Q R) :
    Calls Try.prog 36 #[.agg #[.slice p L.length c1, .slice q Q.length c2, .slice r R.length c3], .int .i64 Q.length] w (IntP 0 w) := by
  have hb0 := (Below.refl w.heap.size w).alloc (Nat.le_refl _) (.cells #[.slice p L.length c1, .slice q Q.length c2, .slice r R.length c3] 38)
  have hx : CalBox w.heap.size p q r L.length c1 Q.length c2 R.length c3 (w.alloc (.cells #[.slice p L.length c1, .slice q Q.length c2, .slice r R.length c3] 38)) := ⟨by simp, by simp, by simp⟩
  have hg := h.step hb0
  have d1 : decide (32 < L.length) = false := decide_eq_false (by have := h.l1; omega)
  have d2 : decide (8 < R.length) = false := decide_eq_false (by have := h.l3; omega)
  have l1 := h.l1; have l2 := h.l2; have l3 := h.l3
  have HG := Lib.hid hg; have HX := Lib.hid hx; have HB0 := Lib.hid hb0
  have CR := Lib.hid (fun W (hW : Below _ _ W) => rooms_has r c3 R W (by omega) (hg.room.step hW) hg.rooms)
  have CD := Lib.hid (fun W (hW : Below _ _ W) => noDaysHas p c1 L W (by omega) (hg.wins.step hW) hg.days)
  have CA := Lib.hid (fun W (hW : Below _ _ W) => ascend_any p c1 L T W (by omega) (hg.wins.step hW) (hg.ts.step hW) hg.asc hg.asct)
  have CW := Lib.hid (fun W (hW : Below _ _ W) => winTeamsHas w.heap.size p q r p L.length c1 Q.length c2 R.length c3 c1 L T W (by omega) (hx.step hW) (hg.wins.step hW) (hg.ts.step hW) hg.tin)
  have CT := Lib.hid (fun W (hW : Below _ _ W) => areTeams_any p q r q L.length c1 Q.length c2 R.length c3 c2 Q W (by omega) (hg.team.step hW) hg.qin)
  obtain ⟨x0, x1, x2⟩ := hx
  have XL := Lib.hid (fun W (hW : Below _ _ W) => (show CalBox w.heap.size p q r L.length c1 Q.length c2 R.length c3 _ from ⟨x0, x1, x2⟩).step hW)
  have hlt : w.heap.size < (w.alloc (.cells #[.slice p L.length c1, .slice q Q.length c2, .slice r R.length c3] 38)).heap.size := block_lt_of_cell x0
  have HLT := Lib.hid hlt
  clear h hg hb0 HG HX hlt
  generalize hLl : L.length = nL at *
  generalize hQl : Q.length = nQ at *
  generalize hRl : R.length = nR at *
  have HLl := Lib.hid hLl; have HQl := Lib.hid hQl; have HRl := Lib.hid hRl
  clear hLl hQl hRl
  go_enter Try.func36, Try.ntmps36
  go_wp2_with fail
  generalize w.alloc (.cells #[.slice p nL c1, .slice q nQ c2, .slice r nR c3] 38) = W0 at *
  generalize hG : w.heap.size = G at *
  refine (CR.out W0 (Below.refl _ _)).mono ?_
  rintro e w1 ⟨rfl, hb1⟩
  obtain ⟨x0, x1, x2⟩ := XL.out w1 hb1
  have HB1 := Lib.hid hb1; clear hb1
  go_wp2_with fail
  refine (CD.out w1 HB1.out).mono ?_
  rintro e w2 ⟨rfl, hb2⟩
  have hb2 := HB1.out.trans (hb2.mono HB1.out.size)
  clear x0 x1 x2 HB1
  obtain ⟨x0, x1, x2⟩ := XL.out w2 hb2
  have HB1 := Lib.hid hb2; clear hb2
  go_wp2_with fail
  refine (CA.out w2 HB1.out).mono ?_
  rintro e w3 ⟨rfl, hb2⟩
  have hb2 := HB1.out.trans (hb2.mono HB1.out.size)
  clear x0 x1 x2 HB1
  obtain ⟨x0, x1, x2⟩ := XL.out w3 hb2
  have HB1 := Lib.hid hb2; clear hb2
  go_wp2_with fail
  refine (CW.out w3 HB1.out).mono ?_
  rintro e w4 ⟨rfl, hb2⟩
  have hb2 := HB1.out.trans (hb2.mono HB1.out.size)
  clear x0 x1 x2 HB1
  obtain ⟨x0, x1, x2⟩ := XL.out w4 hb2
  have HB1 := Lib.hid hb2; clear hb2
  go_wp2_with fail
  refine (CT.out w4 HB1.out).mono ?_
  rintro e w5 ⟨rfl, hb2⟩
  have hb2 := HB1.out.trans (hb2.mono HB1.out.size)
  clear x0 x1 x2 HB1
  have HB1 := Lib.hid hb2; clear hb2
  go_wp2_with fail
  go_ret
  exact ⟨rfl, by rw [hG]; exact HB0.out.trans (HB1.out.mono (Nat.le_of_lt HLT.out))⟩

end Go.Proofs.Ytnconhbambhhgaa
