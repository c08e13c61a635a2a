/- CatalogBack. -/
import Derived.Test.YtdhochjcigingaaDoorBackA
import Derived.Test.YtdhochjcigingaaDoorSuV
namespace Go.Proofs.YtdhochjcigingaaDoor
set_option linter.all false
open Go.RowKit

structure LW (m : Int) (w W : World) : Prop where
  tabs : Tabs m W
  below : Below w.heap.size w W
theorem LW.step {m : Int} {w W W' : World} (h : LW m w W) (hb : Below W.heap.size W W') : LW m w W' := ⟨h.tabs.step hb, h.below.trans (hb.mono h.below.size)⟩

theorem row_good : ∀ i, i < 17 → 1 ≤ i → (0 < strS (rowAt i).ca (rowAt i).cb ∧ 0 < strS (rowAt i).mac 0) ∧ (rowAt i).least ≤ (rowAt i).most := by decide +kernel

def AtZ (W : World) (B : Nat) (q : Int) (r : SRow) : Prop := W.cell? ⟨B, 0, none⟩ = some (.int .i64 q) ∧ W.cell? ⟨B, 1, none⟩ = some (.string ⟨r.name.toArray⟩) ∧ W.cell? ⟨B, 2, none⟩ = some (.int .i64 r.xa) ∧ W.cell? ⟨B, 3, none⟩ = some (.int .i64 r.xb) ∧ W.cell? ⟨B, 4, none⟩ = some (.int .i64 r.sign) ∧ W.cell? ⟨B, 5, none⟩ = some (.int .i64 0) ∧ W.cell? ⟨B, 6, none⟩ = some (.int .i64 r.ca) ∧ W.cell? ⟨B, 7, none⟩ = some (.int .i64 r.cb) ∧ W.cell? ⟨B, 8, none⟩ = some (.int .i64 r.mac) ∧ W.cell? ⟨B, 9, none⟩ = some (.int .i64 0) ∧ W.cell? ⟨B, 10, none⟩ = some (.int .i64 r.least) ∧ W.cell? ⟨B, 11, none⟩ = some (.int .i64 r.most)
theorem AtZ.of {W : World} {B : Nat} {q : Int} {r : SRow} (h : At12 W B 0 q r) : AtZ W B q r := h
theorem atZ_new (W : World) (q : Int) (r : SRow) : At12 (W.alloc (.cells #[.int .i64 q, .string ⟨r.name.toArray⟩, .int .i64 r.xa, .int .i64 r.xb, .int .i64 r.sign, .int .i64 0, .int .i64 r.ca, .int .i64 r.cb, .int .i64 r.mac, .int .i64 0, .int .i64 r.least, .int .i64 r.most] 29)) W.heap.size 0 q r := by
  have k := fun j => cell_of_row _ _ j _ _ _ (heap_alloc_new W (.cells #[.int .i64 q, .string ⟨r.name.toArray⟩, .int .i64 r.xa, .int .i64 r.xb, .int .i64 r.sign, .int .i64 0, .int .i64 r.ca, .int .i64 r.cb, .int .i64 r.mac, .int .i64 0, .int .i64 r.least, .int .i64 r.most] 29))
  exact ⟨k 0, k 1, k 2, k 3, k 4, k 5, k 6, k 7, k 8, k 9, k 10, k 11⟩

/-- The second loop's round: the suite's box and the table. -/
structure QW (m : Int) (w : World) (B b k : Nat) (q : Int) (r : SRow) (W : World) : Prop where
  box : At12 W B 0 q r
  row : At12 W b (k * 12) q r
  suv : SuV W b
  tabs : Tabs m W
  below : Below w.heap.size w W
theorem At12.step {W W' : World} {b o : Nat} {q : Int} {r : SRow} (h : At12 W b o q r) (hb : Below W.heap.size W W') : At12 W' b o q r := by
  have key : ∀ j v, W.cell? ⟨b, j, none⟩ = some v → W'.cell? ⟨b, j, none⟩ = some v := fun j v e => (hb.cell (p := ⟨b, j, none⟩) (block_lt_of_cell e)).trans e
  obtain ⟨a0, a1, a2, a3, a4, a5, a6, a7, a8, a9, a10, a11⟩ := h
  exact ⟨key _ _ a0, key _ _ a1, key _ _ a2, key _ _ a3, key _ _ a4, key _ _ a5, key _ _ a6, key _ _ a7, key _ _ a8, key _ _ a9, key _ _ a10, key _ _ a11⟩
theorem QW.step {m : Int} {w : World} {B b k : Nat} {q : Int} {r : SRow} {W W' : World} (h : QW m w B b k q r W) (hb : Below W.heap.size W W') : QW m w B b k q r W' :=
  ⟨h.box.step hb, h.row.step hb, h.suv.below hb, h.tabs.step hb, h.below.trans (hb.mono h.below.size)⟩

def BoolQ (m : Int) (w : World) (B b k : Nat) (q : Int) (r : SRow) (e : Ending) (w' : World) : Prop := e = .returned (.bool true) ∧ QW m w B b k q r w'
def IntQ (m : Int) (w : World) (B b k : Nat) (q : Int) (r : SRow) (e : Ending) (w' : World) : Prop := e = .returned (.int .i64 q) ∧ QW m w B b k q r w'
theorem valid_qw {m : Int} {w : World} {B b k : Nat} {q : Int} {r : SRow} {W : World} (x y : Int) (hv : 0 < strS x y) (h : QW m w B b k q r W) : Calls Tryd.prog 20 #[.agg #[.int .i64 x, .int .i64 y]] W (BoolQ m w B b k q r) :=
  (valid_any x y W h.tabs).mono fun _ _ ⟨he, hb⟩ => ⟨by rw [he]; unfold validB; rw [decide_eq_true hv], h.step hb⟩
theorem code_qw {m : Int} {w : World} {B b k : Nat} {q : Int} {r : SRow} {W : World} (hc : (codeS r.name : Int) = q) (h : QW m w B b k q r W) : Calls Tryd.prog 28 #[.string ⟨r.name.toArray⟩] W (IntQ m w B b k q r) :=
  (code_any r.name W h.tabs).mono fun _ _ ⟨he, hb⟩ => ⟨by rw [he, hc], h.step hb⟩

def BRel1 (m : Int) (w : World) (iv : Value) (wr : World) : Prop := ∃ k : Nat, 1 ≤ k ∧ k ≤ 23 ∧ iv = .int .i64 (k : Int) ∧ LW m w wr
def BRel2 (m : Int) (w : World) (b : Nat) (iv : Value) (wr : World) : Prop := ∃ k : Nat, k ≤ 16 ∧ iv = .int .i64 (k : Int) ∧ SuV wr b ∧ LW m w wr

theorem light_q (a : Option Addr) (n c : Nat) (q : Bool) (w : World) (h : decide (n ≤ 400) = q) : Calls Tryd.prog 31 #[.slice a n c] w fun e w' => e = .returned (.bool q) ∧ w = w' :=
  (light_any a n c q w h).mono fun _ _ ⟨h, e⟩ => ⟨h, e.symm⟩

set_option maxRecDepth 100000 in
set_option maxHeartbeats 8000000 in
theorem back_any {m : Int} (a : Option Addr) (n c : Nat) (w : World) (h : Tabs m w) (hI : Ints w w.heap.size a n) : Calls Tryd.prog 5 #[.slice a n c] w (BoolP true w) := by
  have HT := Lib.hid h; clear h
  by_cases hn : n ≤ 400
  · have cL := light_q a n c true w (by simpa using hn)
    have cR := roll_any a n c w hn hI
    have CL := Lib.hid cL; have CR := Lib.hid cR
    clear cL cR hI hn
    go_enter Tryd.func5, Tryd.ntmps5
    go_wp2_with fail
    refine (CL.out).mono ?_
    rintro e w' ⟨rfl, rfl⟩
    go_wp2_with fail
    refine (CR.out).mono ?_
    rintro e w1 ⟨rfl, hd, hb1⟩
    have cU := use_dice w1 w.heap.size hd
    clear hd
    go_wp2_with fail
    refine cU.mono ?_
    rintro e w2 ⟨x, y, hx1, hx2, hy, rfl, _, hg⟩
    have hW2 : LW m w w2 := by
      have hb2 := hb1.grown hg hb1.size (fun k hk => by cases hk; exact Nat.le_refl _)
      exact ⟨HT.out.step hb2, hb2⟩
    obtain ⟨u1, u2, u3, u4, u5⟩ := uses_back x y hx1 hx2 hy
    have cT := fun W (hT : Tabs m W) => text_any x y W hT
    have cP := fun W (hT : Tabs m W) => parse_good (textS x y) u3 W hT u2 (by rw [u4, u5])
    rw [u4, u5] at cP
    have cS := fun W (hT : Tabs m W) => strength_any x y W hT
    have cV := fun W (hT : Tabs m W) => valid_any x y W hT
    unfold validB at cV
    rw [decide_eq_true (by omega)] at cV
    generalize textS x y = T at *
    generalize strS x y = s at *
    clear cU CL CR hb1 hg hx1 hx2 hy u2 u3 u4 u5
    have CT := Lib.hid cT; have CP := Lib.hid cP; have CS := Lib.hid cS; have CV := Lib.hid cV
    clear cT cP cS cV HT
    have hU := UB.make hW2.tabs x y
    have HB2 := Lib.hid hW2.below
    clear hW2
    go_wp2_with fail
    refine (CT.out _ hU.tabs).mono ?_
    rintro e w3 ⟨rfl, hb3⟩
    have hU3 := hU.step hb3
    clear hb3 hU
    go_wp2_with fail
    refine (CP.out _ hU3.tabs).mono ?_
    rintro e w4 ⟨rfl, hb4⟩
    have hU4 := hU3.step hb4
    clear hb4 hU3
    have x0 := hU4.c0; have x1 := hU4.c1; have hlt := hU4.lt
    have hU5 := hU4.step ((Below.refl _ _).alloc (Nat.le_refl _) (.cells #[.int .i64 x, .int .i64 y] 23))
    clear hU4
    generalize hB4 : w2.heap.size = B4 at *
    go_wp2_with fail
    refine (CS.out _ hU5.tabs).mono ?_
    rintro e w5 ⟨rfl, hb5⟩
    have hU6 := hU5.step hb5
    clear hb5 hU5 x0 x1 hlt
    have x0 := hU6.c0; have x1 := hU6.c1
    go_wp2_with fail
    refine (CV.out _ hU6.tabs).mono ?_
    rintro e w6 ⟨rfl, hb6⟩
    have hU7 := hU6.step hb6
    have hL : LW m w w6 := ⟨hU7.tabs, HB2.out.trans (hU7.below.mono (by rw [hB4]; have := HB2.out.size; omega))⟩
    clear hb6 hU6 hU7 x0 x1 CT CP CS CV HB2 hB4
    have HL := Lib.hid hL
    clear hL
    go_wp2_with fail
    go_loopw [7] (fun iv wr => BRel1 m w iv wr) (fun iv _ => 23 - (intOf iv).toNat)
    case atStart => exact ⟨1, by omega, by omega, rfl, HL.out⟩
    case round =>
      clear HL
      obtain ⟨k, hk1, hk, rfl, hW⟩ := hrel
      by_cases hlt : k ≤ 22
      · obtain ⟨hf, hq1, hq2⟩ := alg_back k hk1 hlt
        have cN := name_any (k : Int) wr hW.tabs
        have cF := fun W (hT : Tabs m W) => find_any (anI (k : Int)) W hT
        rw [hf] at cF
        have cK := fun W (hT : Tabs m W) => kind_any (k : Int) W hT
        generalize anI (k : Int) = N at *
        generalize akI (k : Int) = K at *
        have hi0 : (0 : Int) ≤ (k : Int) := by omega
        have hi1 : (k : Int) ≤ 22 := by omega
        have CN := Lib.hid cN; have CF := Lib.hid cF; have CK := Lib.hid cK; have HW := Lib.hid hW
        clear cN cF cK hf hW
        go_wp2_with fail
        refine (CN.out).mono ?_
        rintro e W1 ⟨rfl, hb1⟩
        have hW1 := HW.out.step hb1
        clear hb1
        go_wp2_with fail
        refine (CF.out _ hW1.tabs).mono ?_
        rintro e W2 ⟨rfl, hb2⟩
        have hW2 := hW1.step hb2
        clear hb2
        go_wp2_with fail
        refine (CK.out _ hW2.tabs).mono ?_
        rintro e W3 ⟨rfl, hb3⟩
        have hW3 := hW2.step hb3
        clear hb3
        go_wp2_with fail
        refine (CK.out _ hW3.tabs).mono ?_
        rintro e W4 ⟨rfl, hb4⟩
        have hW4 := hW3.step hb4
        clear hb4
        go_wp2_with fail
        go_roundw
        case rel => exact ⟨k + 1, by omega, by omega, by go_num, hW4⟩
        case measure => simp [intOf]; omega
      · have hk' : k = 23 := by omega
        subst hk'
        have cS := suites_v wr hW.tabs
        have CS := Lib.hid cS; clear cS
        go_wp2_with fail
        refine (CS.out).mono ?_
        rintro e W1 ⟨b, cap, rfl, hcap, hv, hb1⟩
        have hW1 := hW.step hb1
        clear hb1 hW CS hk hk1 hlt
        go_wp2_with fail
        obtain ⟨wo, rfl⟩ : ∃ wo : World, wo = W1 := ⟨_, rfl⟩
        go_loopw [9, 10, 11] (fun iv _ _ wr => BRel2 m w b iv wr) (fun iv _ _ _ => 16 - (intOf iv).toNat)
        case atStart => exact ⟨0, by omega, rfl, hv, hW1⟩
        case round =>
          clear hv hW1
          obtain ⟨k, hk, rfl, hv, hW⟩ := hrel
          by_cases hlt : k < 16
          · have hrow := hv.at12 k hlt
            have hc := code_row (k + 1) (by omega) (by omega)
            obtain ⟨⟨v1, v2⟩, v3⟩ := row_good (k + 1) (by omega) (by omega)
            have cS := suite1_l (k + 1) (by omega) (by omega) _ hW.tabs
            have hq : ((codeS (rowAt (k + 1)).name : Nat) : Int) = ((k + 1 : Nat) : Int) := by rw [hc]
            generalize rowAt (k + 1) = r at *
            generalize ((k + 1 : Nat) : Int) = q at *
            have hi0 : (0 : Int) ≤ (k : Int) := by omega
            have hi1 : (k : Int) < 16 := by omega
            have CS := Lib.hid cS; have HV := Lib.hid hv; have HW := Lib.hid hW; have HQ := Lib.hid hq; have HROW := Lib.hid hrow
            have a0 := hrow.1
            clear cS hv hW hq hc hrow
            go_wp2_with fail
            refine (CS.out).mono ?_
            rintro e W2 ⟨rfl, hb2⟩
            have hW2 := HW.out.step hb2
            have hQ : QW m w W2.heap.size b k q r (W2.alloc (.cells #[.int .i64 q, .string ⟨r.name.toArray⟩, .int .i64 r.xa, .int .i64 r.xb, .int .i64 r.sign, .int .i64 0, .int .i64 r.ca, .int .i64 r.cb, .int .i64 r.mac, .int .i64 0, .int .i64 r.least, .int .i64 r.most] 29)) :=
              ⟨atZ_new W2 q r, (HROW.out.step hb2).step ((Below.refl _ _).alloc (Nat.le_refl _) _), (HV.out.below hb2).below ((Below.refl _ _).alloc (Nat.le_refl _) _), hW2.tabs.alloc _, hW2.below.alloc hW2.below.size _⟩
            have hvd : decide (r.most < r.least) = false := by simp; omega
            have hQC := HQ.out
            have HQ0 := Lib.hid hQC
            clear hb2 hW2 CS HV HW HQ HROW a0 hQC
            go_wp2_with fail
            generalize (W2.alloc (.cells #[.int .i64 q, .string ⟨r.name.toArray⟩, .int .i64 r.xa, .int .i64 r.xb, .int .i64 r.sign, .int .i64 0, .int .i64 r.ca, .int .i64 r.cb, .int .i64 r.mac, .int .i64 0, .int .i64 r.least, .int .i64 r.most] 29)) = U at *
            generalize W2.heap.size = B at *
            have hQd := hQ.step (Below.refl _ _).drew
            clear hQ
            obtain ⟨z0, z1, z2, z3, z4, z5, z6, z7, z8, z9, z10, z11⟩ := AtZ.of hQd.box
            obtain ⟨a0, a1, a2, a3, a4, a5, a6, a7, a8, a9, a10, a11⟩ := hQd.row
            have hall : ∀ W, QW m w B b k q r W → W.cell? ⟨B, 0, none⟩ = some (.int .i64 q) ∧ W.cell? ⟨B, 1, none⟩ = some (.string ⟨r.name.toArray⟩) ∧ W.cell? ⟨B, 2, none⟩ = some (.int .i64 r.xa) ∧ W.cell? ⟨B, 3, none⟩ = some (.int .i64 r.xb) ∧ W.cell? ⟨B, 4, none⟩ = some (.int .i64 r.sign) ∧ W.cell? ⟨B, 5, none⟩ = some (.int .i64 0) ∧ W.cell? ⟨B, 6, none⟩ = some (.int .i64 r.ca) ∧ W.cell? ⟨B, 7, none⟩ = some (.int .i64 r.cb) ∧ W.cell? ⟨B, 8, none⟩ = some (.int .i64 r.mac) ∧ W.cell? ⟨B, 9, none⟩ = some (.int .i64 0) ∧ W.cell? ⟨B, 10, none⟩ = some (.int .i64 r.least) ∧ W.cell? ⟨B, 11, none⟩ = some (.int .i64 r.most) ∧ W.cell? ⟨b, k * 12, none⟩ = some (.int .i64 q) ∧ W.cell? ⟨b, k * 12 + 1, none⟩ = some (.string ⟨r.name.toArray⟩) ∧ W.cell? ⟨b, k * 12 + 2, none⟩ = some (.int .i64 r.xa) ∧ W.cell? ⟨b, k * 12 + 3, none⟩ = some (.int .i64 r.xb) ∧ W.cell? ⟨b, k * 12 + 4, none⟩ = some (.int .i64 r.sign) ∧ W.cell? ⟨b, k * 12 + 5, none⟩ = some (.int .i64 0) ∧ W.cell? ⟨b, k * 12 + 6, none⟩ = some (.int .i64 r.ca) ∧ W.cell? ⟨b, k * 12 + 7, none⟩ = some (.int .i64 r.cb) ∧ W.cell? ⟨b, k * 12 + 8, none⟩ = some (.int .i64 r.mac) ∧ W.cell? ⟨b, k * 12 + 9, none⟩ = some (.int .i64 0) ∧ W.cell? ⟨b, k * 12 + 10, none⟩ = some (.int .i64 r.least) ∧ W.cell? ⟨b, k * 12 + 11, none⟩ = some (.int .i64 r.most) := fun W h => ⟨(AtZ.of h.box).1, (AtZ.of h.box).2.1, (AtZ.of h.box).2.2.1, (AtZ.of h.box).2.2.2.1, (AtZ.of h.box).2.2.2.2.1, (AtZ.of h.box).2.2.2.2.2.1, (AtZ.of h.box).2.2.2.2.2.2.1, (AtZ.of h.box).2.2.2.2.2.2.2.1, (AtZ.of h.box).2.2.2.2.2.2.2.2.1, (AtZ.of h.box).2.2.2.2.2.2.2.2.2.1, (AtZ.of h.box).2.2.2.2.2.2.2.2.2.2.1, (AtZ.of h.box).2.2.2.2.2.2.2.2.2.2.2, h.row⟩
            have HALL := Lib.hid hall; clear hall
            go_region_held3 (fun W => W.cell? ⟨B, 0, none⟩ = some (.int .i64 q) ∧ W.cell? ⟨B, 1, none⟩ = some (.string ⟨r.name.toArray⟩) ∧ W.cell? ⟨B, 2, none⟩ = some (.int .i64 r.xa) ∧ W.cell? ⟨B, 3, none⟩ = some (.int .i64 r.xb) ∧ W.cell? ⟨B, 4, none⟩ = some (.int .i64 r.sign) ∧ W.cell? ⟨B, 5, none⟩ = some (.int .i64 0) ∧ W.cell? ⟨B, 6, none⟩ = some (.int .i64 r.ca) ∧ W.cell? ⟨B, 7, none⟩ = some (.int .i64 r.cb) ∧ W.cell? ⟨B, 8, none⟩ = some (.int .i64 r.mac) ∧ W.cell? ⟨B, 9, none⟩ = some (.int .i64 0) ∧ W.cell? ⟨B, 10, none⟩ = some (.int .i64 r.least) ∧ W.cell? ⟨B, 11, none⟩ = some (.int .i64 r.most) ∧ W.cell? ⟨b, k * 12, none⟩ = some (.int .i64 q) ∧ W.cell? ⟨b, k * 12 + 1, none⟩ = some (.string ⟨r.name.toArray⟩) ∧ W.cell? ⟨b, k * 12 + 2, none⟩ = some (.int .i64 r.xa) ∧ W.cell? ⟨b, k * 12 + 3, none⟩ = some (.int .i64 r.xb) ∧ W.cell? ⟨b, k * 12 + 4, none⟩ = some (.int .i64 r.sign) ∧ W.cell? ⟨b, k * 12 + 5, none⟩ = some (.int .i64 0) ∧ W.cell? ⟨b, k * 12 + 6, none⟩ = some (.int .i64 r.ca) ∧ W.cell? ⟨b, k * 12 + 7, none⟩ = some (.int .i64 r.cb) ∧ W.cell? ⟨b, k * 12 + 8, none⟩ = some (.int .i64 r.mac) ∧ W.cell? ⟨b, k * 12 + 9, none⟩ = some (.int .i64 0) ∧ W.cell? ⟨b, k * 12 + 10, none⟩ = some (.int .i64 r.least) ∧ W.cell? ⟨b, k * 12 + 11, none⟩ = some (.int .i64 r.most)) (exact HALL.out _ (by assumption))
              ((first | (go_at_call 28; refine (code_qw HQ0.out (by assumption)).mono ?_; rintro e w' ⟨rfl, hQ'⟩) | (go_at_call 20; (first | refine (valid_qw _ _ v1 (by assumption)).mono ?_ | refine (valid_qw _ _ v2 (by assumption)).mono ?_); rintro e w' ⟨rfl, hQ'⟩)))
            have hL5 : SuV w' b ∧ LW m w w' := ⟨hQ'.suv, ⟨hQ'.tabs, hQ'.below⟩⟩
            have HL5 := Lib.hid hL5
            clear hL5 hQ' hQd
            go_wp2_with fail
            go_roundw
            case rel => exact ⟨k + 1, by omega, by go_num, HL5.out.1, HL5.out.2⟩
            case measure => simp [intOf]; omega
          · have hk' : k = 16 := by omega
            subst hk'
            have HW := Lib.hid hW
            clear hv hW
            go_wp2_with fail
            refine (awake_any _ HW.out.tabs).mono ?_
            rintro e W2 ⟨rfl, hb2⟩
            have hW2 := HW.out.step hb2
            clear hb2
            go_wp2_with fail
            go_ret
            exact ⟨rfl, hW2.below⟩
  · have cL := light_q a n c false w (by simpa using hn)
    have cA := awake_any w HT.out
    have CL := Lib.hid cL; have CA := Lib.hid cA
    clear cL cA hI hn
    go_enter Tryd.func5, Tryd.ntmps5
    go_wp2_with fail
    refine (CL.out).mono ?_
    rintro e w' ⟨rfl, rfl⟩
    go_wp2_with fail
    refine (CA.out).mono ?_
    rintro e w1 ⟨rfl, hb1⟩
    go_wp2_with fail
    go_ret
    exact ⟨rfl, hb1⟩
end Go.Proofs.YtdhochjcigingaaDoor
