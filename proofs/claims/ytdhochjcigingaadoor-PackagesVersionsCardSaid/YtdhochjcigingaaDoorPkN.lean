/- PackagesVersions: the walk. -/
import Derived.Test.YtdhochjcigingaaDoorPkL
namespace Go.Proofs.YtdhochjcigingaaDoor
open Go.RowKit
set_option linter.all false

set_option maxRecDepth 100000 in
set_option maxHeartbeats 8000000 in
theorem versions_any {m : Int} (a : Option Addr) (n c : Nat) (raw : List UInt8) (vv : Value) (V : List Int) (w : World) (h : TabP m w) (hI : Ints w w.heap.size a n) (hn : n ≤ 400) (hraw : raw.length ≤ 200) (hV : V.length ≤ 20) (hvv : Nums w vv V) :
    Calls Tryd.prog 8 #[.slice a n c, .string ⟨raw.toArray⟩, vv] w (BoolP true w) := by
  have HNV := Lib.hid hvv
  obtain ⟨pv, cv, hve, _⟩ := hvv
  subst hve
  have hV1 : (V.length : Int) ≤ 20 := by omega
  have dV : decide (20 < V.length) = false := by rw [decide_eq_false_iff_not]; omega
  have dR : decide (200 < raw.length) = false := by rw [decide_eq_false_iff_not]; omega
  have HVL := Lib.hid hV
  have cL := light_q a n c true w (by simpa using hn)
  have cR := roll_any a n c w hn hI
  have CL := Lib.hid cL; have CR := Lib.hid cR; have HT := Lib.hid h
  have h10 := h.size
  clear cL cR hI h hV
  go_enter Tryd.func8, Tryd.ntmps8
  go_wp2_with fail
  refine (CL.out).mono ?_
  rintro e w' ⟨rfl, rfl⟩
  go_wp2_with fail
  refine (CR.out).mono ?_
  rintro e w1 ⟨rfl, hd, hb1⟩
  have hE1 : EW m w w.heap.size w1 := ⟨hd, HT.out.step hb1, hb1, Nat.le_refl _, h10⟩
  have c1 := version_dice w1 w.heap.size hd
  have C1 := Lib.hid c1; have HE1 := Lib.hid hE1
  clear c1 hd hb1 hE1 CR CL
  go_wp2_with fail
  refine (C1.out).mono ?_
  rintro e w2 ⟨A, va, rfl, hGA, hDA⟩
  have HE2 := Lib.hid (HE1.out.call hDA.grown hDA.dice)
  have c2 := version_dice w2 w.heap.size hDA.dice
  have C2 := Lib.hid c2; have HGA := Lib.hid hGA; have HDA := Lib.hid hDA
  clear c2 hGA hDA C1 HE1
  go_wp2_with fail
  refine (C2.out).mono ?_
  rintro e w3 ⟨B, vb, rfl, hGB, hDB⟩
  have HE3 := Lib.hid (HE2.out.call hDB.grown hDB.dice)
  have HDA3 := Lib.hid (HDA.out.call hDB.grown hDB.dice)
  have c3 := bound_dice w3 w.heap.size hDB.dice
  have C3 := Lib.hid c3; have HGB := Lib.hid hGB; have HDB := Lib.hid hDB
  clear c3 hGB hDB C2 HDA HE2
  go_wp2_with fail
  refine (C3.out).mono ?_
  rintro e w4 ⟨lo, hi, Lo, Hi, rfl, hDL, hDH, hLl, hHl⟩
  have HE4 := Lib.hid (HE3.out.call hDL.grown hDL.dice)
  have HDA4 := Lib.hid (HDA3.out.call hDL.grown hDL.dice)
  have HDB4 := Lib.hid (HDB.out.call hDL.grown hDL.dice)
  have HNL := Lib.hid (Nums.own hDL.own)
  have HNH := Lib.hid (Nums.own hDH.own)
  obtain ⟨pl, kl, hlo⟩ := own_slice hDL.own
  obtain ⟨ph, kh, hhi⟩ := own_slice hDH.own
  clear hDL hDH C3 HDA3 HDB HE3
  subst hlo
  subst hhi
  have hRS : RS m w w.heap.size w4.heap.size va vb (.slice pl Lo.length kl) (.slice ph Hi.length kh) A B Lo Hi (w4.alloc (.cells #[.slice pl Lo.length kl, .slice ph Hi.length kh] 53)) :=
    ⟨HE4.out.al _, (Nums.own HDA4.out.own).alloc _, (Nums.own HDB4.out.own).alloc _, HNL.out.alloc _, HNH.out.alloc _, heap_alloc_new _ _⟩
  have HRS := Lib.hid hRS
  clear hRS HE4 HDA4 HDB4 HNL HNH
  go_upto_region 5 with (fail)
  replace hRS := HRS.out
  clear HRS
  generalize (w4.alloc (.cells #[.slice pl Lo.length kl, .slice ph Hi.length kh] 53)) = W5 at *
  generalize w4.heap.size = X at *
  have la : A.length ≤ 500 := by have := HGA.out.2.1; omega
  have lb : B.length ≤ 500 := by have := HGB.out.2.1; omega
  have ll : Lo.length ≤ 500 := by omega
  have lh : Hi.length ≤ 500 := by omega
  generalize hvlo : (Value.slice pl Lo.length kl) = vlo at *
  generalize hvhi : (Value.slice ph Hi.length kh) = vhi at *
  have d39 : ∀ W, RS m w w.heap.size X va vb vlo vhi A B Lo Hi W → Calls Tryd.prog 39 #[va, vb] W (CmpB (cmpV A B) W) := fun W h => compare_v la lb h.na h.nb
  have d40 : ∀ W, RS m w w.heap.size X va vb vlo vhi A B Lo Hi W → Calls Tryd.prog 40 #[va, vb] W (CmpB (cmpV A B) W) := fun W h => refcompare_v la lb h.na h.nb
  have d41 : ∀ W, RS m w w.heap.size X va vb vlo vhi A B Lo Hi W → Calls Tryd.prog 41 #[.agg #[vlo, vhi], va] W fun e w' => e = .returned (.bool (inV Lo Hi A)) ∧ RS m w w.heap.size X va vb vlo vhi A B Lo Hi w' := fun W h => (in_v ll lh la h.nl h.nh h.na).mono fun _ _ ⟨he, hb⟩ => ⟨he, h.step hb⟩
  have d42 : ∀ W, RS m w w.heap.size X va vb vlo vhi A B Lo Hi W → Calls Tryd.prog 42 #[.agg #[vlo, vhi], va] W fun e w' => e = .returned (.bool (inV Lo Hi A)) ∧ RS m w w.heap.size X va vb vlo vhi A B Lo Hi w' := fun W h => (refin_v ll lh la h.nl h.nh h.na).mono fun _ _ ⟨he, hb⟩ => ⟨he, h.step hb⟩
  subst hvlo
  subst hvhi
  generalize cmpV A B = x at *
  generalize inV Lo Hi A = y at *
  have D39 := Lib.hid d39; have D40 := Lib.hid d40; have D41 := Lib.hid d41; have D42 := Lib.hid d42
  clear d39 d40 d41 d42 ll lh
  have hRd := hRS.step (Below.refl _ _).drew
  obtain ⟨cc0, cc1⟩ := hRS.cells
  clear hRS
  go_region_held3 (fun W => W.cell? ⟨X, 0, none⟩ = some (.slice pl Lo.length kl) ∧ W.cell? ⟨X, 1, none⟩ = some (.slice ph Hi.length kh)) ((first | exact RS.cells (by assumption) | go_keep))
    ((first | (go_at_call 39; refine (D39.out _ (by assumption)).mono ?_; rintro e w' ⟨rfl, rfl⟩) | (go_at_call 40; refine (D40.out _ (by assumption)).mono ?_; rintro e w' ⟨rfl, rfl⟩) | (go_at_call 41; refine (D41.out _ (by assumption)).mono ?_; rintro e w' ⟨rfl, hR'⟩) | (go_at_call 42; refine (D42.out _ (by assumption)).mono ?_; rintro e w' ⟨rfl, hR'⟩)))
  have hRR := hR'
  have cT := rtext_v hRR.na (HGA.out.ver (by omega))
  have hTl := txt_len A
  have hTn := txt_ne HGA.out (by omega)
  have hT1 : (txt A).length ≤ 18 := by have := HGA.out.2.1; omega
  have HE6 := Lib.hid hRR.ew
  generalize txt A = T at *
  have CT := Lib.hid cT
  clear cT hTl hRR hR' hRd D39 D40 D41 D42
  go_wp2_with fail
  refine (CT.out).mono ?_
  rintro e w7 ⟨rfl, hb7⟩
  have hE7 := HE6.out.step hb7
  clear hb7 CT HE6
  obtain ⟨Bc, hBc⟩ : ∃ Bc, w7.heap.size = Bc := ⟨_, rfl⟩
  obtain ⟨cc, w8, hcv, hb8, hcells, hc1, hc2, hlt8⟩ := conv_new w7 Bc hBc T (by omega)
  have hb8' : Below w7.heap.size w7 w8 := by rw [hBc]; exact hb8
  have hgl := hE7.dice.lt
  have hsz7 := hE7.below.size
  have hC8 : CS m w w.heap.size Bc T w8 := ⟨hE7.step hb8', ⟨hcells, hlt8⟩, by omega, by omega⟩
  obtain ⟨N, hN⟩ : ∃ N, T.length = N := ⟨_, rfl⟩
  rw [hN] at hcv hTn hT1 hc1
  have HC8 := Lib.hid hC8; have HN := Lib.hid hN
  have hgB : w.heap.size < Bc := by omega
  clear hb8 hb8' hcells hC8 hN hE7 hgl hsz7 hBc hlt8
  have cN := next_any w8 w.heap.size (N : Int) (by omega) (by omega) HC8.out.ew.dice
  have CN := Lib.hid cN; clear cN
  go_wp2_with fail
  refine (CN.out).mono ?_
  rintro e w9 ⟨r, rfl, hr0, hr1, hd9, hg9⟩
  obtain ⟨i, rfl⟩ : ∃ i : Nat, r = i := ⟨r.toNat, by omega⟩
  have hC9 : CS m w w.heap.size Bc T w9 := ⟨HC8.out.ew.call hg9 hd9, HC8.out.bt.call hg9 HC8.out.ne, Nat.lt_of_lt_of_le HC8.out.lt hg9.size, HC8.out.ne⟩
  have cO := of_bytes w9 w.heap.size hd9
  have CO := Lib.hid cO; have HC9 := Lib.hid hC9
  clear cO hC9 hd9 hg9 CN HC8 hcv
  go_wp2_with fail
  refine (CO.out).mono ?_
  rintro e w10 ⟨z, ⟨hz0, hz1⟩, rfl, hd10, hg10⟩
  have hC10 : CS m w w.heap.size Bc T w10 := ⟨HC9.out.ew.call hg10 hd10, HC9.out.bt.call hg10 HC9.out.ne, Nat.lt_of_lt_of_le HC9.out.lt hg10.size, HC9.out.ne⟩
  have hiN : i < N := by omega
  have hi0 : (0 : Int) ≤ (i : Int) := by omega
  have hi1 : (i : Int) < (N : Int) := by omega
  obtain ⟨xx0, xx1⟩ := hC10.bt.cells i (by rw [HN.out]; exact hiN)
  have hC11 : CS m w w.heap.size Bc (T.set i (UInt8.ofNat z.toNat)) (w10.setCell ⟨Bc, i, none⟩ (.int .u8 z)) :=
    ⟨hC10.ew.store (Nat.le_of_lt hgB) hgB, hC10.bt.store i (by rw [HN.out]; exact hiN) z ⟨hz0, hz1⟩, by simp [World.setCell]; exact hC10.lt, hC10.ne⟩
  have HC11 := Lib.hid hC11
  clear hC10 hC11 hd10 hg10 CO HC9
  go_upto_region 10 with (fail)
  have hC := HC11.out
  clear HC11
  generalize (w10.setCell ⟨Bc, i, none⟩ (.int .u8 z)) = W11 at *
  have hT2l : (T.set i (UInt8.ofNat z.toNat)).length = N := by rw [List.length_set, HN.out]
  generalize T.set i (UInt8.ofNat z.toNat) = T2 at *
  have HK := Lib.hid (show ∀ W, CS m w w.heap.size Bc T2 W → (Go.convert 44 9 (.slice (some ⟨Bc, 0, none⟩) N cc)).run Tryd.prog W = .ok (.string ⟨T2.toArray⟩) W from fun W h => by rw [← hT2l]; exact h.full cc)
  have hCd := hC.step (Below.refl _ _).drew
  have cW := word_c hCd
  have CW := Lib.hid cW
  have HN2 := Lib.hid hT2l
  have rn := HK.out _ hC
  clear cW hC hT2l xx0 xx1
  go_region_held3 (fun W => (Go.convert 44 9 (.slice (some ⟨Bc, 0, none⟩) N cc)).run Tryd.prog W = .ok (.string ⟨T2.toArray⟩) W) ((first | exact HK.out _ (by assumption) | exact HK.out _ (CS.al (by assumption) _)))
    ((go_at_call 46; refine (CW.out).mono ?_; rintro e w' ⟨t, ht, rfl, hC'⟩; have q1 : ¬ (9223372036854775807 < T.length + t.length) := (by rw [HN.out]; omega)))
  have hE := hC'.ew
  have hY := heap_alloc_new w' (.cells #[.string ⟨T.toArray⟩, .string ⟨raw.toArray⟩, .string ⟨T2.toArray⟩, .string ((⟨T.toArray⟩ : ByteArray) ++ (⟨t.toArray⟩ : ByteArray))] 9)
  have hQ0 : QW8 m w w.heap.size w'.heap.size [T, raw, T2, T ++ t] (w'.alloc (.cells #[.string ⟨T.toArray⟩, .string ⟨raw.toArray⟩, .string ⟨T2.toArray⟩, .string ((⟨T.toArray⟩ : ByteArray) ++ (⟨t.toArray⟩ : ByteArray))] 9)) :=
    ⟨hE.al _, fun j hj => by
      rw [cell_of_row _ _ j _ _ _ hY]
      match j, hj with
      | 0, _ => rfl
      | 1, _ => rfl
      | 2, _ => rfl
      | 3, _ => rw [ba_append]; rfl⟩
  have HQ0 := Lib.hid hQ0
  clear hE hY hQ0 hC' hCd rn CW HK q1
  have hql : ∀ j, ([T, raw, T2, T ++ t].getD j []).length ≤ 1000 := fun j => by
    have h1 := HN.out
    have h2 := HN2.out
    match j with
    | 0 => show T.length ≤ 1000; omega
    | 1 => show raw.length ≤ 1000; omega
    | 2 => show T2.length ≤ 1000; omega
    | 3 => show (T ++ t).length ≤ 1000; rw [List.length_append]; omega
    | n + 4 => exact Nat.zero_le _
  have HQL := Lib.hid hql
  clear hql HN HN2
  generalize [T, raw, T2, T ++ t] = Q at *
  have hQ0 := HQ0.out
  clear HQ0
  generalize (w'.alloc (.cells #[.string ⟨T.toArray⟩, .string ⟨raw.toArray⟩, .string ⟨T2.toArray⟩, .string ((⟨T.toArray⟩ : ByteArray) ++ (⟨t.toArray⟩ : ByteArray))] 9)) = W12 at *
  generalize w'.heap.size = Y at *
  have HQ0 := Lib.hid hQ0
  clear hQ0
  go_wp2_with fail
  go_loopw [15, 16, 17, 18, 19] (fun iv _ _ _ _ wr => QRel8 m w w.heap.size Y Q iv wr) (fun iv _ _ _ _ _ => 4 - (intOf iv).toNat)
  case atStart => exact ⟨0, rfl, by omega, HQ0.out⟩
  case round =>
    clear HQ0
    obtain ⟨k, rfl, hk, hQ⟩ := hrel
    by_cases hlt : k < 4
    · have hcell := hQ.cells k hlt
      have i0 : (0 : Int) ≤ (k : Int) := by omega
      have i1 : (k : Int) < 4 := by omega
      have hl := HQL.out k
      have c47 := fun W (h : QW8 m w w.heap.size Y Q W) => ver_p (Q.getD k []) hl W h.ew.tabs
      have c48 := fun W => ver_r (Q.getD k []) hl W
      have hvl := verV_len (Q.getD k []) hl
      have hcells := fun W (h : QW8 m w w.heap.size Y Q W) => h.cells k hlt
      unfold VerR at c47 c48
      generalize verE (Q.getD k []) = ev at *
      generalize verV (Q.getD k []) = Lv at *
      generalize Q.getD k [] = qs at *
      have C47 := Lib.hid c47; have C48 := Lib.hid c48; have HQ := Lib.hid hQ; have HCE := Lib.hid hcells
      clear c47 c48 hQ hcells hl
      go_wp2_with fail
      refine (C47.out _ HQ.out).mono ?_
      rintro e w2 ⟨v1, rfl, hn1, hb1⟩
      have HQ1 := Lib.hid (HQ.out.step hb1)
      have HN1 := Lib.hid hn1
      have hcell1 := HCE.out _ HQ1.out
      clear hb1 hn1 hcell HQ C47
      go_wp2_with fail
      refine (C48.out _).mono ?_
      rintro e w3 ⟨v2, rfl, hn2, hb2⟩
      have HQ2 := Lib.hid (HQ1.out.step hb2)
      have cS := same_v (by omega) (by omega) (HN1.out.step hb2) hn2
      rw [decide_eq_true rfl] at cS
      have CS2 := Lib.hid cS
      clear hb2 hn2 hcell1 HQ1 C48 cS HN1 HCE
      go_wp2_with fail
      refine (CS2.out).mono ?_
      rintro e w4 ⟨rfl, hb4⟩
      have HQ4 := Lib.hid (HQ2.out.step hb4)
      clear hb4 HQ2
      go_wp2_with fail
      go_roundw
      case rel => exact ⟨k + 1, by go_num, by omega, HQ4.out⟩
      case measure => simp [intOf]; omega
    · have hk4 : k = 4 := by omega
      subst hk4
      have hE := hQ.ew
      have hnv : ∀ W, EW m w w.heap.size W → Nums W (.slice pv V.length cv) V := fun W h => HNV.out.step h.below
      have cP := fun W (h : EW m w w.heap.size W) => text_all h.tabs (show V.length ≤ 500 by have := HVL.out; omega) (hnv W h)
      have cR := fun W (h : EW m w w.heap.size W) => rtext_all (show V.length ≤ 500 by have := HVL.out; omega) (hnv W h)
      unfold TextR at cP cR
      generalize txtA V = ta at *
      generalize txtE V = te at *
      have CP := Lib.hid cP; have CR := Lib.hid cR; have HE := Lib.hid hE
      clear cP cR hE hnv hQ
      go_wp2_with fail
      refine (CP.out _ HE.out).mono ?_
      rintro e w2 ⟨rfl, hb2⟩
      have HE2 := Lib.hid (HE.out.step hb2)
      clear hb2 HE CP
      go_wp2_with fail
      refine (CR.out _ HE2.out).mono ?_
      rintro e w3 ⟨rfl, hb3⟩
      have HE3 := Lib.hid (HE2.out.step hb3)
      clear hb3 HE2 CR
      go_wp2_with fail
      refine (awake12_any _ HE3.out.tabs).mono ?_
      rintro e w4 ⟨rfl, hb4⟩
      have HE4 := Lib.hid (HE3.out.step hb4)
      clear hb4
      go_wp2_with fail
      go_ret
      exact ⟨rfl, HE4.out.below⟩

/-- Where one of the three is too long. -/
theorem versions_long {m : Int} (a : Option Addr) (n c : Nat) (raw : List UInt8) (pv : Option Addr) (nv cv : Nat) (w : World) (h : TabP m w) (hno : ¬ (n ≤ 400 ∧ raw.length ≤ 200 ∧ nv ≤ 20)) (hr : raw.length ≤ 9223372036854775807) :
    Calls Tryd.prog 8 #[.slice a n c, .string ⟨raw.toArray⟩, .slice pv nv cv] w (BoolP true w) := by
  have cA := awake12_any w h
  have CA := Lib.hid cA; clear cA
  obtain ⟨b, hb⟩ : ∃ b, decide (n ≤ 400) = b := ⟨_, rfl⟩
  have cL := light_q a n c b w hb
  have CL := Lib.hid cL; clear cL
  cases b
  · clear hb hno
    go_enter Tryd.func8, Tryd.ntmps8
    go_wp2_with fail
    refine (CL.out).mono ?_
    rintro e w' ⟨rfl, rfl⟩
    go_wp2_with fail
    refine (CA.out).mono ?_
    rintro e w1 ⟨rfl, hb1⟩
    go_wp2_with fail
    go_ret
    exact ⟨rfl, hb1⟩
  · have hn := of_decide_eq_true hb
    by_cases hr2 : raw.length ≤ 200
    · have hv : ¬ nv ≤ 20 := fun e => hno ⟨hn, hr2, e⟩
      have d1 : decide (200 < raw.length) = false := by rw [decide_eq_false_iff_not]; omega
      have d2 : decide (20 < nv) = true := by rw [decide_eq_true_eq]; omega
      clear hb hno
      go_enter Tryd.func8, Tryd.ntmps8
      go_wp2_with fail
      refine (CL.out).mono ?_
      rintro e w' ⟨rfl, rfl⟩
      go_wp2_with fail
      refine (CA.out).mono ?_
      rintro e w1 ⟨rfl, hb1⟩
      go_wp2_with fail
      go_ret
      exact ⟨rfl, hb1⟩
    · have d1 : decide (200 < raw.length) = true := by rw [decide_eq_true_eq]; omega
      clear hb hno
      go_enter Tryd.func8, Tryd.ntmps8
      go_wp2_with fail
      refine (CL.out).mono ?_
      rintro e w' ⟨rfl, rfl⟩
      go_wp2_with fail
      refine (CA.out).mono ?_
      rintro e w1 ⟨rfl, hb1⟩
      go_wp2_with fail
      go_ret
      exact ⟨rfl, hb1⟩
end Go.Proofs.YtdhochjcigingaaDoor
