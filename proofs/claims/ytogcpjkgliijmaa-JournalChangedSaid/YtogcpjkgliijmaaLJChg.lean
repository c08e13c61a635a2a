/- The walk of JournalChanged. -/
import Derived.Test.YtogcpjkgliijmaaJOpen
import Derived.Test.YtogcpjkgliijmaaJSums
import Derived.Test.YtogcpjkgliijmaaLThen
namespace Go.Proofs.Ytogcpjkgliijmaa
open Go.RowKit

set_option maxHeartbeats 1000000 in
theorem ljchg_heavy (w : World) (a : Option Addr) (n c : Nat) (x y : Int) (h : decide (n ≤ 400) = false) :
    Calls Try.prog 11 #[.slice a n c, .int .u16 x, .int .u8 y] w fun e w' => e = .returned (.bool true) ∧ Below w.heap.size w w' := by
  go_enter Try.func11, Try.ntmps11
  go_wp2_with fail
  refine (light_any a n c false _ h).mono ?_
  rintro e w1 ⟨rfl, rfl⟩
  go_wp2_with fail
  refine (jawake_any _).mono ?_
  rintro e w2 ⟨rfl, hb⟩
  go_wp2_with fail
  go_ret
  exact ⟨rfl, hb⟩

set_option maxRecDepth 100000 in
set_option maxHeartbeats 8000000 in
theorem ljchg_light (w : World) (a : Option Addr) (n c : Nat) (x y : Int) (hx : 0 ≤ x ∧ x ≤ 65535) (hy : 0 ≤ y ∧ y ≤ 255) (h : decide (n ≤ 400) = true) (hi : Ints w w.heap.size a n) :
    Calls Try.prog 11 #[.slice a n c, .int .u16 x, .int .u8 y] w fun e w' => e = .returned (.bool true) ∧ Below w.heap.size w w' := by
  have h400 : n ≤ 400 := by simpa using h
  have cR := roll_any a n c w h400 hi
  have CR := Lib.hid cR; clear cR hi
  obtain ⟨hx0, hx1⟩ := hx
  obtain ⟨hy0, hy1⟩ := hy
  go_enter Try.func11, Try.ntmps11
  go_wp2_with fail
  refine (light_any a n c true _ h).mono ?_
  rintro e w0 ⟨rfl, rfl⟩
  go_wp2_with fail
  refine CR.out.mono ?_
  rintro e w1 ⟨rfl, hd, hb1⟩
  go_wp2_with fail
  refine (ledger_any w1 _ 8 hd (by omega)).mono ?_
  rintro e w2 ⟨l, p, q, rfl, hg, hl, hq, hs, hxr, hd2, hg2⟩
  have hb2 := below_grown hb1 hg2
  have hr : Reads w2 p l := by
    rcases hxr with h | ⟨b, hp, _, h⟩
    · exact .inl h
    · exact .inr ⟨b, 0, hp, h⟩
  have hb2a : Below w2.heap.size w2 (w2.alloc (.cells #[.slice p l.length q] 25)) := (Below.refl _ _).alloc (Nat.le_refl _) _
  obtain ⟨A, hA⟩ : ∃ A, A = w2.heap.size := ⟨_, rfl⟩
  have hbox : (w2.alloc (.cells #[.slice p l.length q] 25)).cell? ⟨A, 0, none⟩ = some (.slice p l.length q) := by rw [hA]; simp
  have cW := written_any (w2.alloc (.cells #[.slice p l.length q] 25)) (p := p) (c := q) l (hr.mono hb2a) hg.1 (by omega)
  have HBOX := Lib.hid hbox; have HR := Lib.hid (hr.mono hb2a); have HB := Lib.hid (below_step hb2 hb2a); have HG := Lib.hid hg; have CW := Lib.hid cW
  clear hd hd2 hg2 hs hxr hb1 CR h h400 hr hb2 hg hb2a hbox cW
  go_upto_region 4 with (fail)
  rw [← hA]
  generalize w2.alloc (.cells #[.slice p l.length q] 25) = W3 at *
  clear hA
  have hbox := HBOX.out
  go_wp2_with fail
  refine CW.out.mono ?_
  rintro e W4 ⟨rfl, hb4⟩
  have hbox4 := cell_later hb4 hbox
  have HR4 := Lib.hid (HR.out.mono hb4)
  have HB4 := Lib.hid (below_step HB.out hb4)
  clear hb4 CW HR HB hbox HBOX
  have hfl := flatE_len l
  rcases Nat.eq_zero_or_pos l.length with h0 | h0
  · obtain rfl := List.length_eq_zero_iff.1 h0
    clear h0 hfl
    have cO := fun W => open_any [] [] W openAs_nil (by decide)
    unfold OpenPost at cO
    have CO := Lib.hid cO; clear cO
    rw [show flatE [] = [] from rfl]
    go_wp2_with fail
    refine (CO.out _).mono ?_
    rintro e W5 ⟨v, rfl, hdv, hb5⟩
    obtain ⟨p', c', rfl, _, _⟩ := hdv
    have HB5 := Lib.hid (below_step HB4.out hb5)
    clear hb5 CO HB4 HR4 hbox4
    go_wp2_with fail
    refine (jawake_any _).mono ?_
    rintro e W6 ⟨rfl, hb6⟩
    go_wp2_with fail
    go_ret
    exact ⟨rfl, below_step HB5.out hb6⟩
  · obtain ⟨sl, hsl⟩ : ∃ sl, sl = flatE l := ⟨_, rfl⟩
    have hsn : sl ≠ [] := by intro e; rw [e] at hsl; rw [← hsl] at hfl; simp at hfl; omega
    rw [← hsl] at hfl ⊢
    have HSL := Lib.hid hsl
    clear hsl
    dsimp only
    refine ‹∀ (a : Act) (w : World), wpList Try.prog _ _ _ a w → _› _ _ ?_
    have hse : sl.isEmpty = false := by simpa using hsn
    obtain ⟨N, hN⟩ : ∃ N, N = sl.length := ⟨_, rfl⟩
    obtain ⟨D, hD⟩ : ∃ D, D = W4.heap.size := ⟨_, rfl⟩
    obtain ⟨c5, W5, hcv, hb5, hcell⟩ := conv_new W4 D hD.symm ⟨sl.toArray⟩
    rw [ba_size, ← hN] at hcv
    have hN1 : 1 ≤ N := by omega
    have hN2 : N ≤ 96 := by omega
    obtain ⟨i, hi, hiN⟩ : ∃ i : Nat, x % (N : Int) = i ∧ i < N := ⟨(x % (N : Int)).toNat, by rw [Int.toNat_of_nonneg (Int.emod_nonneg _ (by omega))], by have := Int.emod_lt_of_pos x (show (0 : Int) < N by omega); have := Int.emod_nonneg x (show (N : Int) ≠ 0 by omega); omega⟩
    have cM := fun W => mod_any x N W (by omega) (by omega) (by omega) (by omega)
    rw [hi] at cM
    have hil : i < sl.length := by omega
    obtain ⟨hc0, hf0⟩ := hcell i hil
    have hc0' : W5.cell? ⟨D, i, none⟩ = some (.int .u8 sl[i].toNat) := hc0
    obtain ⟨c, hc⟩ : ∃ c, c = byteOf ((sl[i].toNat : Int) + (1 + y % 255)) := ⟨_, rfl⟩
    have hne : c ≠ sl[i] := by
      intro e
      have e2 := byteOf_toNat ((sl[i].toNat : Int) + (1 + y % 255))
      rw [← hc, e] at e2
      have hb := sl[i].toNat_lt
      omega
    have hBC : ∀ j (hj : j < (sl.set i c).length), (W5.setCell ⟨D, i, none⟩ (.int .u8 (((sl[i].toNat : Int) + (1 + y % 255)) % 256))).cell? ⟨D, 0 + j, none⟩ = some (.int .u8 (sl.set i c)[j].toNat) := by
      intro j hj
      rw [Nat.zero_add]
      rw [List.length_set] at hj
      by_cases hji : j = i
      · subst hji
        rw [List.getElem_set_self, World.cell?_setCell_same _ _ _ hc0, hc, ← byteV_of]; rfl
      · rw [List.getElem_set_ne (Ne.symm hji), World.cell?_setCell_other _ _ _ _ (by intro e; injection e with _ e; exact hji e.symm)]
        exact (hcell j hj).1
    have hb6 : Below W4.heap.size W4 (W5.setCell ⟨D, i, none⟩ (.int .u8 (((sl[i].toNat : Int) + (1 + y % 255)) % 256))) := by rw [← hD]; exact hb5.setCell (Nat.le_refl _) _
    have HB6 := Lib.hid (below_step HB4.out hb6); have HBC := Lib.hid hBC; have HR6 := Lib.hid (HR4.out.mono hb6)
    have hbox6 := cell_later hb6 hbox4
    have CM := Lib.hid cM; have HNE := Lib.hid hne; have HN := Lib.hid hN; have HFL := Lib.hid hfl; have HBX := Lib.hid hbox6
    have hbt := sl[i].toNat_lt
    clear hb5 hb6 hcell hBC hne hc0 hN hi cM HB4 HR4 hbox4 hfl hsn hD hbox6 hc
    go_upto_region 9 with (fail)
    go_wp2_with fail
    refine (CM.out _).mono ?_
    rintro e W6 ⟨rfl, rfl⟩
    have hi0 : (0 : Int) ≤ (i : Int) := by omega
    have hi1 : (i : Int) < (N : Int) := by omega
    go_upto_region 11 with (fail)
    generalize W6.setCell ⟨D, i, none⟩ (.int .u8 (((sl[i].toNat : Int) + (1 + y % 255)) % 256)) = W7 at *
    obtain ⟨m, hm⟩ : ∃ m, m = i / 12 := ⟨_, rfl⟩
    obtain ⟨M, hM⟩ : ∃ M, M = 12 * m := ⟨_, rfl⟩
    obtain ⟨sc, hsc⟩ : ∃ sc, sc = sl.set i c := ⟨_, rfl⟩
    rw [← hsc] at HBC
    have hscl : sc.length = N := by rw [hsc, List.length_set]; exact HN.out.symm
    have hO : OpenAs sc (l.take m) := by
      have e := HSL.out
      rw [hsc, hm]
      subst e
      exact openAs_changed HG.out.1 i c (by have := HFL.out; have := HN.out; omega) HNE.out
    have hDc : decAt sc M = (dz, 58) := by
      have e := HSL.out
      rw [hsc, hM, hm]
      subst e
      exact decAt_changed i c (by have := HFL.out; have := HN.out; omega) HNE.out
    have hml : m ≤ l.length := by have := HFL.out; have := HN.out; omega
    have htl : (l.take m).length = m := by simp; omega
    have cO := fun W => open_any sc (l.take m) W hO (by omega)
    have cW := fun W => whole_any sc (l.take m) W hO (by omega)
    unfold OpenPost at cO
    rw [htl, ← hM] at cO cW
    have hpre : sc.take M = sl.take M := by rw [hsc, List.take_set, List.set_eq_of_length_le (by simp; omega)]
    rw [hpre] at cW
    have cD := fun W => decode_any sc M W (by omega) (by omega) hDc (n := 0) rfl
    unfold Dec.val at cD
    have hcv := fun W (hb : Below W7.heap.size W7 W) => conv_cells (P := Try.prog) (w := W) (b := D) (o := 0) (k := N) (c := c5) hscl (fun j hj => cell_later hb (HBC.out j hj)) 60 5 9 (by kernel_rfl) (by kernel_rfl) (by kernel_rfl)
    have e1 : (i : Int) / 12 = (m : Int) := by omega
    have e2 : (m : Int) * 12 = (M : Int) := by omega
    have CO := Lib.hid cO; have CW := Lib.hid cW; have CD := Lib.hid cD; have HCV := Lib.hid hcv; have HTL := Lib.hid htl; have HE := Lib.hid (And.intro e1 e2)
    have hMs : M ≤ sl.length := by omega
    have HM := Lib.hid hM
    clear cO cW cD hcv htl hpre hO hDc hsc hscl HBC hm hM e1 e2
    have hc7 := HCV.out W7 (Below.refl _ _)
    go_wp2_with fail
    refine (CO.out _).mono ?_
    rintro e W8 ⟨v, rfl, hdv, hb8⟩
    obtain ⟨p', c', rfl, hc', hx'⟩ := hdv
    rw [HTL.out] at hc'
    rw [HTL.out]
    have hrx : Reads W8 p' (l.take m) := by
      rcases hx' with h | ⟨b, hp, _, h⟩
      · exact .inl h
      · exact .inr ⟨b, 0, hp, h⟩
    have hc8 := HCV.out W8 hb8
    have HB8 := Lib.hid hb8; have HRX := Lib.hid hrx; have HC' := Lib.hid hc'
    obtain ⟨e1, e2⟩ := HE.out
    clear hb8 hrx hx' hc' hc7 CO
    go_wp2_with fail
    refine (CD.out _).mono ?_
    rintro e W9 ⟨rfl, hb9⟩
    have hb10 : Below W8.heap.size W8 (W9.alloc (.cells #[.int .i64 0, .int .i64 0, .int .i64 0, .int .i64 0, .int .i64 0] 27)) := hb9.alloc hb9.size _
    have HRX2 := Lib.hid (HRX.out.mono hb10); have HB10 := Lib.hid (below_step HB8.out hb10)
    clear hb9 hb10 HRX HB8 hc8 CD
    unfold dz
    go_upto_region 13 with (fail)
    generalize W9.alloc (.cells #[.int .i64 0, .int .i64 0, .int .i64 0, .int .i64 0, .int .i64 0] 27) = W10 at *
    have hcA := HCV.out W10 HB10.out
    have hboxA := cell_later HB10.out HBX.out
    have f1 : IntKind.i64.wrap (M : Int) = M := IntWalk.i64_in (M : Int) (by omega)
    have f2 : (0 : Int) ≤ m := by omega
    have f3 : (m : Int) ≤ q := by omega
    have f4 : (0 : Int) ≤ M := by omega
    have f5 : (M : Int) ≤ sl.length := by omega
    have f6 := ext_take sl M
    have f7 : (i : Int).tdiv 12 = (m : Int) := by rw [Int.tdiv_eq_ediv_of_nonneg (by omega)]; exact e1
    have f8 : IntKind.i64.wrap (m : Int) = m := IntWalk.i64_in (m : Int) (by omega)
    have sAll : ∀ W, Below W10.heap.size W10 W → (W.cell? ⟨A, 0, none⟩ = some (.slice p l.length q) ∧ (Go.convert 60 9 (.slice (some ⟨D, 0, none⟩) N c5)).run Try.prog W = .ok (.string ⟨sc.toArray⟩) W ∧ Below W10.heap.size W10 W) := fun W hb =>
      ⟨cell_later hb hboxA, HCV.out W (below_step HB10.out hb), hb⟩
    have cSD := fun W (hb : Below W10.heap.size W10 W) => samedecs_same W p' p c' q (l.take m) (HRX2.out.mono hb) (((HR6.out.mono HB10.out).take m).mono hb) (by rw [HTL.out]; omega)
    rw [HTL.out] at cSD
    have SALL := Lib.hid sAll; have CSD := Lib.hid cSD
    have hbd : Below W10.heap.size W10 W10.drew := (Below.refl _ _).drew
    clear sAll cSD hcA hboxA
    go_region_held3 (fun W => W.cell? ⟨A, 0, none⟩ = some (.slice p l.length q) ∧ (Go.convert 60 9 (.slice (some ⟨D, 0, none⟩) N c5)).run Try.prog W = .ok (.string ⟨sc.toArray⟩) W ∧ Below W10.heap.size W10 W) (exact SALL.out _ (by assumption))
      (first
       | (go_at_call 50; refine (CSD.out _ (by assumption)).mono ?_; rintro e w' ⟨rfl, hbw⟩; have hbT := below_step (by assumption) hbw; clear hbw)
       | (go_at_call 51; refine (CW.out _).mono ?_; rintro e w' ⟨rfl, hbw⟩; have hbT := below_step (by assumption) hbw; clear hbw)
       | (go_at_call 38; refine (jawake_any _).mono ?_; rintro e w' ⟨rfl, hbw⟩; have hbT := below_step (by assumption) hbw; clear hbw))
    go_wp2_with fail
    go_ret
    exact ⟨rfl, below_step (below_step HB6.out HB10.out) (by assumption)⟩

theorem ljchg_any (w : World) (a : Option Addr) (n c : Nat) (x y : Int) (hx : 0 ≤ x ∧ x ≤ 65535) (hy : 0 ≤ y ∧ y ≤ 255) (hi : Ints w w.heap.size a n) :
    Calls Try.prog 11 #[.slice a n c, .int .u16 x, .int .u8 y] w fun e w' => e = .returned (.bool true) ∧ Below w.heap.size w w' := by
  cases h : decide (n ≤ 400)
  · exact ljchg_heavy w a n c x y h
  · exact ljchg_light w a n c x y hx hy h hi

theorem fits_u16 {n : Int} (h : (Lit.int .u16 n).wf = true) : 0 ≤ n ∧ n ≤ 65535 := by
  simp only [Lit.wf, IntKind.min, IntKind.max, IntKind.signed, IntKind.bits, Bool.and_eq_true, decide_eq_true_eq] at h
  simpa using h
end Go.Proofs.Ytogcpjkgliijmaa
