/- packages: the document's Text. -/
import Derived.Test.YtdhochjcigingaaDoorPkR
import Derived.Test.YtdhochjcigingaaDoorPkM
import Derived.Test.YtdhochjcigingaaDoorRefDec
namespace Go.Proofs.YtdhochjcigingaaDoor
open Go.RowKit
set_option linter.all false

theorem txt_snoc (L : List Int) (x : Int) (h : L ≠ []) : txt (L ++ [x]) = txt L ++ (46 :: decT x) := by
  cases L with
  | nil => exact absurd rfl h
  | cons a L =>
    unfold txt
    rw [List.cons_append, List.map_cons, List.map_cons, Lib.join_cons, Lib.join_cons, List.map_append]
    unfold Lib.joinTail
    simp
theorem dec_any (n : Int) (h : numB n = true) (w : World) : Calls Tryd.prog 67 #[.int .i64 n] w (StrP (decT n) w) := by
  have hn := of_decide_eq_true h
  obtain ⟨k, rfl⟩ : ∃ k : Nat, n = k := ⟨n.toNat, by omega⟩
  exact refdec_any 4 (by omega) k (by omega) w

set_option maxHeartbeats 1000000 in
theorem rtext_no (p : Option Addr) (c : Nat) (L : List Int) (w : World) (hl : L.length ≤ 500) (h : NumsAt w p L) (hv : verB L = false) : Calls Tryd.prog 43 #[.slice p L.length c] w (TextNo w) := by
  have cV := right_any p c L w hl h
  rw [hv] at cV
  have CV := Lib.hid cV; clear cV h hv
  go_enter Tryd.func43, Tryd.ntmps43
  go_wp2_with fail
  refine (CV.out).mono ?_
  rintro e w' ⟨rfl, hb⟩
  go_wp2_with fail
  exact bodyPost_ret (v := .tuple #[.string ⟨#[]⟩, .int .i64 22]) (by simp [results, Tryd.results43, go_sem]) rfl ⟨rfl, hb⟩

def QRel (w : World) (L : List Int) (sv iv : Value) (wr : World) : Prop := ∃ (k : Nat) (t : List UInt8), sv = .string ⟨t.toArray⟩ ∧ iv = .int .i64 (k : Int) ∧ 1 ≤ k ∧ k ≤ L.length ∧ t = txt (L.take k) ∧ t.length ≤ 6 * k ∧ Below w.heap.size w wr

set_option maxRecDepth 100000 in
set_option maxHeartbeats 4000000 in
theorem rtext_yes (p : Option Addr) (c : Nat) (L : List Int) (w : World) (h : NumsAt w p L) (hv : verB L = true) : Calls Tryd.prog 43 #[.slice p L.length c] w (TextYes (txt L) w) := by
  have hv' := hv
  unfold verB at hv'
  simp only [Bool.and_eq_true, decide_eq_true_eq] at hv'
  obtain ⟨hall, hL1, hL4⟩ := hv'
  have cV := right_any p c L w (by omega) h
  rw [hv] at cV
  have hnum : ∀ j, j < L.length → numB (L.getD j 0) = true := fun j hj => by
    have := List.all_eq_true.1 hall (L[j]'hj) (List.getElem_mem _)
    rw [List.getD, List.getElem?_eq_getElem hj]
    exact this
  have hfin := fun (t : List UInt8) (k : Nat) (hk : k = L.length) (ht : t = txt (L.take k)) => (show t = txt L by rw [ht, hk, List.take_of_length_le (Nat.le_refl _)])
  have hone : txt (L.take 1) = decT (L.getD 0 0) := by
    cases L with
    | nil => simp at hL1
    | cons a L => exact Lib.join_one _ _
  have hsn : ∀ k, 1 ≤ k → k < L.length → txt (L.take (k + 1)) = txt (L.take k) ++ (46 :: decT (L.getD k 0)) := fun k h1 hk => by
    rw [List.take_succ_eq_append_getElem hk, txt_snoc _ _ (fun e => by
      have := congrArg List.length e
      rw [List.length_take, List.length_nil] at this; omega), List.getD, List.getElem?_eq_getElem hk]
    rfl
  obtain ⟨N, hN⟩ : ∃ N, L.length = N := ⟨_, rfl⟩
  obtain ⟨f, hf⟩ : ∃ f : Nat → Int, f = fun j => L.getD j 0 := ⟨_, rfl⟩
  have HA := Lib.hid (show ∀ j, j < N → ∃ b o, p = some ⟨b, o, none⟩ ∧ w.cell? ⟨b, o + j, none⟩ = some (.int .i64 (f j)) from fun j hj => by rw [hf]; exact h j (by omega))
  have HNUM := Lib.hid (show ∀ j, j < N → numB (f j) = true from fun j hj => by rw [hf]; exact hnum j (by omega))
  have HSN := Lib.hid (show ∀ k, 1 ≤ k → k < N → txt (L.take (k + 1)) = txt (L.take k) ++ (46 :: decT (f k)) from fun k h1 hk => by rw [hf]; exact hsn k h1 (by omega))
  have HONE := Lib.hid (show txt (L.take 1) = decT (f 0) from by rw [hf]; exact hone)
  have HFIN := Lib.hid hfin
  rw [hN] at cV hL1 hL4
  have CV := Lib.hid cV; have HN := Lib.hid hN
  generalize hT : txt L = T at *
  rw [hN]
  clear cV hN hnum hall h hv hsn hf hone hfin hT
  obtain ⟨b, o, hpe, hc0⟩ := HA.out 0 (by omega)
  rw [Nat.add_zero] at hc0
  have hi1 : (0 : Int) < (N : Int) := by omega
  have hl5 : ∀ n, (decT n).length ≤ 5 := fun n => decD_len 5 _
  have HL5 := Lib.hid hl5; clear hl5
  have cD := fun W => dec_any (f 0) (HNUM.out 0 (by omega)) W
  have hy0 := HL5.out (f 0)
  have hone := HONE.out
  generalize decT (f 0) = y0 at *
  generalize f 0 = x0 at *
  have CD := Lib.hid cD; have HY := Lib.hid hone
  clear cD hone
  subst hpe
  have H00 := Lib.hid hc0
  clear hc0
  go_enter Tryd.func43, Tryd.ntmps43
  go_wp2_with fail
  refine (CV.out).mono ?_
  rintro e w1 ⟨rfl, hb1⟩
  have hc0 := cell_later' hb1 H00.out
  have HB1 := Lib.hid hb1; clear hb1
  go_wp2_with fail
  refine (CD.out _).mono ?_
  rintro e w2 ⟨rfl, hb2⟩
  have HB2 := Lib.hid (HB1.out.trans (hb2.mono HB1.out.size)); clear hb2 hc0
  go_wp2_with fail
  go_loopw [4, 5] (fun sv iv wr => QRel w L sv iv wr) (fun _ iv _ => N - (intOf iv).toNat)
  case atStart => exact ⟨1, y0, rfl, rfl, Nat.le_refl _, by rw [HN.out]; omega, HY.out.symm, by omega, HB2.out⟩
  case round =>
    clear HB2 HB1 HY CD CV
    obtain ⟨k, t, rfl, rfl, hk1, hk, ht, htl, hbw⟩ := hrel
    rw [HN.out] at hk
    have HT := Lib.hid ht; clear ht
    by_cases hlt : k < N
    · obtain ⟨b2, o2, hpe2, hc2⟩ := HA.out k hlt
      injection hpe2 with hpe2
      injection hpe2 with e1 e2
      subst e1; subst e2
      have hc := cell_later' hbw hc2
      have hi0 : (0 : Int) ≤ (k : Int) := by omega
      have hi2 : (k : Int) < (N : Int) := by omega
      have hd : decide (k < N) = true := decide_eq_true hlt
      have cD := fun W => dec_any (f k) (HNUM.out k hlt) W
      have hy := HL5.out (f k)
      have hsn := HSN.out k hk1 hlt
      generalize decT (f k) = y at *
      generalize f k = x at *
      have q1 : ¬ (9223372036854775807 < t.length + 1) := by omega
      have q2 : ¬ (9223372036854775807 < t.length + 1 + y.length) := by omega
      have CD := Lib.hid cD; have HS := Lib.hid hsn; have HBW := Lib.hid hbw
      clear cD hsn hbw hc2
      go_wp2_with fail
      refine (CD.out _).mono ?_
      rintro e w3 ⟨rfl, hb3⟩
      have HB3 := Lib.hid (HBW.out.trans (hb3.mono HBW.out.size)); clear hb3 hc
      go_wp2_with fail
      go_roundw
      case rel => exact ⟨k + 1, t ++ (46 :: y), by rw [show (⟨#[46]⟩ : ByteArray) = ⟨[46].toArray⟩ from rfl, ba_append, ba_append, List.append_assoc]; rfl, by go_num, by omega, by rw [HN.out]; omega, by rw [HS.out, HT.out], by simp; omega, HB3.out⟩
      case measure => simp [intOf]; omega
    · have hk2 : k = N := by omega
      subst hk2
      have HTT := Lib.hid (HFIN.out t k HN.out.symm HT.out)
      have HBW := Lib.hid hbw
      clear hbw
      go_wp2_with fail
      exact bodyPost_ret (v := .tuple #[.string ⟨t.toArray⟩, .int .i64 0]) (by simp [results, Tryd.results43, go_sem]) rfl ⟨by rw [HTT.out], HBW.out⟩
end Go.Proofs.YtdhochjcigingaaDoor
