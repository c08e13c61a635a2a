/- text.Number. -/
import Derived.Test.YtdhochjcigingaaDoorPkB
import Derived.Test.YtdhochjcigingaaDoorRawN
namespace Go.Proofs.YtdhochjcigingaaDoor
open Go.RowKit
set_option linter.all false

theorem itoa5 (v : Int) (h0 : 0 ≤ v) (h1 : v ≤ 99999) : Lib.itoa v = decD 5 v.toNat := by
  unfold Lib.itoa
  rw [if_neg (by omega)]
  exact decD_eq 4 v.toNat (by omega)
theorem atoiAll_dig (l : List UInt8) (h0 : l ≠ []) (h1 : l.length ≤ 18) (h : l.all digB = true) : Lib.atoiAll l = .ok (numV l) := by
  obtain ⟨n, e1, e2⟩ := decFrom_dig l 0 h
  have e3 : Lib.decNat l = some n := by
    unfold Lib.decNat
    rw [if_neg (by simpa using h0)]
    exact e1
  have e4 : Lib.atoi l = some (n : Int) := by
    cases l with
    | nil => exact absurd rfl h0
    | cons c r =>
      simp only [List.all_cons, Bool.and_eq_true] at h
      have hc := of_decide_eq_true h.1
      have n1 : (c == 45) = false := beq_eq_false_iff_ne.2 (u8_ne (by rw [show (45 : UInt8).toNat = 45 from rfl]; omega))
      have n2 : (c == 43) = false := beq_eq_false_iff_ne.2 (u8_ne (by rw [show (43 : UInt8).toNat = 43 from rfl]; omega))
      unfold Lib.atoi
      simp only [n1, n2, e3]
      rfl
  rw [Lib.atoiAll_short l h1, e4]
  have : (n : Int) = numV l := by rw [e2]; rfl
  rw [← this]
  rfl
theorem decFrom_none : ∀ (l : List UInt8) (a : Nat), l.all digB = false → Lib.decFrom a l = none
  | [], a, h => by cases h
  | c :: l, a, h => by
    unfold Lib.decFrom Lib.digitVal
    by_cases hc : 48 ≤ c.toNat ∧ c.toNat ≤ 57
    · rw [if_pos hc]
      simp only
      refine decFrom_none l _ ?_
      rw [List.all_cons] at h
      have : digB c = true := decide_eq_true hc
      rw [this] at h
      simpa using h
    · rw [if_neg hc]
/-- Neither a number nor out of range. -/
def noNum : Lib.NumEnd Int → Bool
  | .ok _ => false
  | .range => false
  | _ => true
theorem atoiAll_bad (c : UInt8) (r : List UInt8) (h1 : (c :: r).length ≤ 18) (hc : 48 ≤ c.toNat) (h : (c :: r).all digB = false) : noNum (Lib.atoiAll (c :: r)) = true := by
  have n1 : (c == 45) = false := beq_eq_false_iff_ne.2 (u8_ne (by rw [show (45 : UInt8).toNat = 45 from rfl]; omega))
  have n2 : (c == 43) = false := beq_eq_false_iff_ne.2 (u8_ne (by rw [show (43 : UInt8).toNat = 43 from rfl]; omega))
  have e3 : Lib.decNat (c :: r) = none := by
    unfold Lib.decNat
    rw [if_neg (by simp)]
    exact decFrom_none _ _ h
  have e4 : Lib.atoi (c :: r) = none := by
    unfold Lib.atoi
    simp only [n1, n2, e3]
    rfl
  rw [Lib.atoiAll_short _ h1, e4]
  rfl

def AtoiOk (v : Int) (w : World) (e : Ending) (w' : World) : Prop := e = .returned (.tuple #[.int .i64 v, .nilIface]) ∧ Below w.heap.size w w'
def AtoiBad (w : World) (e : Ending) (w' : World) : Prop := ∃ (T : TypeId) (pv : Value), e = .returned (.tuple #[.int .i64 0, .iface T pv]) ∧ Below w.heap.size w w'
theorem atoi_ok (s : List UInt8) (hs : s.length ≤ 1000) (v : Int) (hr : Lib.atoiAll s = .ok v) (w : World) : Calls Tryd.prog 54 #[.string ⟨s.toArray⟩] w (AtoiOk v w) := by
  have hz : (⟨s.toArray⟩ : ByteArray).size = s.length := by simp [ByteArray.size]
  refine (Any.strconv_Atoi_ok Tryd.laysC172 ⟨s.toArray⟩ (by omega) v hr w).mono ?_
  rintro e w' ⟨he, hw⟩
  refine ⟨he, ?_⟩
  rcases hw with rfl | ⟨t, rfl⟩
  · exact Below.refl _ _
  · exact below_bytes _ _ _
theorem atoi_bad {m : Int} (s : List UInt8) (hs : s.length ≤ 1000) (hr : noNum (Lib.atoiAll s) = true) (w : World) (h : TabP m w) : Calls Tryd.prog 54 #[.string ⟨s.toArray⟩] w (AtoiBad w) := by
  have hz : (⟨s.toArray⟩ : ByteArray).size = s.length := by simp [ByteArray.size]
  obtain ⟨te, pe, hc⟩ := h.syn
  cases hq : Lib.atoiAll s with
  | ok v => rw [hq] at hr; cases hr
  | range => rw [hq] at hr; cases hr
  | _ =>
    refine (Any.strconv_Atoi_syntax Tryd.laysC172 ⟨s.toArray⟩ (by omega) hq _ w hc (.inr ⟨te, pe, rfl⟩)).mono ?_
    rintro e w' ⟨N, he, _, _, hb⟩
    exact ⟨_, _, he, hb⟩
theorem itoa_any {m : Int} (n : Int) (h0 : 0 ≤ n) (h1 : n ≤ 99999) (w : World) (h : TabP m w) : Calls Tryd.prog 66 #[.int .i64 n] w (StrP (Lib.itoa n) w) := by
  refine (Tryd.strconv_Itoa n (by omega) (by omega) w h.pow).mono ?_
  rintro e w' ⟨he, k, os, rfl⟩
  exact ⟨he, Lib.below_grow _ _ (Nat.le_refl _) k os⟩

def numB5 (s : List UInt8) : Bool := numOk s && decide (s.length ≤ 5)
def NumP5 (s : List UInt8) (w : World) (e : Ending) (w' : World) : Prop := e = .returned (.tuple #[.int .i64 (if numB5 s then numV s else 0), .bool (numB5 s)]) ∧ Below w.heap.size w w'
def NumF (w : World) (e : Ending) (w' : World) : Prop := e = .returned (.tuple #[.int .i64 0, .bool false]) ∧ Below w.heap.size w w'
def NumT (v : Int) (w : World) (e : Ending) (w' : World) : Prop := e = .returned (.tuple #[.int .i64 v, .bool true]) ∧ Below w.heap.size w w'

set_option maxHeartbeats 1000000 in
theorem number_long (s : List UInt8) (hs : s.length ≤ 1000) (h : 5 < s.length) (w : World) : Calls Tryd.prog 78 #[.string ⟨s.toArray⟩, .int .i64 5] w (NumF w) := by
  go_enter Tryd.func78, Tryd.ntmps78
  go_wp2_with fail
  exact bodyPost_ret (v := .tuple #[.int .i64 0, .bool false]) (by simp [results, Tryd.results78, go_sem]) rfl ⟨rfl, Below.refl _ _⟩
set_option maxHeartbeats 1000000 in
theorem number_empty (w : World) : Calls Tryd.prog 78 #[.string ⟨#[]⟩, .int .i64 5] w (NumF w) := by
  go_enter Tryd.func78, Tryd.ntmps78
  go_wp2_with fail
  exact bodyPost_ret (v := .tuple #[.int .i64 0, .bool false]) (by simp [results, Tryd.results78, go_sem]) rfl ⟨rfl, Below.refl _ _⟩

set_option maxHeartbeats 1000000 in
theorem number_low (s : List UInt8) (h0 : 0 < s.length) (h5 : s.length ≤ 5) (hc : (s.getD 0 0).toNat < 48) (w : World) : Calls Tryd.prog 78 #[.string ⟨s.toArray⟩, .int .i64 5] w (NumF w) := by
  have hg := ba_get s 0
  have d1 : decide (((s.getD 0 0).toNat : Int) < 48) = true := by rw [decide_eq_true_eq]; omega
  have d2 : decide (5 < s.length) = false := by rw [decide_eq_false_iff_not]; omega
  have he : s.isEmpty = false := by cases s with | nil => simp at h0 | cons a b => rfl
  have l0 : (0 : Int) < (s.length : Int) := by omega
  generalize s.getD 0 0 = c at *
  go_enter Tryd.func78, Tryd.ntmps78
  go_wp2_with fail
  exact bodyPost_ret (v := .tuple #[.int .i64 0, .bool false]) (by simp [results, Tryd.results78, go_sem]) rfl ⟨rfl, Below.refl _ _⟩

set_option maxHeartbeats 1000000 in
theorem number_high (s : List UInt8) (h0 : 0 < s.length) (h5 : s.length ≤ 5) (hc : 57 < (s.getD 0 0).toNat) (w : World) : Calls Tryd.prog 78 #[.string ⟨s.toArray⟩, .int .i64 5] w (NumF w) := by
  have hg := ba_get s 0
  have d1 : decide (((s.getD 0 0).toNat : Int) < 48) = false := by rw [decide_eq_false_iff_not]; omega
  have d3 : decide ((57 : Int) < ((s.getD 0 0).toNat : Int)) = true := by rw [decide_eq_true_eq]; omega
  have d2 : decide (5 < s.length) = false := by rw [decide_eq_false_iff_not]; omega
  have he : s.isEmpty = false := by cases s with | nil => simp at h0 | cons a b => rfl
  have l0 : (0 : Int) < (s.length : Int) := by omega
  generalize s.getD 0 0 = c at *
  go_enter Tryd.func78, Tryd.ntmps78
  go_wp2_with fail
  exact bodyPost_ret (v := .tuple #[.int .i64 0, .bool false]) (by simp [results, Tryd.results78, go_sem]) rfl ⟨rfl, Below.refl _ _⟩

set_option maxHeartbeats 2000000 in
theorem number_bad {m : Int} (s : List UInt8) (h0 : 0 < s.length) (h5 : s.length ≤ 5) (hc : 48 ≤ (s.getD 0 0).toNat ∧ (s.getD 0 0).toNat ≤ 57) (hb : s.all digB = false) (w : World) (hT : TabP m w) : Calls Tryd.prog 78 #[.string ⟨s.toArray⟩, .int .i64 5] w (NumF w) := by
  have hr : noNum (Lib.atoiAll s) = true := by
    cases s with
    | nil => simp at h0
    | cons c r => exact atoiAll_bad c r (by omega) hc.1 hb
  have cA := atoi_bad s (by omega) hr w hT
  have hg := ba_get s 0
  have d1 : decide (((s.getD 0 0).toNat : Int) < 48) = false := by rw [decide_eq_false_iff_not]; omega
  have d3 : decide ((57 : Int) < ((s.getD 0 0).toNat : Int)) = false := by rw [decide_eq_false_iff_not]; omega
  have d2 : decide (5 < s.length) = false := by rw [decide_eq_false_iff_not]; omega
  have he : s.isEmpty = false := by cases s with | nil => simp at h0 | cons a b => rfl
  have l0 : (0 : Int) < (s.length : Int) := by omega
  generalize s.getD 0 0 = c at *
  have CA := Lib.hid cA; clear cA hb hr hT
  go_enter Tryd.func78, Tryd.ntmps78
  go_wp2_with fail
  refine (CA.out).mono ?_
  rintro e w1 ⟨T, pv, rfl, hb1⟩
  go_wp2_with fail
  exact bodyPost_ret (v := .tuple #[.int .i64 0, .bool false]) (by simp [results, Tryd.results78, go_sem]) rfl ⟨rfl, hb1⟩

set_option maxHeartbeats 2000000 in
theorem number_dig {m : Int} (s : List UInt8) (h0 : 0 < s.length) (h5 : s.length ≤ 5) (hb : s.all digB = true) (w : World) (hT : TabP m w) :
    Calls Tryd.prog 78 #[.string ⟨s.toArray⟩, .int .i64 5] w (if Lib.itoa (numV s) = s then NumT (numV s) w else NumF w) := by
  have hc := digs_at hb 0 h0
  have hne : s ≠ [] := fun e => by rw [e] at h0; simp at h0
  have hv := numV_bound s hb
  have hv2 : numV s < 100000 := by
    have : (10 : Int) ^ s.length ≤ 10 ^ 5 := by
      have h : (10 : Nat) ^ s.length ≤ 10 ^ 5 := Nat.pow_le_pow_right (by omega) h5
      have := Int.ofNat_le.2 h
      simpa using this
    omega
  have cA := atoi_ok s (by omega) (numV s) (atoiAll_dig s hne (by omega) hb) w
  have cI := fun W (h : TabP m W) => itoa_any (numV s) (by omega) (by omega) W h
  have hg := ba_get s 0
  have d1 : decide (((s.getD 0 0).toNat : Int) < 48) = false := by rw [decide_eq_false_iff_not]; omega
  have d3 : decide ((57 : Int) < ((s.getD 0 0).toNat : Int)) = false := by rw [decide_eq_false_iff_not]; omega
  have d2 : decide (5 < s.length) = false := by rw [decide_eq_false_iff_not]; omega
  have he : s.isEmpty = false := by cases s with | nil => simp at h0 | cons a b => rfl
  have l0 : (0 : Int) < (s.length : Int) := by omega
  generalize s.getD 0 0 = c at *
  obtain ⟨t, ht⟩ : ∃ t, Lib.itoa (numV s) = t := ⟨_, rfl⟩
  rw [ht] at cI
  rw [ht]
  generalize numV s = v at *
  have CA := Lib.hid cA; have CI := Lib.hid cI; have HT := Lib.hid hT; clear cA cI hb hT ht hv hv2 hne
  by_cases hq : t = s
  · subst hq
    rw [if_pos rfl]
    go_enter Tryd.func78, Tryd.ntmps78
    go_wp2_with fail
    refine (CA.out).mono ?_
    rintro e w1 ⟨rfl, hb1⟩
    have hT1 := HT.out.step hb1
    have HB1 := Lib.hid hb1; clear hb1
    go_wp2_with fail
    refine (CI.out _ hT1).mono ?_
    rintro e w2 ⟨rfl, hb2⟩
    have HB2 := Lib.hid (HB1.out.trans (hb2.mono HB1.out.size)); clear hb2 hT1
    go_wp2_with fail
    exact bodyPost_ret (v := .tuple #[.int .i64 v, .bool true]) (by simp [results, Tryd.results78, go_sem]) rfl ⟨rfl, HB2.out⟩
  · rw [if_neg hq]
    have hq1 : (t == s) = false := beq_eq_false_iff_ne.2 hq
    clear hq
    go_enter Tryd.func78, Tryd.ntmps78
    go_wp2_with fail
    refine (CA.out).mono ?_
    rintro e w1 ⟨rfl, hb1⟩
    have hT1 := HT.out.step hb1
    have HB1 := Lib.hid hb1; clear hb1
    go_wp2_with fail
    refine (CI.out _ hT1).mono ?_
    rintro e w2 ⟨rfl, hb2⟩
    have HB2 := Lib.hid (HB1.out.trans (hb2.mono HB1.out.size)); clear hb2 hT1
    go_wp2_with fail
    exact bodyPost_ret (v := .tuple #[.int .i64 0, .bool false]) (by simp [results, Tryd.results78, go_sem]) rfl ⟨rfl, HB2.out⟩

/-- Canonical digits are what their number writes, and no others. -/
theorem itoa_back (s : List UInt8) (h0 : 0 < s.length) (h5 : s.length ≤ 5) (hb : s.all digB = true) : Lib.itoa (numV s) = s ↔ numB5 s = true := by
  have hne : s ≠ [] := fun e => by rw [e] at h0; simp at h0
  have hv := numV_bound s hb
  have hv2 : numV s < 100000 := by
    have : (10 : Int) ^ s.length ≤ 10 ^ 5 := by
      have h : (10 : Nat) ^ s.length ≤ 10 ^ 5 := Nat.pow_le_pow_right (by omega) h5
      have := Int.ofNat_le.2 h
      simpa using this
    omega
  rw [itoa5 _ hv.1 (by omega)]
  constructor
  · intro h
    unfold numB5 numOk
    rw [hb, decide_eq_true (show s.length ≤ 5 from h5)]
    have hcan : ¬ (1 < s.length ∧ (s.getD 0 0).toNat = 48) := by
      rintro ⟨k1, k2⟩
      by_cases hz : numV s = 0
      · rw [hz] at h
        have : s.length = 1 := by rw [← h]; rfl
        omega
      · have := (decD_ok 4 (numV s).toNat (by omega) (by omega)).2.2.1
        rw [h] at this
        exact this k2
    rw [decide_eq_true ⟨by omega, by omega, hcan⟩]
    rfl
  · intro h
    unfold numB5 numOk at h
    simp only [Bool.and_eq_true, decide_eq_true_eq] at h
    exact digs_back 5 s hne h5 hb h.1.1.2.2

theorem number_any {m : Int} (s : List UInt8) (hs : s.length ≤ 1000) (w : World) (hT : TabP m w) : Calls Tryd.prog 78 #[.string ⟨s.toArray⟩, .int .i64 5] w (NumP5 s w) := by
  have hF : numB5 s = false → ∀ e w', NumF w e w' → NumP5 s w e w' := fun h e w' k => by
    unfold NumP5; rw [h]; exact k
  have hTr : numB5 s = true → ∀ e w', NumT (numV s) w e w' → NumP5 s w e w' := fun h e w' k => by
    unfold NumP5; rw [h]; exact k
  by_cases hl : s.length ≤ 5
  · by_cases h0 : 0 < s.length
    · by_cases hd : s.all digB = true
      · have := number_dig s h0 hl hd w hT
        have hk := itoa_back s h0 hl hd
        by_cases hq : Lib.itoa (numV s) = s
        · rw [if_pos hq] at this
          exact this.mono (hTr (hk.1 hq))
        · rw [if_neg hq] at this
          exact this.mono (hF (by rw [Bool.eq_false_iff]; exact fun e => hq (hk.2 e)))
      · have hd' : s.all digB = false := by rw [Bool.eq_false_iff]; exact hd
        have hB : numB5 s = false := by unfold numB5 numOk; rw [hd']; simp
        by_cases hlo : (s.getD 0 0).toNat < 48
        · exact (number_low s h0 hl hlo w).mono (hF hB)
        · by_cases hhi : 57 < (s.getD 0 0).toNat
          · exact (number_high s h0 hl hhi w).mono (hF hB)
          · exact (number_bad s h0 hl ⟨by omega, by omega⟩ hd' w hT).mono (hF hB)
    · have : s = [] := List.length_eq_zero_iff.1 (by omega)
      subst this
      exact (number_empty w).mono (hF (by decide))
  · exact (number_long s hs (by omega) w).mono (hF (by unfold numB5; rw [decide_eq_false hl]; simp))
end Go.Proofs.YtdhochjcigingaaDoor
