/- read, readClosed, Closed, Ready. -/
import Derived.Test.YtgeldpkopolnfaaDoorOmE
namespace Go.Proofs.YtgeldpkopolnfaaDoor
open Go.RowKit
set_option linter.all false

/-- The mask of some indices. -/
def maskL (l : List Nat) : Nat := l.foldl (fun m i => m ||| 2 ^ i) 0
theorem foldOr_bit : ∀ (l : List Nat) (m i : Nat), (l.foldl (fun m i => m ||| 2 ^ i) m).testBit i = (m.testBit i || decide (i ∈ l))
  | [], m, i => by simp
  | x :: l, m, i => by
    rw [List.foldl_cons, foldOr_bit l, bit_or_pow]
    by_cases h : x = i
    · subst h; simp
    · have h' : ¬ i = x := fun e => h e.symm
      simp [h, h']
theorem maskL_bit (l : List Nat) (i : Nat) : (maskL l).testBit i = decide (i ∈ l) := by unfold maskL; rw [foldOr_bit]; simp
theorem maskL_snoc (l : List Nat) (i : Nat) : maskL (l ++ [i]) = maskL l ||| 2 ^ i := by unfold maskL; rw [List.foldl_append]; rfl
theorem maskL_lt {l : List Nat} {n : Nat} (h : ∀ i ∈ l, i < n) : maskL l < 2 ^ n := lt_of_bits fun i hi => by
  rw [maskL_bit, decide_eq_false_iff_not]
  intro hm
  have := h i hm
  omega
theorem idx_maskL {l : List Nat} (ha : l.Pairwise (· < ·)) (h : ∀ i ∈ l, i < 24) : idx (maskL l) = l :=
  asc_eq (idx_asc _) ha fun i => by rw [mem_idx (maskL_lt (n := 24) h), maskL_bit, decide_eq_true_iff]
theorem maskL_idx {x : Nat} (h : x < 16777216) : maskL (idx x) = x := by
  apply Nat.eq_of_testBit_eq
  intro i
  rw [maskL_bit]
  cases e : x.testBit i
  · rw [decide_eq_false_iff_not, mem_idx h, e]; simp
  · rw [decide_eq_true_iff, mem_idx h, e]
theorem takeN_snoc (l : List Nat) (m : Nat) (h : m < l.length) : l.take (m + 1) = l.take m ++ [l.getD m 0] := by
  rw [List.take_succ, List.getElem?_eq_getElem h]
  simp [List.getD, h]
/-- A set of indices below n, ascending. -/
structure SetOk (n : Nat) (l : List Nat) : Prop where
  asc : l.Pairwise (· < ·)
  low : ∀ i ∈ l, i < n
theorem SetOk.getD_mem {l : List Nat} {j : Nat} (h : j < l.length) : l.getD j 0 ∈ l := by
  rw [List.getD, List.getElem?_eq_getElem h]; exact List.getElem_mem h
theorem SetOk.length {n : Nat} {l : List Nat} (h : SetOk n l) : l.length ≤ n := nodup_lt_length n l (h.asc.imp fun h => Nat.ne_of_lt h) h.low
theorem SetOk.lt {n : Nat} {l : List Nat} (h : SetOk n l) {i j : Nat} (hij : i < j) (hj : j < l.length) : l.getD i 0 < l.getD j 0 := by
  have := (List.pairwise_iff_getElem.1 h.asc) i j (by omega) hj hij
  simpa [List.getD, hj, show i < l.length by omega] using this

set_option maxRecDepth 100000 in
set_option maxHeartbeats 4000000 in
theorem read_any (a : Option Addr) (c : Nat) (L : List Rq) (n : Nat) (v : Value) (l : List Nat) (w : World) (hn : n ≤ 24) (hl : SetOk n l) (hv : IdxR w v l)
    (hC : Calls Tryd.prog 23 #[.int .i64 (n : Int), .slice a L.length c] w fun e w' => e = .returned (.int .i64 0) ∧ Below w.heap.size w w') :
    Calls Tryd.prog 28 #[.int .i64 (n : Int), .slice a L.length c, v] w fun e w' => e = .returned (.tuple #[.int .u32 ((maskL l : Nat) : Int), .int .i64 0]) ∧ Below w.heap.size w w' := by
  obtain ⟨q, cq, rfl, _, hq⟩ := hv
  have hlen := hl.length
  have HL := Lib.hid hl; have HQ := Lib.hid hq; have HC := Lib.hid hC
  obtain ⟨N, hN⟩ : ∃ N, l.length = N := ⟨_, rfl⟩
  have HN := Lib.hid hN
  rw [hN] at hlen ⊢
  clear hl hq hC hN
  generalize L.length = ll at *
  go_enter Tryd.func28, Tryd.ntmps28
  go_wp2_with (go_at_call 23; refine (HC.out).mono ?_; clear HC; rintro e w1 ⟨rfl, hb1⟩; have HB1 := Lib.hid hb1; clear hb1)
  go_loopw [9, 20] (fun sv kv wr => ∃ m : Nat, kv = .int .i64 (m : Int) ∧ m ≤ N ∧ sv = .int .u32 ((maskL (l.take m) : Nat) : Int) ∧ wr = w1) (fun _ kv _ => N - (intOf kv).toNat)
  case atStart => exact ⟨0, rfl, Nat.zero_le _, rfl, rfl⟩
  case round =>
    obtain ⟨m, rfl, hm, rfl, hwe⟩ := hrel
    subst hwe
    have hsm : maskL (l.take m) < 16777216 := Nat.lt_of_lt_of_le (maskL_lt (n := n) fun i hi => HL.out.low i (List.mem_of_mem_take hi)) (Nat.pow_le_pow_right (n := 2) (by decide) (j := 24) hn)
    by_cases hlt : m < N
    · have hml : m < l.length := by rw [HN.out]; exact hlt
      obtain ⟨b, o, hqe, c0⟩ := HQ.out m hml
      have c0 := cell_later' HB1.out c0
      have hm0 : (0 : Int) ≤ (m : Int) := by omega
      have hm1 : (m : Int) < (N : Int) := by omega
      have hdm : decide (m < N) = true := decide_eq_true hlt
      have hx := HL.out.low _ (SetOk.getD_mem hml)
      have htk := takeN_snoc l m hml
      have hms := maskL_snoc (l.take m) (l.getD m 0)
      rw [← htk] at hms
      have hord : 0 < m → l.getD (m - 1) 0 < l.getD m 0 := fun h => HL.out.lt (by omega) hml
      have hc1 : 0 < m → wr.cell? ⟨b, o + (m - 1), none⟩ = some (.int .i64 ((l.getD (m - 1) 0 : Nat) : Int)) := fun h => by
        obtain ⟨b', o', e, h2⟩ := HQ.out (m - 1) (by omega)
        rw [hqe] at e
        injection e with e
        injection e with e1 e2 _
        subst e1; subst e2
        exact cell_later' HB1.out h2
      subst hqe
      generalize l.getD (m - 1) 0 = y at *
      generalize l.getD m 0 = x at *
      have HW := Lib.hid (with_any (maskL (l.take m)) x hsm (by omega) wr)
      have HMS := Lib.hid hms
      clear hms htk hsm
      generalize maskL (l.take m) = z at *
      generalize z ||| 2 ^ x = z2 at *
      have hx0 : ¬ ((x : Int) < 0) := by omega
      have hx1 : ¬ ((n : Int) ≤ (x : Int)) := by omega
      have hx2 : decide (n ≤ x) = false := decide_eq_false (by omega)
      have hx3 : decide ((x : Int) < 0) = false := decide_eq_false hx0
      rcases Nat.eq_zero_or_pos m with rfl | hpos
      · clear hc1 hord
        simp only [Nat.add_zero] at c0
        go_wp2_with (go_at_call 34; refine (HW.out).mono ?_; rintro e w' ⟨rfl, rfl⟩)
        go_roundw
        case rel => exact ⟨1, by go_num, by omega, by rw [HMS.out], by first | rfl | trivial⟩
        case measure => simp [intOf]; omega
      · have hc1 := hc1 hpos
        have hord := hord hpos
        have hp1 : (0 : Int) < (m : Int) := by omega
        have hp2 : decide (0 < m) = true := decide_eq_true hpos
        have hsub : IntKind.i64.wrap ((m : Int) - 1) = ((m - 1 : Nat) : Int) := by rw [IntWalk.i64_in _ (by omega)]; omega
        have hg1 : ¬ ((x : Int) ≤ (y : Int)) := by omega
        have hg2 : decide (x ≤ y) = false := decide_eq_false (by omega)
        have hi0 : (0 : Int) ≤ ((m - 1 : Nat) : Int) := by omega
        have hi1 : ((m - 1 : Nat) : Int) < (N : Int) := by omega
        go_wp2_with (go_at_call 34; refine (HW.out).mono ?_; rintro e w' ⟨rfl, rfl⟩)
        go_roundw
        case rel => exact ⟨m + 1, by go_num, by omega, by rw [HMS.out], by first | rfl | trivial⟩
        case measure => simp [intOf]; omega
    · have hmN : m = N := by omega
      subst hmN
      have hdm : decide (m < m) = false := by simp
      have hnm : ¬ (m : Int) < (m : Int) := by omega
      rw [List.take_of_length_le (by rw [HN.out]; exact Nat.le_refl _)] at hsm ⊢
      go_wp2_with fail
      refine bodyPost_ret (v := .tuple #[.int .u32 ((maskL l : Nat) : Int), .int .i64 0]) (by simp [results, Tryd.results28, go_sem]) rfl ?_
      exact ⟨rfl, HB1.out⟩
end Go.Proofs.YtgeldpkopolnfaaDoor
