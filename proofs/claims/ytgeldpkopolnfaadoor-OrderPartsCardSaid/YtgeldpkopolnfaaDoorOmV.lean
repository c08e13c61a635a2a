/- Has; the numbers of bits. -/
import Derived.Test.YtgeldpkopolnfaaDoorOmU
import Derived.Test.YtgeldpkopolnfaaDoorOmR
namespace Go.Proofs.YtgeldpkopolnfaaDoor
open Go.RowKit
set_option linter.all false

set_option maxRecDepth 100000 in
set_option maxHeartbeats 2000000 in
theorem hasN_any (v : Value) (l : List Nat) (i : Nat) (w : World) (hl : l.length ≤ 1000) (hv : IdxR w v l) :
    Calls Tryd.prog 16 #[v, .int .i64 (i : Int)] w (BoolP (decide (i ∈ l)) w) := by
  obtain ⟨p, c, rfl, _, hc⟩ := hv
  have HC := Lib.hid hc
  obtain ⟨q, hq⟩ : ∃ q, decide (i ∈ l) = q := ⟨_, rfl⟩
  have HQ := Lib.hid hq
  rw [hq]
  obtain ⟨N, hN⟩ : ∃ N, l.length = N := ⟨_, rfl⟩
  have HN := Lib.hid hN
  rw [hN] at hl ⊢
  clear hc hq hN
  go_enter Tryd.func16, Tryd.ntmps16
  go_wp2_with fail
  go_loopw [9] (fun kv wr => ∃ m : Nat, kv = .int .i64 (m : Int) ∧ m ≤ N ∧ (∀ j, j < m → l.getD j 0 ≠ i) ∧ Below w.heap.size w wr) (fun kv _ => N - (intOf kv).toNat)
  case atStart => exact ⟨0, rfl, Nat.zero_le _, fun j hj => by omega, Below.refl _ _⟩
  case round =>
    obtain ⟨m, rfl, hm, hno, hbel⟩ := hrel
    by_cases hlt : m < N
    · have hm0 : (0 : Int) ≤ (m : Int) := by omega
      have hm1 : (m : Int) < (N : Int) := by omega
      have hdm : decide (m < N) = true := decide_eq_true hlt
      have hml : m < l.length := by rw [HN.out]; exact hlt
      obtain ⟨b1, o1, hp1, c0⟩ := HC.out m hml
      subst hp1
      have c0 := cell_later' hbel c0
      have hmem : l.getD m 0 ∈ l := SetOk.getD_mem hml
      obtain ⟨x, hx⟩ : ∃ x, l.getD m 0 = x := ⟨_, rfl⟩
      rw [hx] at c0 hmem
      have hqx : x = i → q = true := fun e => by rw [← HQ.out]; exact decide_eq_true (by rw [← e]; exact hmem)
      have HBE := Lib.hid hbel; have HNO := Lib.hid hno; have HX := Lib.hid hx
      clear hbel hno hx hmem
      by_cases he : x = i
      · have hqt := hqx he
        subst hqt
        subst he
        clear hqx
        go_wp2_with fail
        go_ret
        exact ⟨rfl, HBE.out⟩
      · have g1 : ¬ (x : Int) = (i : Int) := by omega
        have g2 : ((x : Int) == (i : Int)) = false := by simp; omega
        have HE := Lib.hid he
        clear he hqx
        go_wp2_with fail
        go_roundw
        case rel =>
          refine ⟨m + 1, by go_num, by omega, fun j hj => ?_, HBE.out⟩
          rcases Nat.lt_succ_iff_lt_or_eq.1 hj with h | rfl
          · exact HNO.out j h
          · rw [HX.out]; exact HE.out
        case measure => simp [intOf]; omega
    · have hmN : m = N := by omega
      subst hmN
      have hdm : decide (m < m) = false := by simp
      have hnm : ¬ (m : Int) < (m : Int) := by omega
      have hqf : q = false := by
        rw [← HQ.out]
        refine decide_eq_false fun hmem => ?_
        obtain ⟨j, hj, e⟩ := List.getElem_of_mem hmem
        refine hno j (by rw [← HN.out]; exact hj) ?_
        rw [List.getD, List.getElem?_eq_getElem hj]; exact e
      subst hqf
      have HBE := Lib.hid hbel
      clear hbel hno
      go_wp2_with fail
      go_ret
      exact ⟨rfl, HBE.out⟩
theorem i64_and_one (a : Nat) (ha : a < 16777216) : bits .and .i64 (a : Int) 1 = ((a % 2 : Nat) : Int) := by
  show IntKind.i64.wrap ((BitVec.ofInt 64 (a : Int) &&& BitVec.ofInt 64 1).toNat : Int) = _
  have e1 : (BitVec.ofInt 64 (a : Int)).toNat = a := by rw [BitVec.toNat_ofInt]; omega
  have e2 : (BitVec.ofInt 64 1).toNat = 1 := by decide
  rw [BitVec.toNat_and, e1, e2, Nat.and_one_is_mod, IntWalk.i64_in _ (by omega)]
/-- The first bits of a number. -/
def bitsTo (m i : Nat) : List Nat := (List.range i).filter fun k => m.testBit k
theorem bitsTo_succ (m i : Nat) : bitsTo m (i + 1) = bitsTo m i ++ if m.testBit i then [i] else [] := by
  unfold bitsTo
  rw [List.range_succ, List.filter_append]
  cases h : m.testBit i <;> simp [h]
theorem bitsTo_length (m i : Nat) : (bitsTo m i).length ≤ i := by unfold bitsTo; exact Nat.le_trans (List.length_filter_le _ _) (by simp)
theorem bitsTo_idx {m : Nat} (h : m < 2 ^ 6) : bitsTo m 6 = idx m := by
  refine asc_eq ((List.pairwise_lt_range).filter _) (idx_asc m) fun i => ?_
  unfold bitsTo
  rw [List.mem_filter, List.mem_range, mem_idx (Nat.lt_of_lt_of_le h (by decide))]
  constructor
  · exact fun h => h.2
  · intro h2
    refine ⟨?_, h2⟩
    rcases Nat.lt_or_ge i 6 with h3 | h3
    · exact h3
    · rw [bit_of_lt h h3] at h2; cases h2
theorem idx_ok {x n : Nat} (h : x < 2 ^ n) : SetOk n (idx x) := ⟨idx_asc x, fun i hi => by
  rcases Nat.lt_or_ge i n with h3 | h3
  · exact h3
  · have := (idx_lt hi).2; rw [bit_of_lt h h3] at this; cases this⟩
/-- How many of the first numbers are closed sets. -/
def cntTo (L : List Rq) (m : Nat) : Nat := ((List.range m).filter fun x => clB L x).length
theorem cntTo_succ (L : List Rq) (m : Nat) : cntTo L (m + 1) = cntTo L m + if clB L m then 1 else 0 := by
  unfold cntTo
  rw [List.range_succ, List.filter_append, List.length_append]
  cases h : clB L m <;> simp [h]
theorem cntTo_le (L : List Rq) (m : Nat) : cntTo L m ≤ m := by unfold cntTo; exact Nat.le_trans (List.length_filter_le _ _) (by simp)
theorem cntTo_all {L : List Rq} {n : Nat} {A : List Nat} (hA : A.Nodup) (hm : ∀ x, x ∈ A ↔ x < 2 ^ n ∧ ClM L x) : cntTo L (2 ^ n) = A.length := by
  have hp : A.Perm ((List.range (2 ^ n)).filter fun x => clB L x) := by
    rw [List.perm_ext_iff_of_nodup hA ((List.nodup_range).filter _)]
    intro x
    rw [hm, List.mem_filter, List.mem_range, clB_iff]
  exact hp.length_eq.symm
theorem rdy_nil {n : Nat} {L : List Rq} {x : Nat} (hok : Ok n L) (hn : n ≤ 24) (hx : x < 2 ^ n) : idx (rdy n L x) = [] ↔ (idx x).length = n := by
  have hR : rdy n L x < 16777216 := Nat.lt_of_lt_of_le (rdy_lt n L x) (Nat.pow_le_pow_right (n := 2) (by decide) (j := 24) hn)
  have hx24 : x < 16777216 := Nat.lt_of_lt_of_le hx (Nat.pow_le_pow_right (n := 2) (by decide) (j := 24) hn)
  have hle := pc_le hx
  constructor
  · intro h
    apply Classical.byContradiction
    intro hne
    have hex : ∃ i, i < n ∧ x.testBit i = false := by
      apply Classical.byContradiction
      intro hno
      have hp : (idx x).Perm (List.range n) := by
        rw [List.perm_ext_iff_of_nodup (idx_nodup x) List.nodup_range]
        intro i
        rw [List.mem_range]
        constructor
        · exact (idx_ok hx).low i
        · intro hi
          rw [mem_idx hx24]
          cases hb : x.testBit i
          · exact absurd ⟨i, hi, hb⟩ hno
          · rfl
      have := hp.length_eq
      rw [List.length_range] at this
      exact hne this
    obtain ⟨i, hi, hb⟩ := hex
    obtain ⟨j, hj⟩ := addable (x := x) hok hi hb
    have : j ∈ idx (rdy n L x) := (mem_idx hR).2 (rdy_bit.2 hj)
    rw [h] at this; cases this
  · intro h
    cases hid : idx (rdy n L x) with
    | nil => rfl
    | cons i r =>
      exfalso
      have hr := rdy_bit.1 ((mem_idx hR).1 (by rw [hid]; simp) : (rdy n L x).testBit i = true)
      have h2 := pc_le (or_lt hx hr.1)
      have h3 := pc_add hx24 (by have := hr.1; omega) hr.2.1
      unfold pc at h2 h3
      omega
theorem remL_nil {n : Nat} {L : List Rq} {x : Nat} (hok : Ok n L) (hn : n ≤ 24) (hx : x < 2 ^ n) (hc : ClM L x) : remL L x (idx x) = [] ↔ (idx x).length = 0 := by
  have hx24 : x < 16777216 := Nat.lt_of_lt_of_le hx (Nat.pow_le_pow_right (n := 2) (by decide) (j := 24) hn)
  constructor
  · intro h
    apply Classical.byContradiction
    intro hne
    have h0 : x ≠ 0 := by rintro rfl; rw [idx_zero] at hne; exact hne rfl
    obtain ⟨i, hi, hb, hm⟩ := YtgeldpkopolnfaaDoor.removable hok hx hc h0
    have : i ∈ remL L x (idx x) := by
      unfold remL
      rw [List.mem_filter]
      exact ⟨(mem_idx hx24).2 hb, clB_iff.2 (cl_del hc hm)⟩
    rw [h] at this; cases this
  · intro h
    rw [List.length_eq_zero_iff] at h
    rw [h]; rfl
theorem rem_back {n : Nat} {L : List Rq} {x i : Nat} (hn : n ≤ 24) (hx : x < 2 ^ n) (hc : ClM L x) (hr : Rdy n L x i) : i ∈ remL L (x ||| 2 ^ i) (idx (x ||| 2 ^ i)) := by
  have h24 : x ||| 2 ^ i < 16777216 := Nat.lt_of_lt_of_le (or_lt hx hr.1) (Nat.pow_le_pow_right (n := 2) (by decide) (j := 24) hn)
  unfold remL
  rw [List.mem_filter, add_del hr.2.1]
  exact ⟨(mem_idx h24).2 (by rw [bit_or_pow]; simp), clB_iff.2 hc⟩
theorem remL_length (L : List Rq) (x : Nat) (l : List Nat) : (remL L x l).length ≤ l.length := by unfold remL; exact List.length_filter_le _ _
end Go.Proofs.YtgeldpkopolnfaaDoor
