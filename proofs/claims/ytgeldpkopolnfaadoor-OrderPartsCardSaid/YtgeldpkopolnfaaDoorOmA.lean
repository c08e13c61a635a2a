/- Masks of bits, plain mathematics. -/
namespace Go.Proofs.YtgeldpkopolnfaaDoor
set_option linter.all false

/-- The indices of a mask, ascending. -/
def idx (x : Nat) : List Nat := (List.range 24).filter fun i => x.testBit i
theorem mem_idx {x i : Nat} (hx : x < 16777216) : i ∈ idx x ↔ x.testBit i = true := by
  unfold idx
  rw [List.mem_filter, List.mem_range]
  constructor
  · exact fun h => h.2
  · intro h
    refine ⟨?_, h⟩
    rcases Nat.lt_or_ge i 24 with h1 | h1
    · exact h1
    · have : x < 2 ^ i := Nat.lt_of_lt_of_le hx (Nat.pow_le_pow_right (n := 2) (by decide) (i := 24) h1)
      rw [Nat.testBit_lt_two_pow this] at h; cases h
theorem idx_lt {x i : Nat} (h : i ∈ idx x) : i < 24 ∧ x.testBit i = true := by
  unfold idx at h
  rw [List.mem_filter, List.mem_range] at h
  exact h
theorem idx_asc (x : Nat) : (idx x).Pairwise (· < ·) := by
  unfold idx
  exact (List.pairwise_lt_range).filter _
theorem idx_nodup (x : Nat) : (idx x).Nodup := (idx_asc x).imp fun h => Nat.ne_of_lt h
theorem idx_length (x : Nat) : (idx x).length ≤ 24 := by
  unfold idx
  exact Nat.le_trans (List.length_filter_le _ _) (by simp)
/-- Two ascending lists of the same numbers are one. -/
theorem asc_eq : ∀ {a b : List Nat}, a.Pairwise (· < ·) → b.Pairwise (· < ·) → (∀ i, i ∈ a ↔ i ∈ b) → a = b
  | [], [], _, _, _ => rfl
  | [], y :: b, _, _, h => by have := (h y).2 (by simp); cases this
  | x :: a, [], _, _, h => by have := (h x).1 (by simp); cases this
  | x :: a, y :: b, ha, hb, h => by
    rw [List.pairwise_cons] at ha hb
    have hxy : x = y := by
      have h1 := (h x).1 (by simp)
      have h2 := (h y).2 (by simp)
      rcases List.mem_cons.1 h1 with e | h1
      · exact e
      rcases List.mem_cons.1 h2 with e | h2
      · exact e.symm
      have := hb.1 x h1
      have := ha.1 y h2
      omega
    subst hxy
    congr 1
    refine asc_eq ha.2 hb.2 fun i => ?_
    have := h i
    simp only [List.mem_cons] at this
    constructor
    · intro hi
      have hlt := ha.1 i hi
      rcases this.1 (.inr hi) with e | e
      · omega
      · exact e
    · intro hi
      have hlt := hb.1 i hi
      rcases this.2 (.inr hi) with e | e
      · omega
      · exact e
theorem bits_ext {x y : Nat} (hx : x < 16777216) (hy : y < 16777216) (h : idx x = idx y) : x = y := by
  apply Nat.eq_of_testBit_eq
  intro i
  have h1 := mem_idx (i := i) hx
  have h2 := mem_idx (i := i) hy
  rw [h] at h1
  cases e : x.testBit i <;> cases e2 : y.testBit i <;> simp_all

/-- The least bit of a mask. -/
theorem odd_part : ∀ (x : Nat), 0 < x → ∃ k m, x = 2 ^ (k + 1) * m + 2 ^ k := by
  intro x
  induction x using Nat.strongRecOn with
  | _ x ih =>
    intro hx
    rcases Nat.mod_two_eq_zero_or_one x with h | h
    · obtain ⟨k, m, e⟩ := ih (x / 2) (by omega) (by omega)
      refine ⟨k + 1, m, ?_⟩
      have : x = 2 * (x / 2) := by omega
      rw [this, e, Nat.mul_add, ← Nat.mul_assoc, Nat.pow_succ 2 (k + 1), Nat.pow_succ 2 k]
      simp only [Nat.mul_comm, Nat.mul_left_comm]
    · exact ⟨0, x / 2, by simp; omega⟩
theorem odd_bits (k m i : Nat) : (2 ^ (k + 1) * m + 2 ^ k).testBit i = if i < k + 1 then decide (k = i) else m.testBit (i - (k + 1)) := by
  rw [Nat.testBit_two_pow_mul_add m (Nat.pow_lt_pow_right (a := 2) (by decide) (Nat.lt_succ_self k)), Nat.testBit_two_pow]
theorem least_and (k m : Nat) : (2 ^ (k + 1) * m + 2 ^ k) &&& (2 ^ (k + 1) * m + 2 ^ k - 1) = 2 ^ (k + 1) * m := by
  have hp : 0 < 2 ^ k := Nat.two_pow_pos k
  have hq : 2 ^ k - 1 < 2 ^ (k + 1) := by have := Nat.pow_lt_pow_right (a := 2) (by decide) (Nat.lt_succ_self k); omega
  rw [show 2 ^ (k + 1) * m + 2 ^ k - 1 = 2 ^ (k + 1) * m + (2 ^ k - 1) by omega]
  apply Nat.eq_of_testBit_eq
  intro i
  rw [Nat.testBit_and, odd_bits, Nat.testBit_two_pow_mul_add m hq]
  have e0 : (2 ^ (k + 1) * m).testBit i = (2 ^ (k + 1) * m + 0).testBit i := congrArg (fun z => z.testBit i) (Nat.add_zero _).symm
  rw [e0, Nat.testBit_two_pow_mul_add m (Nat.two_pow_pos _), Nat.zero_testBit, Nat.testBit_two_pow_sub_one]
  split
  · by_cases e : k = i
    · subst e; simp
    · simp [e]
  · simp
/-- The least bit, and what is left without it. -/
theorem idx_cons (k m : Nat) (h : 2 ^ (k + 1) * m + 2 ^ k < 16777216) : idx (2 ^ (k + 1) * m + 2 ^ k) = k :: idx (2 ^ (k + 1) * m) := by
  have h2 : 2 ^ (k + 1) * m < 16777216 := Nat.lt_of_le_of_lt (Nat.le_add_right _ _) h
  have hz : ∀ i, (2 ^ (k + 1) * m).testBit i = if i < k + 1 then false else m.testBit (i - (k + 1)) := fun i => by
    have e0 : (2 ^ (k + 1) * m).testBit i = (2 ^ (k + 1) * m + 0).testBit i := congrArg (fun z => z.testBit i) (Nat.add_zero _).symm
    rw [e0, Nat.testBit_two_pow_mul_add m (Nat.two_pow_pos _), Nat.zero_testBit]
  refine asc_eq (idx_asc _) ?_ fun i => ?_
  · rw [List.pairwise_cons]
    refine ⟨fun i hi => ?_, idx_asc _⟩
    have := (idx_lt hi).2
    rw [hz] at this
    split at this
    · cases this
    · omega
  · rw [mem_idx h, List.mem_cons, mem_idx h2, hz, odd_bits]
    split
    · constructor
      · intro e; exact .inl (of_decide_eq_true e).symm
      · rintro (e | e)
        · exact decide_eq_true e.symm
        · cases e
    · constructor
      · exact .inr
      · rintro (e | e)
        · omega
        · exact e
theorem idx_zero : idx 0 = [] := by
  unfold idx
  rw [List.filter_eq_nil_iff]
  intro i _
  simp
theorem idx_pos {x : Nat} (hx : x < 16777216) (h : idx x = []) : x = 0 := bits_ext hx (by decide) (by rw [h, idx_zero])

/-- The least bit of 32, as the library finds it. -/
theorem neg_and (k m : Nat) (h : 2 ^ (k + 1) * m + 2 ^ k < 4294967296) : (2 ^ (k + 1) * m + 2 ^ k) &&& (4294967296 - (2 ^ (k + 1) * m + 2 ^ k)) = 2 ^ k := by
  have hk : k < 32 := by
    rcases Nat.lt_or_ge k 32 with h1 | h1
    · exact h1
    · have := Nat.pow_le_pow_right (n := 2) (by decide) (i := 32) h1; omega
  have hp2 : 2 ^ (k + 1) * 2 ^ (31 - k) = 4294967296 := by rw [← Nat.pow_add, show k + 1 + (31 - k) = 32 by omega]
  have hm : m < 2 ^ (31 - k) := by
    rcases Nat.lt_or_ge m (2 ^ (31 - k)) with h1 | h1
    · exact h1
    · have := Nat.mul_le_mul_left (2 ^ (k + 1)) h1; rw [hp2] at this; have := Nat.two_pow_pos k; omega
  have hd : 2 ^ (k + 1) = 2 ^ k + 2 ^ k := by rw [Nat.pow_succ]; omega
  have e1 : 4294967296 - (2 ^ (k + 1) * m + 2 ^ k) = 2 ^ (k + 1) * (2 ^ (31 - k) - (m + 1)) + 2 ^ k := by
    have : 2 ^ (k + 1) * (2 ^ (31 - k) - (m + 1)) + 2 ^ (k + 1) * (m + 1) = 4294967296 := by
      rw [← Nat.mul_add, Nat.sub_add_cancel (by omega), hp2]
    rw [Nat.mul_add, Nat.mul_one] at this
    omega
  rw [e1]
  apply Nat.eq_of_testBit_eq
  intro i
  rw [Nat.testBit_and, odd_bits, odd_bits, Nat.testBit_two_pow]
  split
  · simp
  · rw [Nat.testBit_two_pow_sub_succ hm]
    have : ¬ k = i := by omega
    simp only [this, decide_false]
    cases m.testBit (i - (k + 1)) <;> simp
/-- A mask without the bits of another one. -/
def andN (a b : Nat) : Nat := a ^^^ (a &&& b)
theorem andN_bit (a b i : Nat) : (andN a b).testBit i = (a.testBit i && !b.testBit i) := by
  unfold andN
  rw [Nat.testBit_xor, Nat.testBit_and]
  cases a.testBit i <;> cases b.testBit i <;> rfl
theorem lt_of_bits {x n : Nat} (h : ∀ i, n ≤ i → x.testBit i = false) : x < 2 ^ n := Nat.lt_pow_two_of_testBit x h
theorem bit_of_lt {x n i : Nat} (h : x < 2 ^ n) (hi : n ≤ i) : x.testBit i = false := Nat.testBit_lt_two_pow (Nat.lt_of_lt_of_le h (Nat.pow_le_pow_right (by decide) hi))
theorem andN_lt {a b n : Nat} (h : a < 2 ^ n) : andN a b < 2 ^ n := lt_of_bits fun i hi => by rw [andN_bit, bit_of_lt h hi]; rfl
theorem full_bit (n i : Nat) : (2 ^ n - 1).testBit i = decide (i < n) := Nat.testBit_two_pow_sub_one n i
theorem bit_or_pow (x i j : Nat) : (x ||| 2 ^ i).testBit j = (x.testBit j || decide (i = j)) := by rw [Nat.testBit_or, Nat.testBit_two_pow]
end Go.Proofs.YtgeldpkopolnfaaDoor
