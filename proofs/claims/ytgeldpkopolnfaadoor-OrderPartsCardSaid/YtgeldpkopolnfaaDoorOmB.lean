/- Closed sets of masks, plain mathematics. -/
import Derived.Test.YtgeldpkopolnfaaDoorNdW
import Derived.Test.YtgeldpkopolnfaaDoorOmA
namespace Go.Proofs.YtgeldpkopolnfaaDoor
set_option linter.all false

/-- Requirements that are valid. -/
structure Ok (n : Nat) (L : List (Int × Int)) : Prop where
  inn : Inn n L
  acy : ∀ i, i < n → ¬ Way L i i
theorem Ok.ne {n : Nat} {L : List (Int × Int)} (h : Ok n L) {r : Int × Int} (hr : r ∈ L) : r.1 ≠ r.2 := by
  intro e
  obtain ⟨h1, h2, h3, h4⟩ := h.inn r hr
  obtain ⟨a, b⟩ := r
  simp only at e h1 h2 h3 h4
  subst e
  obtain ⟨i, rfl⟩ := Int.eq_ofNat_of_zero_le h1
  exact h.acy i (by omega) (.one hr)
/-- A mask that has with each Then its First. -/
def ClM (L : List (Int × Int)) (x : Nat) : Prop := ∀ r ∈ L, x.testBit r.2.toNat = true → x.testBit r.1.toNat = true
/-- What can be added. -/
def Rdy (n : Nat) (L : List (Int × Int)) (s i : Nat) : Prop := i < n ∧ s.testBit i = false ∧ ∀ r ∈ L, r.2.toNat = i → s.testBit r.1.toNat = true

/-- Among some numbers below n, one that leads to no other of them. -/
theorem exists_top (n : Nat) (R : Nat → Nat → Prop) (ht : ∀ a b c, R a b → R b c → R a c) (hi : ∀ a, a < n → ¬ R a a) (P : Nat → Prop) (i : Nat) (h : i < n) (hP : P i) :
    ∃ i, i < n ∧ P i ∧ ∀ j, j < n → P j → ¬ R i j := by
  classical
  let f : Nat → Nat := fun a => ((List.range n).filter fun k => decide (R a k)).length
  have key : ∀ m i, f i = m → i < n → P i → ∃ i, i < n ∧ P i ∧ ∀ j, j < n → P j → ¬ R i j := by
    intro m
    induction m using Nat.strongRecOn with
    | _ m ih =>
      intro i hm hin hPi
      by_cases hc : ∃ j, j < n ∧ P j ∧ R i j
      · obtain ⟨j, hj, hPj, hR⟩ := hc
        refine ih (f j) ?_ j rfl hj hPj
        rw [← hm]
        have hsub : ((List.range n).filter fun k => decide (R j k)).Sublist ((List.range n).filter fun k => decide (R i k)) := by
          have : (fun k => decide (R j k)) = fun k => decide (R j k) && decide (R i k) := by
            funext k
            by_cases e : R j k
            · simp [e, ht _ _ _ hR e]
            · simp [e]
          rw [this, ← List.filter_filter]
          exact List.filter_sublist
        rcases Nat.lt_or_ge (f j) (f i) with h | h
        · exact h
        · have he := hsub.eq_of_length_le h
          have hmem : j ∈ (List.range n).filter fun k => decide (R i k) := by simp [hj, hR]
          rw [← he] at hmem
          simp at hmem
          exact absurd hmem.2 (hi j hj)
      · exact ⟨i, hin, hPi, fun j hj hPj hR => hc ⟨j, hj, hPj, hR⟩⟩
  exact key _ i rfl h hP
section
variable {n : Nat} {L : List (Int × Int)}
theorem way_of_mem (h : Inn n L) {r : Int × Int} (hr : r ∈ L) : Way L r.1.toNat r.2.toNat := by
  obtain ⟨h1, h2, h3, h4⟩ := h r hr
  apply Way.one
  rw [Int.toNat_of_nonneg h1, Int.toNat_of_nonneg h3]
  exact hr
/-- What is closed and not empty stays closed without one of its indices. -/
theorem removable (h : Ok n L) {x : Nat} (hx : x < 2 ^ n) (hc : ClM L x) (h0 : x ≠ 0) : ∃ i, i < n ∧ x.testBit i = true ∧ ∀ r ∈ L, r.1.toNat = i → x.testBit r.2.toNat = false := by
  have hex : ∃ i, x.testBit i = true := Nat.exists_testBit_of_ne_zero h0
  obtain ⟨i, hi⟩ := hex
  have hin : i < n := by
    rcases Nat.lt_or_ge i n with h1 | h1
    · exact h1
    · rw [bit_of_lt hx h1] at hi; cases hi
  obtain ⟨t, ht, hP, hm⟩ := exists_top n (Way L) (fun _ _ _ => Way.trans) h.acy (fun i => x.testBit i = true) i hin hi
  refine ⟨t, ht, hP, fun r hr e => ?_⟩
  obtain ⟨h1, h2, h3, h4⟩ := h.inn r hr
  cases hb : x.testBit r.2.toNat
  · rfl
  · have := hm r.2.toNat (by omega) hb
    rw [← e] at this
    exact absurd (way_of_mem h.inn hr) this
/-- To what is closed and not all one more index can be added. -/
theorem addable (h : Ok n L) {x : Nat} {i : Nat} (hin : i < n) (hi : x.testBit i = false) : ∃ i, Rdy n L x i := by
  obtain ⟨t, ht, hP, hm⟩ := exists_top n (fun a b => Way L b a) (fun _ _ _ h1 h2 => h2.trans h1) h.acy (fun i => x.testBit i = false) i hin hi
  refine ⟨t, ht, hP, fun r hr e => ?_⟩
  obtain ⟨h1, h2, h3, h4⟩ := h.inn r hr
  cases hb : x.testBit r.1.toNat
  · have := hm r.1.toNat (by omega) hb
    rw [← e] at this
    exact absurd (way_of_mem h.inn hr) this
  · rfl
theorem cl_zero (L : List (Int × Int)) : ClM L 0 := fun r _ h => by simp at h
theorem or_lt {x i : Nat} (hx : x < 2 ^ n) (hi : i < n) : x ||| 2 ^ i < 2 ^ n := Nat.or_lt_two_pow hx (Nat.pow_lt_pow_right (by decide) hi)
theorem cl_add (h : Ok n L) {x i : Nat} (hc : ClM L x) (hr : Rdy n L x i) : ClM L (x ||| 2 ^ i) := by
  intro r hrm h2
  rw [bit_or_pow] at h2 ⊢
  rcases Bool.or_eq_true_iff.1 h2 with h3 | h3
  · rw [hc r hrm h3]; rfl
  · rw [hr.2.2 r hrm (of_decide_eq_true h3).symm]; rfl
/-- A mask without one bit. -/
def del (x i : Nat) : Nat := andN x (2 ^ i)
theorem del_bit (x i j : Nat) : (del x i).testBit j = (x.testBit j && !decide (i = j)) := by unfold del; rw [andN_bit, Nat.testBit_two_pow]
theorem del_add {x i : Nat} (h : x.testBit i = true) : del x i ||| 2 ^ i = x := by
  apply Nat.eq_of_testBit_eq
  intro j
  rw [bit_or_pow, del_bit]
  by_cases e : i = j
  · subst e; simp [h]
  · simp [e]
theorem add_del {x i : Nat} (h : x.testBit i = false) : del (x ||| 2 ^ i) i = x := by
  apply Nat.eq_of_testBit_eq
  intro j
  rw [del_bit, bit_or_pow]
  by_cases e : i = j
  · subst e; simp [h]
  · simp [e]
theorem cl_del {x i : Nat} (hc : ClM L x) (h : ∀ r ∈ L, r.1.toNat = i → x.testBit r.2.toNat = false) : ClM L (del x i) := by
  intro r hr h2
  rw [del_bit] at h2 ⊢
  rw [Bool.and_eq_true] at h2
  rw [hc r hr h2.1]
  have : ¬ i = r.1.toNat := fun e => by rw [h r hr e.symm] at h2; exact absurd h2.1 (by simp)
  simp [this]
theorem del_rdy (h : Ok n L) {x i : Nat} (hc : ClM L x) (hi : i < n) (hb : x.testBit i = true) : Rdy n L (del x i) i := by
  refine ⟨hi, by rw [del_bit]; simp, fun r hr e => ?_⟩
  rw [del_bit]
  have h1 := hc r hr (by rw [e]; exact hb)
  have : ¬ i = r.1.toNat := fun e2 => h.ne hr (by obtain ⟨a1, a2, a3, a4⟩ := h.inn r hr; omega)
  simp [h1, this]
/-- How many bits a mask has. -/
def pc (x : Nat) : Nat := (idx x).length
theorem pc_add {x i : Nat} (hx : x < 16777216) (hi : i < 24) (h : x.testBit i = false) : pc (x ||| 2 ^ i) = pc x + 1 := by
  have hy : x ||| 2 ^ i < 16777216 := Nat.or_lt_two_pow (n := 24) hx (Nat.pow_lt_pow_right (by decide) hi)
  have hp : (idx (x ||| 2 ^ i)).Perm (i :: idx x) := by
    rw [List.perm_ext_iff_of_nodup (idx_nodup _) (List.nodup_cons.2 ⟨fun hm => absurd ((mem_idx hx).1 hm) (by rw [h]; simp), idx_nodup _⟩)]
    intro j
    rw [mem_idx hy, bit_or_pow, List.mem_cons, mem_idx hx, Bool.or_eq_true_iff, decide_eq_true_iff]
    constructor
    · rintro (h | h)
      · exact .inr h
      · exact .inl h.symm
    · rintro (h | h)
      · exact .inr h.symm
      · exact .inl h
  unfold pc
  rw [hp.length_eq]; rfl
theorem pc_del {x i : Nat} (hx : x < 16777216) (h : x.testBit i = true) : pc x = pc (del x i) + 1 := by
  have hi : i < 24 := by
    rcases Nat.lt_or_ge i 24 with h1 | h1
    · exact h1
    · rw [bit_of_lt (n := 24) hx h1] at h; cases h
  have := pc_add (x := del x i) (i := i) (andN_lt (n := 24) hx) hi (by rw [del_bit]; simp)
  rwa [del_add h] at this
theorem nodup_lt_length : ∀ (m : Nat) (l : List Nat), l.Nodup → (∀ x ∈ l, x < m) → l.length ≤ m := by
  intro m
  induction m with
  | zero => intro l _ h; cases l with
    | nil => exact Nat.le_refl _
    | cons x l => have := h x (by simp); omega
  | succ m ih =>
    intro l hn h
    have h1 := ih (l.erase m) (hn.erase m) fun x hx => by
      have hx' := (hn.mem_erase_iff).1 hx
      have := h x hx'.2
      have := hx'.1
      omega
    by_cases hm : m ∈ l
    · rw [List.length_erase_of_mem hm] at h1; omega
    · rw [List.erase_of_not_mem hm] at h1; omega
theorem pc_le {x : Nat} (hx : x < 2 ^ n) : pc x ≤ n :=
  nodup_lt_length n _ (idx_nodup x) fun i hi => by
    rcases Nat.lt_or_ge i n with h1 | h1
    · exact h1
    · have := (idx_lt hi).2; rw [bit_of_lt hx h1] at this; cases this

/-- The closed sets of k indices, in some order. -/
def Lev (n : Nat) (L : List (Int × Int)) (k : Nat) (M : List Nat) : Prop := M.Nodup ∧ ∀ x, x ∈ M ↔ x < 2 ^ n ∧ ClM L x ∧ pc x = k
/-- All of at most so many. -/
def Lo (n : Nat) (L : List (Int × Int)) (k : Nat) (M : List Nat) : Prop := M.Nodup ∧ ∀ x, x ∈ M ↔ x < 2 ^ n ∧ ClM L x ∧ pc x < k
theorem pc_zero : pc 0 = 0 := by unfold pc; rw [idx_zero]; rfl
theorem lev_zero (h : n ≤ 24) : Lev n L 0 [0] := by
  refine ⟨by simp, fun x => ?_⟩
  rw [List.mem_singleton]
  constructor
  · rintro rfl
    exact ⟨Nat.two_pow_pos n, cl_zero L, pc_zero⟩
  · rintro ⟨h1, h2, h3⟩
    have hx : x < 16777216 := Nat.lt_of_lt_of_le h1 (Nat.pow_le_pow_right (n := 2) (by decide) (j := 24) h)
    exact idx_pos hx (List.length_eq_zero_iff.1 h3)
theorem lo_zero : Lo n L 0 [] := ⟨by simp, fun x => by simp⟩
theorem lo_next {k : Nat} {A M : List Nat} (h : Lo n L k A) (h2 : Lev n L k M) : Lo n L (k + 1) (A ++ M) := by
  refine ⟨?_, fun x => ?_⟩
  · rw [List.nodup_append]
    refine ⟨h.1, h2.1, fun a ha b hb e => ?_⟩
    have h3 := ((h.2 a).1 ha).2.2
    have h4 := ((h2.2 b).1 hb).2.2
    rw [e] at h3; omega
  · rw [List.mem_append, h.2, h2.2]
    constructor
    · rintro (⟨h1, h2, h3⟩ | ⟨h1, h2, h3⟩)
      · exact ⟨h1, h2, by omega⟩
      · exact ⟨h1, h2, by omega⟩
    · rintro ⟨h1, h2, h3⟩
      by_cases e : pc x < k
      · exact .inl ⟨h1, h2, e⟩
      · exact .inr ⟨h1, h2, by omega⟩
theorem lev_next (hn : n ≤ 24) (h : Ok n L) {k : Nat} {M N : List Nat} (hM : Lev n L k M) (hN : N.Nodup) (hm : ∀ t, t ∈ N ↔ ∃ s ∈ M, ∃ i, Rdy n L s i ∧ t = s ||| 2 ^ i) : Lev n L (k + 1) N := by
  have h24 : ∀ x, x < 2 ^ n → x < 16777216 := fun x h1 => Nat.lt_of_lt_of_le h1 (Nat.pow_le_pow_right (n := 2) (by decide) (j := 24) hn)
  refine ⟨hN, fun t => ?_⟩
  rw [hm]
  constructor
  · rintro ⟨s, hs, i, hr, rfl⟩
    obtain ⟨h1, h2, h3⟩ := (hM.2 s).1 hs
    exact ⟨or_lt h1 hr.1, cl_add h h2 hr, by rw [pc_add (h24 _ h1) (by have := hr.1; omega) hr.2.1, h3]⟩
  · rintro ⟨h1, h2, h3⟩
    have ht0 : t ≠ 0 := by rintro rfl; rw [pc_zero] at h3; omega
    obtain ⟨i, hi, hb, hmx⟩ := removable h h1 h2 ht0
    refine ⟨del t i, (hM.2 _).2 ⟨andN_lt h1, cl_del h2 hmx, ?_⟩, i, del_rdy h h2 hi hb, (del_add hb).symm⟩
    have := pc_del (h24 _ h1) hb
    omega
/-- If there are none of k indices there are none of more. -/
theorem lo_done (hn : n ≤ 24) (h : Ok n L) {k : Nat} {A : List Nat} (hA : Lo n L k A) (hM : Lev n L k []) : A.Nodup ∧ ∀ x, x ∈ A ↔ x < 2 ^ n ∧ ClM L x := by
  have h24 : ∀ x, x < 2 ^ n → x < 16777216 := fun x h1 => Nat.lt_of_lt_of_le h1 (Nat.pow_le_pow_right (n := 2) (by decide) (j := 24) hn)
  have key : ∀ d x, pc x = k + d → x < 2 ^ n → ClM L x → False := by
    intro d
    induction d with
    | zero => intro x h1 h2 h3; have := (hM.2 x).2 ⟨h2, h3, h1⟩; cases this
    | succ d ih =>
      intro x h1 h2 h3
      have ht0 : x ≠ 0 := by rintro rfl; rw [pc_zero] at h1; omega
      obtain ⟨i, hi, hb, hmx⟩ := removable h h2 h3 ht0
      have := pc_del (h24 _ h2) hb
      exact ih (del x i) (by omega) (andN_lt h2) (cl_del h3 hmx)
  refine ⟨hA.1, fun x => ?_⟩
  rw [hA.2]
  constructor
  · rintro ⟨h1, h2, _⟩; exact ⟨h1, h2⟩
  · rintro ⟨h1, h2⟩
    refine ⟨h1, h2, ?_⟩
    rcases Nat.lt_or_ge (pc x) k with h3 | h3
    · exact h3
    · exact (key (pc x - k) x (by omega) h1 h2).elim
theorem lo_length {k : Nat} {A : List Nat} (hA : Lo n L k A) : A.length ≤ 2 ^ n := nodup_lt_length _ _ hA.1 fun x hx => ((hA.2 x).1 hx).1
theorem lev_empty {k : Nat} {M : List Nat} (hM : Lev n L k M) (hk : n < k) : M = [] := by
  cases M with
  | nil => rfl
  | cons x M =>
    obtain ⟨h1, h2, h3⟩ := (hM.2 x).1 (by simp)
    have := pc_le h1
    omega
end
end Go.Proofs.YtgeldpkopolnfaaDoor
