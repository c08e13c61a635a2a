/- What the bytes of a journal say: plain mathematics. -/
import Derived.Test.YtogcpjkgliijmaaEnc
import Derived.Test.YtogcpjkgliijmaaGood
namespace Go.Proofs.Ytogcpjkgliijmaa

def valS (l : List UInt8) : Nat := l.foldl (fun n b => n * 256 + b.toNat) 0
theorem valS_snoc (l : List UInt8) (b : UInt8) : valS (l ++ [b]) = valS l * 256 + b.toNat := by simp [valS]

theorem valS_lt : ∀ (n : Nat) (l : List UInt8), l.length = n → valS l < 256 ^ n := by
  intro n
  induction n with
  | zero => intro l hl; rw [List.length_eq_zero_iff.1 hl]; decide
  | succ n ih =>
    intro l hl
    rcases List.eq_nil_or_concat l with h | ⟨i, b, h⟩
    · subst h; simp at hl
    · rw [List.concat_eq_append] at h
      subst h
      have h1 := ih i (by simpa using hl)
      have h2 := b.toNat_lt
      rw [valS_snoc, Nat.pow_succ]; omega

theorem valS_inj : ∀ (n : Nat) (l l' : List UInt8), l.length = n → l'.length = n → valS l = valS l' → l = l' := by
  intro n
  induction n with
  | zero => intro l l' hl hl' _; rw [List.length_eq_zero_iff.1 hl, List.length_eq_zero_iff.1 hl']
  | succ n ih =>
    intro l l' hl hl' e
    rcases List.eq_nil_or_concat l with h | ⟨i, b, h⟩
    · subst h; simp at hl
    rcases List.eq_nil_or_concat l' with h' | ⟨i', b', h'⟩
    · subst h'; simp at hl'
    rw [List.concat_eq_append] at h h'
    subst h; subst h'
    rw [valS_snoc, valS_snoc] at e
    have h1 := b.toNat_lt
    have h2 := b'.toNat_lt
    have hb : b = b' := UInt8.toNat_inj.1 (by omega)
    rw [ih i i' (by simpa using hl) (by simpa using hl') (by omega), hb]

def beS (n : Int) : Nat → List UInt8
  | 0 => []
  | m + 1 => beS (n / 256) m ++ [byteOf n]
theorem beS_len (m : Nat) : ∀ n : Int, (beS n m).length = m := by
  induction m with
  | zero => intro n; rfl
  | succ m ih => intro n; simp [beS, ih]

theorem byteOf_toNat (n : Int) : ((byteOf n).toNat : Int) = n % 256 := by
  unfold byteOf
  have h1 : 0 ≤ n % 256 := Int.emod_nonneg _ (by omega)
  have h2 : n % 256 < 256 := Int.emod_lt_of_pos _ (by omega)
  rw [UInt8.toNat_ofNat']
  omega

theorem valS_beS (m : Nat) : ∀ n : Int, 0 ≤ n → n < ((256 ^ m : Nat) : Int) → (valS (beS n m) : Int) = n := by
  induction m with
  | zero => intro n h0 h1; simp at h1; have : n = 0 := by omega
            subst this; rfl
  | succ m ih =>
    intro n h0 h1
    have hp : ((256 ^ (m + 1) : Nat) : Int) = ((256 ^ m : Nat) : Int) * 256 := by rw [Nat.pow_succ, Int.natCast_mul]; rfl
    rw [hp] at h1
    have := ih (n / 256) (by omega) (by omega)
    have hb := byteOf_toNat n
    rw [beS, valS_snoc, Int.natCast_add, Int.natCast_mul]
    omega

def bodyS (d : Dec) : List UInt8 := beS d.day 3 ++ beS d.known 2 ++ beS d.kind 1 ++ beS d.subj 1 ++ beS d.value 1
def encS (d : Dec) : List UInt8 := bodyS d ++ beS (sumS (bodyS d) : Nat) 4
theorem bodyS_len (d : Dec) : (bodyS d).length = 8 := by simp only [bodyS, List.length_append, beS_len]
theorem encS_len (d : Dec) : (encS d).length = 12 := by simp only [encS, List.length_append, bodyS_len, beS_len]
theorem encS_take (d : Dec) : (encS d).take 8 = bodyS d := by rw [encS, List.take_append_of_le_length (by rw [bodyS_len]; exact Nat.le_refl _), List.take_of_length_le (by rw [bodyS_len]; exact Nat.le_refl _)]
theorem encS_drop (d : Dec) : (encS d).drop 8 = beS (sumS (bodyS d) : Nat) 4 := by rw [encS, ← bodyS_len d, List.drop_left]

/-- What twelve bytes say. -/
def fieldsS (b : List UInt8) : Dec := ⟨(valS (b.take 3) : Nat), (valS ((b.drop 3).take 2) : Nat), (valS ((b.drop 5).take 1) : Nat), (valS ((b.drop 6).take 1) : Nat), (valS ((b.drop 7).take 1) : Nat)⟩
def dec12 (b : List UInt8) : Dec × Int := if valS (b.drop 8) = sumS (b.take 8) then (if (fieldsS b).ok = true then (fieldsS b, 0) else (dz, 57)) else (dz, 58)
def decAt (l : List UInt8) (i : Nat) : Dec × Int := if l.length < i + 12 then (dz, 1) else dec12 ((l.drop i).take 12)

theorem fieldsS_enc (d : Dec) (h : d.ok = true) : fieldsS (encS d) = d := by
  obtain ⟨⟨d0, d1⟩, ⟨k0, k1⟩, ⟨n0, n1⟩, ⟨s0, s1⟩, ⟨v0, v1⟩⟩ := validB_true h
  have e1 : (encS d).take 3 = beS d.day 3 := by simp [encS, bodyS, beS]
  have e2 : ((encS d).drop 3).take 2 = beS d.known 2 := by simp [encS, bodyS, beS]
  have e3 : ((encS d).drop 5).take 1 = beS d.kind 1 := by simp [encS, bodyS, beS]
  have e4 : ((encS d).drop 6).take 1 = beS d.subj 1 := by simp [encS, bodyS, beS]
  have e5 : ((encS d).drop 7).take 1 = beS d.value 1 := by simp [encS, bodyS, beS]
  unfold fieldsS
  rw [e1, e2, e3, e4, e5, valS_beS 3 _ d0 (by simp; omega), valS_beS 2 _ k0 (by simp; omega), valS_beS 1 _ (by omega) (by simp; omega), valS_beS 1 _ (by omega) (by simp; omega), valS_beS 1 _ (by omega) (by simp; omega)]

theorem dec12_enc (d : Dec) (h : d.ok = true) : dec12 (encS d) = (d, 0) := by
  have hs := sumS_lt (bodyS d)
  have hv : valS ((encS d).drop 8) = sumS ((encS d).take 8) := by
    rw [encS_drop, encS_take]
    have := valS_beS 4 (sumS (bodyS d) : Nat) (by omega) (by simp; omega)
    omega
  unfold dec12
  rw [if_pos hv, fieldsS_enc d h, if_pos h]

theorem dec12_set (d : Dec) (j : Nat) (c : UInt8) (hj : j < 12) (hc : c ≠ (encS d)[j]'(by rw [encS_len]; exact hj)) : dec12 ((encS d).set j c) = (dz, 58) := by
  have hl := encS_len d
  have hs := sumS_lt (bodyS d)
  have hv : valS ((encS d).drop 8) = sumS ((encS d).take 8) := by
    rw [encS_drop, encS_take]
    have := valS_beS 4 (sumS (bodyS d) : Nat) (by omega) (by simp; omega)
    omega
  unfold dec12
  rw [if_neg]
  intro e
  by_cases h8 : j < 8
  · rw [List.drop_set_of_lt h8, List.take_set, hv] at e
    have := sumS_set ((encS d).take 8) j c (by rw [encS_take, bodyS_len]; exact h8) (by simpa using hc)
    exact this e.symm
  · have e2 : ((encS d).set j c).take 8 = (encS d).take 8 := by rw [List.take_set, List.set_eq_of_length_le (by rw [encS_take, bodyS_len]; omega)]
    rw [e2, ← hv] at e
    have h3 := valS_inj 4 _ _ (by simp [hl]) (by simp [hl]) e
    have h4 := congrArg (fun l => l[j - 8]?) h3
    simp only [List.getElem?_drop] at h4
    rw [show 8 + (j - 8) = j by omega, List.getElem?_set_self (by omega), List.getElem?_eq_getElem (by omega)] at h4
    exact hc (by simpa using h4)

/-- The bytes of decisions. -/
def flatE (l : List Dec) : List UInt8 := l.flatMap encS
theorem flatE_len (l : List Dec) : (flatE l).length = 12 * l.length := by
  induction l with
  | nil => rfl
  | cons d l ih => simp only [flatE, List.flatMap_cons, List.length_append, List.length_cons, encS_len] at ih ⊢; omega
theorem flatE_snoc (l : List Dec) (d : Dec) : flatE (l ++ [d]) = flatE l ++ encS d := by simp [flatE]
theorem flatE_append (l l' : List Dec) : flatE (l ++ l') = flatE l ++ flatE l' := by simp [flatE]
theorem flatE_part (l : List Dec) : ∀ j (h : j < l.length), ((flatE l).drop (12 * j)).take 12 = encS l[j] := by
  induction l with
  | nil => intro j h; simp at h
  | cons d l ih =>
    intro j h
    have e : flatE (d :: l) = encS d ++ flatE l := by simp [flatE]
    rw [e]
    cases j with
    | zero => rw [Nat.mul_zero, List.drop_zero, List.take_append_of_le_length (by rw [encS_len]; exact Nat.le_refl _), List.take_of_length_le (by rw [encS_len]; exact Nat.le_refl _)]; rfl
    | succ j =>
      have := ih j (by simpa using h)
      rw [show 12 * (j + 1) = (encS d).length + 12 * j by rw [encS_len]; omega, ← List.drop_drop, List.drop_left]
      simpa using this

/-- What Open reads. -/
def OpenAs (l : List UInt8) (ds : List Dec) : Prop := (∀ j (h : j < ds.length), decAt l (12 * j) = (ds[j], 0)) ∧ (decAt l (12 * ds.length)).2 ≠ 0

theorem openAs_nil : OpenAs [] [] := ⟨fun j h => by simp at h, by decide⟩

theorem decAt_flat {l : List Dec} (hg : ∀ i (h : i < l.length), l[i].ok = true) (j : Nat) (h : j < l.length) : decAt (flatE l) (12 * j) = (l[j], 0) := by
  unfold decAt
  rw [if_neg (by rw [flatE_len]; omega), flatE_part l j h, dec12_enc _ (hg j h)]

theorem openAs_flat {l : List Dec} (hg : ∀ i (h : i < l.length), l[i].ok = true) : OpenAs (flatE l) l := by
  refine ⟨fun j h => decAt_flat hg j h, ?_⟩
  unfold decAt
  rw [if_pos (by rw [flatE_len]; omega)]
  decide

theorem decAt_changed {l : List Dec} (i : Nat) (c : UInt8) (hi : i < 12 * l.length) (hc : c ≠ (flatE l)[i]'(by rw [flatE_len]; exact hi)) :
    decAt ((flatE l).set i c) (12 * (i / 12)) = (dz, 58) := by
  have hm : i / 12 < l.length := by omega
  have hp := flatE_part l (i / 12) hm
  have hr : ((((flatE l).set i c).drop (12 * (i / 12))).take 12) = (encS l[i / 12]).set (i % 12) c := by
    rw [← hp, List.drop_set, if_neg (by omega), List.take_set, show i - 12 * (i / 12) = i % 12 by omega]
  unfold decAt
  rw [if_neg (by rw [List.length_set, flatE_len]; omega), hr]
  refine dec12_set _ _ _ (by omega) ?_
  intro e
  refine hc (e.trans ?_)
  have h2 : (encS l[i / 12])[i % 12]? = (((flatE l).drop (12 * (i / 12))).take 12)[i % 12]? := by rw [hp]
  rw [List.getElem?_take_of_lt (by omega), List.getElem?_drop, show 12 * (i / 12) + i % 12 = i by omega, List.getElem?_eq_getElem (by rw [encS_len]; omega), List.getElem?_eq_getElem (by rw [flatE_len]; omega)] at h2
  injection h2

theorem openAs_changed {l : List Dec} (hg : ∀ i (h : i < l.length), l[i].ok = true) (i : Nat) (c : UInt8) (hi : i < 12 * l.length) (hc : c ≠ (flatE l)[i]'(by rw [flatE_len]; exact hi)) :
    OpenAs ((flatE l).set i c) (l.take (i / 12)) := by
  have hlen : (l.take (i / 12)).length = i / 12 := by simp; omega
  refine ⟨fun j hj => ?_, ?_⟩
  · rw [hlen] at hj
    have e : (l.take (i / 12))[j]'(by omega) = l[j]'(by omega) := by simp
    have e2 : (((flatE l).set i c).drop (12 * j)).take 12 = ((flatE l).drop (12 * j)).take 12 := by
      rw [List.drop_set, if_neg (by omega), List.take_set, List.set_eq_of_length_le (by simp; omega)]
    rw [e, ← decAt_flat hg j (by omega)]
    unfold decAt
    rw [List.length_set, e2]
  · rw [hlen, decAt_changed i c hi hc]; decide
end Go.Proofs.Ytogcpjkgliijmaa
