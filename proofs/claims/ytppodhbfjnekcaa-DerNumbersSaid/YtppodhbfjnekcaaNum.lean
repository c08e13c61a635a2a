/- Numbers in two's complement as bytes: plain mathematics. -/
import Derived.RowKit
import Derived.Laws.Entries
import Derived.Laws.BitsLemmas
namespace Go.Proofs.Ytppodhbfjnekcaa
open Go.RowKit

def byteOf (n : Int) : UInt8 := UInt8.ofNat (n % 256).toNat

theorem byteOf_toNat (n : Int) : ((byteOf n).toNat : Int) = n % 256 := by
  unfold byteOf
  rw [UInt8.toNat_ofNat']
  omega

/-- The bytes of a number, the lowest first. -/
def leB (n : Int) : List UInt8 := if -128 ≤ n ∧ n ≤ 127 then [byteOf n] else byteOf n :: leB (n / 256)
  termination_by n.natAbs
  decreasing_by omega

theorem leB_short {n : Int} (h : -128 ≤ n ∧ n ≤ 127) : leB n = [byteOf n] := by rw [leB, if_pos h]
theorem leB_long {n : Int} (h : ¬ (-128 ≤ n ∧ n ≤ 127)) : leB n = byteOf n :: leB (n / 256) := by rw [leB, if_neg h]

theorem leB_ne (n : Int) : 0 < (leB n).length := by
  by_cases h : -128 ≤ n ∧ n ≤ 127
  · rw [leB_short h]; simp
  · rw [leB_long h]; simp

theorem leB_len (k : Nat) : ∀ n : Int, -(128 * 256 ^ k) ≤ n → n < 128 * 256 ^ k → (leB n).length ≤ k + 1 := by
  induction k with
  | zero => intro n h1 h2; rw [leB_short (by omega)]; simp
  | succ k ih =>
    intro n h1 h2
    by_cases h : -128 ≤ n ∧ n ≤ 127
    · rw [leB_short h]; simp
    · rw [leB_long h]
      have h3 : (256 : Int) ^ (k + 1) = 256 ^ k * 256 := by rw [Int.pow_succ]
      rw [h3] at h1 h2
      have := ih (n / 256) (by omega) (by omega)
      simpa using this

theorem leB_len8 (n : Int) (h1 : -9223372036854775808 ≤ n) (h2 : n ≤ 9223372036854775807) : (leB n).length ≤ 8 :=
  leB_len 7 n (by simp; omega) (by simp; omega)

/-- 'n << 8 | b' as the walk has it. -/
def numStep (r : Int) (b : UInt8) : Int := bits BinOp.or IntKind.i64 (wrap64 (r * 256)) (wrap64 (b.toNat : Int))

theorem wrap64_id {n : Int} (h1 : -9223372036854775808 ≤ n) (h2 : n ≤ 9223372036854775807) : wrap64 n = n := by unfold wrap64; omega

theorem or_bv (q : Int) (b : Nat) (hb : b < 256) : BitVec.ofInt 64 (q * 256) ||| BitVec.ofInt 64 (b : Int) = BitVec.ofInt 64 (q * 256 + b) := by
  have h1 : BitVec.ofInt 64 (q * 256) = (BitVec.ofInt 64 q) <<< 8 := by
    rw [BitVec.shiftLeft_eq_mul_twoPow, BitVec.ofInt_mul]
    rfl
  have h2 : BitVec.ofInt 64 (q * 256) &&& BitVec.ofInt 64 (b : Int) = 0#64 := by
    rw [h1]
    apply BitVec.eq_of_getElem_eq
    intro i hi
    by_cases h8 : i < 8
    · simp [h8]
    · have : (BitVec.ofNat 64 b)[i] = false := by
        rw [← BitVec.getLsbD_eq_getElem, BitVec.getLsbD_ofNat, Nat.testBit_lt_two_pow (Nat.lt_of_lt_of_le (show b < 2 ^ 8 from hb) (Nat.pow_le_pow_right (by omega) (by omega)))]
        simp
      simp [this]
  rw [BitVec.ofInt_add, BitVec.add_eq_or_of_and_eq_zero _ _ h2]

theorem numStep_val {q : Int} (b : UInt8) (h1 : -36028797018963968 ≤ q) (h2 : q ≤ 36028797018963967) : numStep q b = q * 256 + b.toNat := by
  have hb := b.toNat_lt
  unfold numStep
  rw [wrap64_id (by omega) (by omega), wrap64_id (by omega) (by omega)]
  show IntKind.i64.wrap (BitVec.ofInt 64 (q * 256) ||| BitVec.ofInt 64 (b.toNat : Int)).toNat = _
  rw [or_bv q b.toNat hb, BitVec.toNat_ofInt, IntKind.wrap_i64]
  omega

/-- The number of bytes, the highest first. -/
def numOf (l : List UInt8) : Int := l.foldl numStep (if 128 ≤ (l.getD 0 0).toNat then -1 else 0)

theorem foldl_snoc (l : List UInt8) (b : UInt8) (s : Int) : (l ++ [b]).foldl numStep s = numStep (l.foldl numStep s) b := by simp

/-- The sign of a number, as the byte that all higher ones are. -/
def sgn (n : Int) : Int := if n < 0 then -1 else 0

theorem leB_fold (n : Int) (h1 : -9223372036854775808 ≤ n) (h2 : n ≤ 9223372036854775807) : (leB n).reverse.foldl numStep (sgn n) = n := by
  rw [leB]
  by_cases h : -128 ≤ n ∧ n ≤ 127
  · rw [if_pos h]
    show numStep (sgn n) (byteOf n) = n
    have hs : sgn n = n / 256 := by unfold sgn; split <;> omega
    rw [hs, numStep_val _ (by omega) (by omega), byteOf_toNat]
    omega
  · rw [if_neg h, List.reverse_cons, foldl_snoc]
    have hs : sgn n = sgn (n / 256) := by unfold sgn; split <;> split <;> omega
    rw [hs, leB_fold (n / 256) (by omega) (by omega), numStep_val _ (by omega) (by omega), byteOf_toNat]
    omega
  termination_by n.natAbs
  decreasing_by omega

theorem leB_last (n : Int) : 128 ≤ ((leB n).reverse.getD 0 0).toNat ↔ n < 0 := by
  rw [leB]
  by_cases h : -128 ≤ n ∧ n ≤ 127
  · rw [if_pos h]
    have := byteOf_toNat n
    simp
    omega
  · rw [if_neg h, List.reverse_cons]
    have h3 := leB_last (n / 256)
    have hl : 0 < (leB (n / 256)).reverse.length := by rw [List.length_reverse]; exact leB_ne _
    have e : ((leB (n / 256)).reverse ++ [byteOf n]).getD 0 0 = (leB (n / 256)).reverse.getD 0 0 := by
      simp only [List.getD, List.getElem?_append_left hl]
    rw [e, h3]
    omega
  termination_by n.natAbs
  decreasing_by omega

/-- The bytes of a number, the highest first, as few as possible. -/
def intB (n : Int) : List UInt8 := (leB n).reverse

theorem numOf_intB (n : Int) (h1 : -9223372036854775808 ≤ n) (h2 : n ≤ 9223372036854775807) : numOf (intB n) = n := by
  unfold numOf intB
  have h := leB_last n
  have e : (if 128 ≤ ((leB n).reverse.getD 0 0).toNat then (-1 : Int) else 0) = sgn n := by unfold sgn; simp only [h]
  rw [e]
  exact leB_fold n h1 h2

theorem intB_ne (n : Int) : 0 < (intB n).length := by unfold intB; rw [List.length_reverse]; exact leB_ne n
theorem intB_len8 (n : Int) (h1 : -9223372036854775808 ≤ n) (h2 : n ≤ 9223372036854775807) : (intB n).length ≤ 8 := by unfold intB; rw [List.length_reverse]; exact leB_len8 n h1 h2

theorem numStep_range (r : Int) (b : UInt8) : -9223372036854775808 ≤ numStep r b ∧ numStep r b ≤ 9223372036854775807 := by
  unfold numStep bits
  rw [IntKind.wrap_i64]
  omega

theorem foldl_range : ∀ (l : List UInt8) (s : Int), -9223372036854775808 ≤ s → s ≤ 9223372036854775807 → -9223372036854775808 ≤ l.foldl numStep s ∧ l.foldl numStep s ≤ 9223372036854775807
  | [], s, h1, h2 => ⟨h1, h2⟩
  | b :: l, s, _, _ => foldl_range l (numStep s b) (numStep_range s b).1 (numStep_range s b).2

theorem numOf_range (l : List UInt8) : -9223372036854775808 ≤ numOf l ∧ numOf l ≤ 9223372036854775807 := by
  unfold numOf
  exact foldl_range _ _ (by split <;> omega) (by split <;> omega)

end Go.Proofs.Ytppodhbfjnekcaa
