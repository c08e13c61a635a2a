/- journal.read, and the reference's Sum and number. -/
import Derived.Test.YtogcpjkgliijmaaJMath
import Derived.Laws.BitsLemmas
namespace Go.Proofs.Ytogcpjkgliijmaa
open Go.RowKit

theorem i64_or_nat (a b : Nat) (ha : a < 9223372036854775808) (hb : b < 9223372036854775808) : bits .or .i64 (a : Int) (b : Int) = ((a ||| b : Nat) : Int) := by
  have hx : a ||| b < 2 ^ 63 := Nat.or_lt_two_pow (by omega) (by omega)
  show IntKind.i64.wrap ((BitVec.ofInt 64 (a : Int) ||| BitVec.ofInt 64 (b : Int)).toNat : Int) = _
  rw [BitVec.toNat_or, ofInt_u64 a (by omega), ofInt_u64 b (by omega), IntKind.wrap_i64]
  omega
theorem i64_xor_nat (a b : Nat) (ha : a < 9223372036854775808) (hb : b < 9223372036854775808) : bits .xor .i64 (a : Int) (b : Int) = ((a ^^^ b : Nat) : Int) := by
  have hx : a ^^^ b < 2 ^ 63 := Nat.xor_lt_two_pow (by omega) (by omega)
  show IntKind.i64.wrap ((BitVec.ofInt 64 (a : Int) ^^^ BitVec.ofInt 64 (b : Int)).toNat : Int) = _
  rw [BitVec.toNat_xor, ofInt_u64 a (by omega), ofInt_u64 b (by omega), IntKind.wrap_i64]
  omega
theorem i64_and255 (n : Int) : bits .and .i64 n 255 = n % 256 := by
  have h255 : (BitVec.ofInt 64 255).toNat = 2 ^ 8 - 1 := by decide
  have key : (BitVec.ofInt 64 n &&& BitVec.ofInt 64 255).toNat = (n % ((2 ^ 64 : Nat) : Int)).toNat % 2 ^ 8 := by
    rw [BitVec.toNat_and, BitVec.toNat_ofInt, h255, Nat.and_two_pow_sub_one_eq_mod]
  show IntKind.i64.wrap ((BitVec.ofInt 64 n &&& BitVec.ofInt 64 255).toNat : Nat) = n % 256
  rw [key, IntKind.wrap_i64]
  omega

theorem read_round (v : Nat) (b : UInt8) (h : v < 4294967296) : bits .or .i64 ((v : Int) * 256) (b.toNat : Int) = ((v * 256 + b.toNat : Nat) : Int) := by
  have hb := b.toNat_lt
  have e : (v : Int) * 256 = ((v * 256 : Nat) : Int) := by rw [Int.natCast_mul]; rfl
  rw [e, i64_or_nat _ _ (by omega) (by omega), nat_join 8 (v * 256) b.toNat (by omega) (by omega)]

set_option maxHeartbeats 1000000 in
theorem read_any (w : World) (B o m c : Nat) (l : List UInt8) (hm : l.length = m) (hm4 : m ≤ 4) (h : ∀ j (hj : j < l.length), w.cell? ⟨B, o + j, none⟩ = some (.int .u8 l[j].toNat)) :
    Calls Try.prog 66 #[.slice (some ⟨B, o, none⟩) m c] w fun e w' => e = .returned (.int .i64 (valS l : Nat)) ∧ w' = w := by
  subst hm
  have H := Lib.hid h; clear h
  go_enter Try.func66, Try.ntmps66
  go_wp2_with fail
  go_loop [3, 8] (fun n i => ∃ k : Nat, k ≤ l.length ∧ i = .int .i64 k ∧ n = .int .i64 (valS (l.take k) : Nat)) (fun _ i => l.length - (intOf i).toNat)
  case atStart => exact ⟨0, Nat.zero_le _, rfl, rfl⟩
  case round =>
    obtain ⟨k, hk, rfl, rfl⟩ := hrel
    have hv := valS_lt k (l.take k) (by simp; omega)
    have hv2 : valS (l.take k) < 4294967296 := Nat.lt_of_lt_of_le hv (Nat.pow_le_pow_right (by omega) (show k ≤ 4 by omega))
    by_cases hlt : k < l.length
    · have hc := H.out k hlt
      have hn : valS (l.take (k + 1)) = valS (l.take k) * 256 + l[k].toNat := by rw [List.take_succ_eq_append_getElem hlt, valS_snoc]
      have hr := read_round (valS (l.take k)) l[k] hv2
      rw [← hn] at hr
      have hb := l[k].toNat_lt
      generalize valS (l.take k) = x at *
      have HR := Lib.hid hr
      clear hn hr hv
      go_wp2_with fail
      go_round
      case rel => exact ⟨k + 1, by omega, by go_num, by rw [HR.out]⟩
      case measure => simp [intOf]; omega
    · have hkl : k = l.length := by omega
      have he : l.take k = l := by rw [hkl, List.take_length]
      have HE := Lib.hid he
      clear he
      go_wp2_with fail
      go_ret
      exact ⟨ret_int (by first | rfl | rw [HE.out]), rfl⟩

theorem refsum_round (x : Nat) (b : UInt8) : ((x ^^^ b.toNat : Nat) : Int) * 16777619 % 4294967296 = ((stepS x b : Nat) : Int) := by
  rw [cast_round]; rfl

set_option maxHeartbeats 1000000 in
theorem refsum_any (s : ByteArray) (w : World) (hs : s.size ≤ maxLen) :
    Calls Try.prog 56 #[.string s] w fun e w' => e = .returned (.int .i64 (sumS s.data.toList)) ∧ w' = w := by
  unfold maxLen at hs
  go_enter Try.func56, Try.ntmps56
  go_wp2_with fail
  go_loop [3, 4] (fun h i => ∃ k : Nat, k ≤ s.size ∧ i = .int .i64 k ∧ h = .int .i64 (sumS (s.data.toList.take k) : Nat)) (fun _ i => s.size - (intOf i).toNat)
  case atStart => exact ⟨0, Nat.zero_le _, rfl, by rw [List.take_zero]; rfl⟩
  case round =>
    obtain ⟨k, hk, rfl, rfl⟩ := hrel
    have hx := sumS_lt (s.data.toList.take k)
    by_cases hlt : k < s.size
    · have hn := take_snoc s k hlt
      have hr := refsum_round (sumS (s.data.toList.take k)) s[k]
      have hy := xor_byte_lt (sumS (s.data.toList.take k)) s[k] hx
      have hb := s[k].toNat_lt
      have hq := i64_xor_nat (sumS (s.data.toList.take k)) s[k].toNat (by omega) (by omega)
      have hm : sumS (s.data.toList.take (k + 1)) = stepS (sumS (s.data.toList.take k)) s[k] := by rw [hn, sumS_snoc]
      rw [← hm] at hr
      have HR := Lib.hid hr
      generalize sumS (s.data.toList.take k) = x at *
      generalize x ^^^ s[k].toNat = z at *
      clear hn hr hm
      go_wp2_with fail
      go_round
      case rel => exact ⟨k + 1, by omega, by go_num, by rw [HR.out]⟩
      case measure => simp [intOf]; omega
    · go_wp2_with fail
      go_ret
      exact ⟨ret_int (by rw [List.take_of_length_le (by simp; omega)]), rfl⟩
end Go.Proofs.Ytogcpjkgliijmaa
