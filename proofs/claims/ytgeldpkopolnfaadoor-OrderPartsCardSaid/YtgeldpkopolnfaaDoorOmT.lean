/- bits.TrailingZeros32, and the sets' small functions. -/
import Derived.Test.YtgeldpkopolnfaaDoorOmB
import Derived.Test.YtgeldpkopolnfaaDoorRdD
namespace Go.Proofs.YtgeldpkopolnfaaDoor
open Go.RowKit
set_option linter.all false

def debL : List Nat := [0, 1, 28, 2, 29, 14, 24, 3, 30, 22, 20, 15, 25, 17, 4, 8, 31, 27, 13, 23, 21, 19, 16, 7, 26, 12, 18, 6, 11, 5, 10, 9]
/-- The library's table lies in W. -/
def Deb (W : World) : Prop := 0 < W.heap.size ∧ ∀ k, k < 32 → W.cell? ⟨0, k, none⟩ = some (.int .u8 (debL.getD k 0 : Nat))
theorem Deb.step {W W' : World} (h : Deb W) (hb : Below W.heap.size W W') : Deb W' := ⟨Nat.lt_of_lt_of_le h.1 hb.size, fun k hk => cell_later' hb (h.2 k hk)⟩
theorem Deb.drewN {W : World} (h : Deb W) (n : Nat) : Deb (W.drewN n) := ⟨h.1, h.2⟩
theorem u32_and_nat (a b : Nat) (ha : a < 4294967296) (hb : b < 4294967296) : bits .and .u32 (a : Int) (b : Int) = ((a &&& b : Nat) : Int) := by
  have hx : a &&& b < 4294967296 := Nat.lt_of_le_of_lt Nat.and_le_left ha
  show IntKind.u32.wrap ((BitVec.ofInt 32 (a : Int) &&& BitVec.ofInt 32 (b : Int)).toNat : Int) = _
  have e1 : (BitVec.ofInt 32 (a : Int)).toNat = a := by rw [BitVec.toNat_ofInt]; omega
  have e2 : (BitVec.ofInt 32 (b : Int)).toNat = b := by rw [BitVec.toNat_ofInt]; omega
  rw [BitVec.toNat_and, e1, e2, IntKind.wrap_u32]; omega
theorem u32_xor_nat (a b : Nat) (ha : a < 4294967296) (hb : b < 4294967296) : bits .xor .u32 (a : Int) (b : Int) = ((a ^^^ b : Nat) : Int) := by
  have hx : a ^^^ b < 4294967296 := Nat.xor_lt_two_pow (n := 32) ha hb
  show IntKind.u32.wrap ((BitVec.ofInt 32 (a : Int) ^^^ BitVec.ofInt 32 (b : Int)).toNat : Int) = _
  have e1 : (BitVec.ofInt 32 (a : Int)).toNat = a := by rw [BitVec.toNat_ofInt]; omega
  have e2 : (BitVec.ofInt 32 (b : Int)).toNat = b := by rw [BitVec.toNat_ofInt]; omega
  rw [BitVec.toNat_xor, e1, e2, IntKind.wrap_u32]; omega
theorem bv_andNot (a b : BitVec 32) : (a &&& ~~~b) = a ^^^ (a &&& b) := by
  apply BitVec.eq_of_getElem_eq
  intro i hi
  simp only [BitVec.getElem_and, BitVec.getElem_not, BitVec.getElem_xor]
  cases a[i] <;> cases b[i] <;> rfl
theorem u32_andNot_nat (a b : Nat) (ha : a < 4294967296) (hb : b < 4294967296) : bits .andNot .u32 (a : Int) (b : Int) = ((andN a b : Nat) : Int) := by
  have hx : andN a b < 4294967296 := andN_lt (n := 32) ha
  show IntKind.u32.wrap ((BitVec.ofInt 32 (a : Int) &&& ~~~BitVec.ofInt 32 (b : Int)).toNat : Int) = _
  have e1 : (BitVec.ofInt 32 (a : Int)).toNat = a := by rw [BitVec.toNat_ofInt]; omega
  have e2 : (BitVec.ofInt 32 (b : Int)).toNat = b := by rw [BitVec.toNat_ofInt]; omega
  rw [bv_andNot, BitVec.toNat_xor, BitVec.toNat_and, e1, e2]
  change IntKind.u32.wrap ((andN a b : Nat) : Int) = _
  rw [IntKind.wrap_u32]; omega
theorem deb_at : ∀ k, k < 32 → debL.getD (2 ^ k * 125613361 % 4294967296 / 134217728) 0 = k := by decide
/-- What the walk wants, in letters. -/
theorem tz_walk (x p q j k y : Nat) (w : World) (hx : x < 4294967296) (hp : 0 < x) (hk : k < 32) (hy : 4294967296 - x = y) (hand : bits .and .u32 (x : Int) (y : Int) = (p : Int)) (hq : p * 125613361 % 4294967296 = q) (hj : q / 134217728 = j) (hj1 : j < 32)
    (hc : w.cell? ⟨0, j, none⟩ = some (.int .u8 (k : Int))) : Calls Tryd.prog 45 #[.int .u32 (x : Int)] w fun e w' => e = .returned (.int .i64 (k : Int)) ∧ w' = w := by
  have hneg : IntKind.u32.wrap (-(x : Int)) = (y : Int) := by rw [IntKind.wrap_u32]; omega
  have hmul : IntKind.u32.wrap ((p : Int) * 125613361) = (q : Int) := by rw [IntKind.wrap_u32]; omega
  have hshr2 : (q : Int) / 134217728 = (j : Int) := by omega
  have hshr : (q : Int).fdiv 134217728 = (j : Int) := (Int.fdiv_eq_ediv_of_nonneg _ (by decide)).trans hshr2
  have hx0 : ¬ (x : Int) = 0 := by omega
  have hx1 : ¬ x = 0 := by omega
  have hj0 : (0 : Int) ≤ (j : Int) := by omega
  have hj1 : (j : Int) < 32 := by omega
  have hw : IntKind.i64.wrap (k : Int) = (k : Int) := IntWalk.i64_in _ (by omega)
  have hb0 : ((x : Int) == 0) = false := by simp; omega
  clear hy hq hj hp hx
  go_enter Tryd.func45, Tryd.ntmps45
  go_wp2_with fail
  go_ret
  exact ⟨rfl, rfl⟩
theorem tz_any (k m : Nat) (h : 2 ^ (k + 1) * m + 2 ^ k < 4294967296) (w : World) (hT : Deb w) :
    Calls Tryd.prog 45 #[.int .u32 ((2 ^ (k + 1) * m + 2 ^ k : Nat) : Int)] w fun e w' => e = .returned (.int .i64 (k : Int)) ∧ w' = w := by
  have hk : k < 32 := by
    rcases Nat.lt_or_ge k 32 with h1 | h1
    · exact h1
    · have := Nat.pow_le_pow_right (n := 2) (by decide) (i := 32) h1; omega
  have hp : 0 < 2 ^ (k + 1) * m + 2 ^ k := by have := Nat.two_pow_pos k; omega
  have hand := u32_and_nat (2 ^ (k + 1) * m + 2 ^ k) (4294967296 - (2 ^ (k + 1) * m + 2 ^ k)) h (by omega)
  rw [neg_and k m h] at hand
  have hc := hT.2 (2 ^ k * 125613361 % 4294967296 / 134217728) (by omega)
  rw [deb_at k hk] at hc
  exact tz_walk _ _ _ _ k _ w h hp hk rfl hand rfl rfl (by omega) hc

/-- Shifts of 32 bits. -/
theorem shl_one (i : Nat) (hi : i < 24) : IntKind.u32.wrap ((2 : Int) ^ i) = ((2 ^ i : Nat) : Int) := by
  rw [show (2 : Int) ^ i = ((2 ^ i : Nat) : Int) by simp]; exact u32_wrap _ (pow_small hi)
theorem has_any (s i : Nat) (hs : s < 16777216) (hi : i < 24) (w : World) : Calls Tryd.prog 43 #[.int .u32 (s : Int), .int .i64 (i : Int)] w fun e w' => e = .returned (.bool (s.testBit i)) ∧ w' = w := by
  have hbit := testBit_div s i
  have hdz : s / 2 ^ i < 16777216 := Nat.lt_of_le_of_lt (Nat.div_le_self _ _) hs
  have hand := u32_and_one (s / 2 ^ i) hdz
  rw [hbit]
  have hi0 : (0 : Int) ≤ (i : Int) := by omega
  obtain ⟨d, hd⟩ : ∃ d, s / 2 ^ i = d := ⟨_, rfl⟩
  have hsr : (s : Int).fdiv ((2 : Int) ^ i) = (d : Int) := by
    rw [← hd, show (2 : Int) ^ i = ((2 ^ i : Nat) : Int) by simp]; exact Int.fdiv_eq_ediv_of_nonneg _ (Int.natCast_nonneg _)
  have hsr2 : (s : Int) / ((2 : Int) ^ i) = (d : Int) := by
    rw [← hd, show (2 : Int) ^ i = ((2 ^ i : Nat) : Int) by simp]; rfl
  rw [hd] at hand ⊢
  clear hd hbit hdz
  rcases Nat.mod_two_eq_zero_or_one d with hm | hm
  · rw [hm] at hand ⊢
    go_enter Tryd.func43, Tryd.ntmps43
    go_wp2_with fail
    go_ret
    exact ⟨rfl, rfl⟩
  · rw [hm] at hand ⊢
    go_enter Tryd.func43, Tryd.ntmps43
    go_wp2_with fail
    go_ret
    exact ⟨rfl, rfl⟩
theorem with_any (s i : Nat) (hs : s < 16777216) (hi : i < 24) (w : World) : Calls Tryd.prog 34 #[.int .u32 (s : Int), .int .i64 (i : Int)] w fun e w' => e = .returned (.int .u32 ((s ||| 2 ^ i : Nat) : Int)) ∧ w' = w := by
  have hor := u32_or_nat s (2 ^ i) hs (pow_small hi)
  have hsh := shl_one i hi
  have hi0 : (0 : Int) ≤ (i : Int) := by omega
  generalize s ||| 2 ^ i = z at *
  generalize 2 ^ i = t at *
  go_enter Tryd.func34, Tryd.ntmps34
  go_wp2_with fail
  go_ret
  exact ⟨rfl, rfl⟩
theorem without_any (s i : Nat) (hs : s < 16777216) (hi : i < 24) (w : World) : Calls Tryd.prog 33 #[.int .u32 (s : Int), .int .i64 (i : Int)] w fun e w' => e = .returned (.int .u32 ((del s i : Nat) : Int)) ∧ w' = w := by
  have hsh := shl_one i hi
  have hi0 : (0 : Int) ≤ (i : Int) := by omega
  have han : bits .andNot .u32 (s : Int) ((2 ^ i : Nat) : Int) = ((del s i : Nat) : Int) := u32_andNot_nat s (2 ^ i) (by omega) (by have := pow_small hi; omega)
  generalize hz : del s i = z at *
  generalize 2 ^ i = t at *
  go_enter Tryd.func33, Tryd.ntmps33
  go_wp2_with fail
  go_ret
  exact ⟨rfl, rfl⟩
end Go.Proofs.YtgeldpkopolnfaaDoor
