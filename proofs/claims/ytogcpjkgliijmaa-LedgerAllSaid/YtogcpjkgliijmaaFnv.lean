/- FNV-1a as plain mathematics: each step is injective, in the sum and in the byte. -/
import Derived.Test.YtogcpjkgliijmaaRows
import Derived.Laws.BitsAllLaws
namespace Go.Proofs.Ytogcpjkgliijmaa

def stepS (h : Nat) (b : UInt8) : Nat := (h ^^^ b.toNat) * 16777619 % 4294967296
def basisS : Nat := 2166136261
theorem basisS_lt : basisS < 4294967296 := by decide
def sumS (l : List UInt8) : Nat := l.foldl stepS basisS

theorem stepS_lt (h : Nat) (b : UInt8) : stepS h b < 4294967296 := by unfold stepS; omega
theorem foldl_lt (l : List UInt8) : ∀ h : Nat, h < 4294967296 → l.foldl stepS h < 4294967296 := by
  induction l with
  | nil => intro h hh; exact hh
  | cons b l ih => intro h _; exact ih _ (stepS_lt _ _)
theorem sumS_lt (l : List UInt8) : sumS l < 4294967296 := foldl_lt l _ basisS_lt

theorem mul_inj (a b : Nat) (ha : a < 4294967296) (hb : b < 4294967296) (h : a * 16777619 % 4294967296 = b * 16777619 % 4294967296) : a = b := by
  have key : ∀ x : Nat, x < 4294967296 → (x * 16777619 % 4294967296) * 899433627 % 4294967296 = x := by
    intro x hx
    rw [Nat.mod_mul_mod, Nat.mul_assoc, show 16777619 * 899433627 = 1 + 3513497 * 4294967296 from rfl, Nat.mul_add, Nat.mul_one, ← Nat.mul_assoc, Nat.add_mul_mod_self_right]
    exact Nat.mod_eq_of_lt hx
  rw [← key a ha, ← key b hb, h]

theorem xor_inj_left (h a b : Nat) (e : h ^^^ a = h ^^^ b) : a = b := by
  have := congrArg (fun x => h ^^^ x) e
  simpa [← Nat.xor_assoc] using this

theorem xor_inj_right (h a b : Nat) (e : a ^^^ h = b ^^^ h) : a = b := by
  have := congrArg (fun x => x ^^^ h) e
  simpa [Nat.xor_assoc] using this

theorem xor_byte_lt (h : Nat) (b : UInt8) (hh : h < 4294967296) : h ^^^ b.toNat < 4294967296 := by
  have := b.toNat_lt
  exact Nat.xor_lt_two_pow (n := 32) (by omega) (by omega)

theorem stepS_inj (h h' : Nat) (b : UInt8) (hh : h < 4294967296) (hh' : h' < 4294967296) (e : stepS h b = stepS h' b) : h = h' :=
  xor_inj_right b.toNat _ _ (mul_inj _ _ (xor_byte_lt h b hh) (xor_byte_lt h' b hh') e)

theorem stepS_byte (h : Nat) (b c : UInt8) (hh : h < 4294967296) (e : stepS h b = stepS h c) : b = c := by
  have := xor_inj_left h _ _ (mul_inj _ _ (xor_byte_lt h b hh) (xor_byte_lt h c hh) e)
  exact UInt8.toNat_inj.1 this

theorem foldl_inj (l : List UInt8) : ∀ h h' : Nat, h < 4294967296 → h' < 4294967296 → l.foldl stepS h = l.foldl stepS h' → h = h' := by
  induction l with
  | nil => intro h h' _ _ e; exact e
  | cons b l ih => intro h h' hh hh' e; exact stepS_inj _ _ b hh hh' (ih _ _ (stepS_lt _ _) (stepS_lt _ _) e)

/-- One byte that is changed changes the sum. -/
theorem sumS_set (l : List UInt8) (i : Nat) (c : UInt8) (hi : i < l.length) (hne : c ≠ l[i]) : sumS (l.set i c) ≠ sumS l := by
  intro e
  have e1 : l.set i c = l.take i ++ c :: l.drop (i + 1) := List.set_eq_take_append_cons_drop.trans (by rw [if_pos hi])
  have e2 : l = l.take i ++ l[i] :: l.drop (i + 1) := by rw [← List.drop_eq_getElem_cons hi, List.take_append_drop]
  unfold sumS at e
  rw [e1] at e
  conv at e => rhs; rw [e2]
  simp only [List.foldl_append, List.foldl_cons] at e
  have hl := foldl_lt (l.take i) basisS basisS_lt
  exact hne (stepS_byte _ _ _ hl (foldl_inj _ _ _ (stepS_lt _ _) (stepS_lt _ _) e))

theorem foldl_snoc {α β : Type} (f : β → α → β) (z : β) (l : List α) (b : α) : (l ++ [b]).foldl f z = f (l.foldl f z) b := by simp
theorem sumS_snoc (l : List UInt8) (b : UInt8) : sumS (l ++ [b]) = stepS (sumS l) b := foldl_snoc stepS basisS l b

theorem byte_wrap (b : UInt8) : ((b.toNat : Int) % 4294967296) = ((b.toNat : Nat) : Int) := Int.emod_eq_of_lt (by omega) (by have := b.toNat_lt; omega)
theorem cast_round (y : Nat) : (y : Int) * 16777619 % 4294967296 = ((y * 16777619 % 4294967296 : Nat) : Int) := by
  rw [Int.natCast_emod, Int.natCast_mul]
  rfl
theorem sum_round (x : Nat) (b : UInt8) (hx : x < 4294967296) :
    bits .xor .u32 (x : Int) ((b.toNat : Int) % 4294967296) * 16777619 % 4294967296 = ((stepS x b : Nat) : Int) := by
  rw [byte_wrap, u32_xor_nat x b.toNat hx (by have := b.toNat_lt; omega), cast_round]
  rfl

theorem sumS_a : sumS [97] = 3826002220 := by simp [sumS, stepS, basisS]
theorem sumS_foobar : sumS [102, 111, 111, 98, 97, 114] = 3214735720 := by simp [sumS, stepS, basisS]
end Go.Proofs.Ytogcpjkgliijmaa
