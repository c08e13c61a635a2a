/- Rows of bits in memory. -/
import Derived.Test.YtgeldpkopolnfaaDoorRdA
import Derived.Test.YtgeldpkopolnfaaDoorNdW
import Derived.Laws.BitsLemmas
import Derived.Deep.OwnRows
namespace Go.Proofs.YtgeldpkopolnfaaDoor
open Go.RowKit
set_option linter.all false

theorem lt_of_heap {w : World} {b : Nat} {o : Obj} (h : w.heap[b]? = some o) : b < w.heap.size := (Array.getElem?_eq_some_iff.1 h).1
def rowU (n : Nat) (B : Nat → Nat) : Array Value := ((List.range n).map fun j => .int .u32 (B j : Int)).toArray
theorem rowU_get (n : Nat) (B : Nat → Nat) (j : Nat) (hj : j < n) : (rowU n B)[j]? = some (.int .u32 (B j : Int)) := by
  unfold rowU
  rw [List.getElem?_toArray, List.getElem?_map, List.getElem?_range hj]; rfl
theorem rowU_zero (n : Nat) : madeCells #[Value.int .u32 0] n = rowU n (fun _ => 0) := by
  unfold rowU madeCells
  apply Array.ext
  · simp
  · intro k h1 h2
    simp at h1 h2 ⊢
    rw [Nat.mod_one]; rfl
def upd1 (B : Nat → Nat) (i x : Nat) : Nat → Nat := fun a => if a = i then x else B a
theorem rowU_set (n : Nat) (B : Nat → Nat) (i x : Nat) (hi : i < n) : (rowU n B).setIfInBounds i (.int .u32 (x : Int)) = rowU n (upd1 B i x) := by
  apply Array.ext
  · simp [rowU]
  · intro k h1 h2
    have hk : k < n := by simpa [rowU] using h2
    by_cases e : i = k
    · subst e
      simp [rowU, upd1]
    · have e' : ¬ k = i := fun h => e h.symm
      simp [rowU, upd1, Array.getElem_setIfInBounds, e, e']
theorem info94 : (Tryd.prog.info? 56).map (fun i => (i.zero, i.size, i.bytes)) = some (some (.int .u32 0), 1, 4) := by kernel_rfl
theorem make_bits (n : Nat) (hn : n ≤ 1000) (w : World) : (Instr.makeSlice 68 (.int .i64 (n : Int)) (.int .i64 (n : Int))).run Tryd.prog w = .ok (.slice (some ⟨w.heap.size, 0, none⟩) n n) (w.alloc (.cells (rowU n fun _ => 0) 56)) := by
  rw [← rowU_zero]
  exact run_make_row' 68 56 (.int .u32 0) 4 (by kernel_rfl) info94 rfl .i64 .i64 n (by omega) (by omega) w
/-- A row of bits in the block b. -/
structure BitsAt (S : Nat) (W : World) (b n : Nat) (B : Nat → Nat) : Prop where
  row : W.heap[b]? = some (.cells (rowU n B) 56 (0, 0))
  low : S ≤ b
  small : ∀ i, i < n → B i < 16777216
section
variable {S : Nat} {W W' : World} {b n : Nat} {B : Nat → Nat}
theorem BitsAt.cell (h : BitsAt S W b n B) (i : Nat) (hi : i < n) : W.cell? ⟨b, i, none⟩ = some (.int .u32 (B i : Int)) := by
  rw [cell_of_row _ b i _ _ _ h.row, rowU_get _ _ _ hi]
theorem BitsAt.free (h : BitsAt S W b n B) (i : Nat) : W.frozen? ⟨b, i, none⟩ = false := by
  simp [World.frozen?, h.row]
theorem BitsAt.step (h : BitsAt S W b n B) (hb : Below W.heap.size W W') : BitsAt S W' b n B :=
  ⟨(hb.block _ (lt_of_heap h.row)).trans h.row, h.low, h.small⟩
theorem BitsAt.drewN (h : BitsAt S W b n B) (k : Nat) : BitsAt S (W.drewN k) b n B := ⟨h.row, h.low, h.small⟩
theorem BitsAt.set (h : BitsAt S W b n B) (i x : Nat) (hi : i < n) (hx : x < 16777216) : BitsAt S (W.setCell ⟨b, i, none⟩ (.int .u32 (x : Int))) b n (upd1 B i x) := by
  refine ⟨?_, h.low, fun k hk => ?_⟩
  · rw [heap_setCell_same W _ i _ _ _ h.row, rowU_set _ _ _ _ hi]
  · unfold upd1; split
    · exact hx
    · exact h.small k hk
theorem BitsAt.below (h : BitsAt S W b n B) {w : World} (hb : Below S w W) (i : Nat) (v : Value) : Below S w (W.setCell ⟨b, i, none⟩ v) :=
  hb.setCell h.low v
end
def bitM (B : Nat → Nat) (i j : Nat) : Bool := (B i).testBit j
theorem bitM_edge (B : Nat → Nat) (i j : Nat) (a b : Nat) : bitM (upd1 B i (B i ||| 2 ^ j)) a b = upd (bitM B) i j true a b := by
  unfold bitM upd1 upd
  by_cases e : a = i
  · subst e
    rw [if_pos rfl, Nat.testBit_or, Nat.testBit_two_pow]
    by_cases e2 : b = j
    · subst e2; simp
    · rw [if_neg (fun h => e2 h.2)]
      have : ¬ j = b := fun h => e2 h.symm
      simp [this]
  · rw [if_neg e, if_neg (fun h => e h.1)]
theorem bitM_or (B : Nat → Nat) (i k : Nat) (a b : Nat) : bitM (upd1 B i (B i ||| B k)) a b = if a = i then bitM B i b || bitM B k b else bitM B a b := by
  unfold bitM upd1
  by_cases e : a = i
  · subst e
    rw [if_pos rfl, if_pos rfl, Nat.testBit_or]
  · rw [if_neg e, if_neg e]
theorem or_small {a b : Nat} (ha : a < 16777216) (hb : b < 16777216) : a ||| b < 16777216 := Nat.or_lt_two_pow (n := 24) ha hb
theorem pow_small {j : Nat} (hj : j < 24) : 2 ^ j < 16777216 := Nat.pow_lt_pow_of_lt (a := 2) (n := j) (m := 24) (by decide) hj
theorem u32_wrap (a : Nat) (h : a < 16777216) : IntKind.u32.wrap (a : Int) = (a : Int) := by
  rw [IntKind.wrap_u32]; omega
theorem u32_or_nat (a b : Nat) (ha : a < 16777216) (hb : b < 16777216) : bits .or .u32 (a : Int) (b : Int) = ((a ||| b : Nat) : Int) := by
  have hx := or_small ha hb
  show IntKind.u32.wrap ((BitVec.ofInt 32 (a : Int) ||| BitVec.ofInt 32 (b : Int)).toNat : Int) = _
  have e1 : (BitVec.ofInt 32 (a : Int)).toNat = a := by rw [BitVec.toNat_ofInt]; omega
  have e2 : (BitVec.ofInt 32 (b : Int)).toNat = b := by rw [BitVec.toNat_ofInt]; omega
  rw [BitVec.toNat_or, e1, e2, u32_wrap _ hx]
theorem u32_and_one (a : Nat) (ha : a < 16777216) : bits .and .u32 (a : Int) 1 = ((a % 2 : Nat) : Int) := by
  show IntKind.u32.wrap ((BitVec.ofInt 32 (a : Int) &&& BitVec.ofInt 32 1).toNat : Int) = _
  have e1 : (BitVec.ofInt 32 (a : Int)).toNat = a := by rw [BitVec.toNat_ofInt]; omega
  have e2 : (BitVec.ofInt 32 1).toNat = 1 := by decide
  rw [BitVec.toNat_and, e1, e2, Nat.and_one_is_mod, u32_wrap _ (by omega)]
theorem testBit_div (a k : Nat) : a.testBit k = decide (a / 2 ^ k % 2 = 1) := by
  rw [Nat.testBit_eq_decide_div_mod_eq]
end Go.Proofs.YtgeldpkopolnfaaDoor
