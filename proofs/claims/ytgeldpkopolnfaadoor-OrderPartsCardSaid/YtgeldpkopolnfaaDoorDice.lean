/- The dice: Mod, Next, Light, Roll; small words that all texts of this seat use. -/
import Derived.Test.YtgeldpkopolnfaaDoorProg
import Derived.WalkKit
import Derived.ProofKit
import Derived.Below
import Derived.BigQuiet
import Derived.Lib.Hide
import Derived.IntWalk
namespace Go.Proofs.YtgeldpkopolnfaaDoor
open Go.RowKit
set_option linter.all false

def BoolP (n : Bool) (w : World) (e : Ending) (w' : World) : Prop := e = .returned (.bool n) ∧ Below w.heap.size w w'
def IntP (n : Int) (w : World) (e : Ending) (w' : World) : Prop := e = .returned (.int .i64 n) ∧ Below w.heap.size w w'
theorem below_drewN {B : Nat} {a w : World} (h : Below B a w) (n : Nat) : Below B a (w.drewN n) := h.trans ⟨rfl, rfl, rfl, Nat.le_refl _, fun _ _ => rfl⟩
theorem ret_i {k : IntKind} {a b : Int} (h : a = b) : Ending.returned (.int k a) = .returned (.int k b) := by rw [h]
set_option maxHeartbeats 400000 in
theorem mod_any (n k : Int) (w : World) (h1 : -9223372036854775808 ≤ n) (h2 : n ≤ 9223372036854775807) (hk : 1 ≤ k) (hk2 : k ≤ 1000000) :
    Calls Tryd.prog 40 #[.int .i64 n, .int .i64 k] w fun e w' => e = .returned (.int .i64 (n % k)) ∧ w = w' := by
  have a1 : -1000000 < n.tmod k := by have := Int.lt_tmod_of_pos n (show 0 < k by omega); omega
  have a2 : n.tmod k < 1000000 := by have := Int.tmod_lt_of_pos n (show 0 < k by omega); omega
  have a3 : 0 ≤ n.tmod k + k := by have := Int.lt_tmod_of_pos n (show 0 < k by omega); omega
  have hf : (n.tmod k + k) % k = n % k := by
    rw [Int.add_emod_right]
    rw [Int.tmod_eq_emod]
    split
    · simp
    · rw [Int.sub_emod]
      have e : ((k.natAbs : Nat) : Int) % k = 0 := by rw [Int.natAbs_of_nonneg (by omega)]; exact Int.emod_self
      rw [e]; simp
  have HF := Lib.hid hf; clear hf
  go_enter Tryd.func40, Tryd.ntmps40
  go_wp2
  go_ret
  exact ⟨ret_i HF.out, rfl⟩

theorem grown_setCell {a w : World} {g : Nat} (h : a.grownBy w (some g)) (o : Nat) (v : Value) : a.grownBy (w.setCell ⟨g, o, none⟩ v) (some g) :=
  ⟨h.os, h.tape, h.output, by simpa [World.setCell] using h.size, fun k hk hne => (heap_setCell_other w ⟨g, o, none⟩ k v (fun e => hne (by rw [e]))).trans (h.block k hk hne)⟩
theorem cell_later' {w w' : World} {b o : Nat} {v : Value} (hb : Below w.heap.size w w') (h : w.cell? ⟨b, o, none⟩ = some v) : w'.cell? ⟨b, o, none⟩ = some v :=
  (hb.cell (p := ⟨b, o, none⟩) (block_lt_of_cell h)).trans h

/-- n numbers that came in. -/
def Ints (w : World) (B : Nat) (a : Option Addr) (n : Nat) : Prop :=
  n = 0 ∨ ∃ b o, a = some ⟨b, o, none⟩ ∧ b < B ∧ ∀ j, j < n → ∃ z : Int, w.cell? ⟨b, o + j, none⟩ = some (.int .i64 z) ∧ -9223372036854775808 ≤ z ∧ z ≤ 9223372036854775807

/-- Block g holds dice. -/
def DiceAt (w : World) (g : Nat) : Prop :=
  ∃ (a : Option Addr) (n c k : Nat), w.heap[g]? = some (.cells #[.slice a n c, .int .i64 k] 53 (0, 0)) ∧ k ≤ n ∧ n ≤ 400 ∧ Ints w g a n

theorem Ints.keep {w w' : World} {B : Nat} {a : Option Addr} {n : Nat} (h : Ints w B a n) (hk : ∀ b o v, b < B → w.cell? ⟨b, o, none⟩ = some v → w'.cell? ⟨b, o, none⟩ = some v) : Ints w' B a n := by
  rcases h with h | ⟨b, o, ha, hb, h⟩
  · exact .inl h
  · refine .inr ⟨b, o, ha, hb, fun j hj => ?_⟩
    obtain ⟨z, hz, h1, h2⟩ := h j hj
    exact ⟨z, hk b _ _ hb hz, h1, h2⟩

theorem DiceAt.lt {w : World} {g : Nat} (h : DiceAt w g) : g < w.heap.size := by
  obtain ⟨a, n, c, k, h, _⟩ := h
  rcases Nat.lt_or_ge g w.heap.size with hl | hl
  · exact hl
  · rw [Array.getElem?_eq_none hl] at h; cases h

theorem DiceAt.below {w w' : World} {g : Nat} (h : DiceAt w g) (hb : Below w.heap.size w w') : DiceAt w' g := by
  have hlt := h.lt
  obtain ⟨a, n, c, k, h, h1, h2, h3⟩ := h
  exact ⟨a, n, c, k, (hb.block g hlt).trans h, h1, h2, h3.keep fun b o v _ hv => cell_later' hb hv⟩

theorem mod_q (n k : Int) (w : World) (h1 : -9223372036854775808 ≤ n) (h2 : n ≤ 9223372036854775807) (hk : 1 ≤ k) (hk2 : k ≤ 1000000) : Calls Tryd.prog 40 #[.int .i64 n, .int .i64 k] w fun e w' => e = .returned (.int .i64 (n % k)) ∧ w' = w :=
  (mod_any n k w h1 h2 hk hk2).mono fun _ _ ⟨h, e⟩ => ⟨h, e.symm⟩

/-- What the dice give out next. -/
def Threw (w : World) (g : Nat) (m : Int) (e : Ending) (w' : World) : Prop :=
  ∃ r : Int, e = .returned (.int .i64 r) ∧ 0 ≤ r ∧ r < m ∧ DiceAt w' g ∧ w.grownBy w' (some g)

set_option maxHeartbeats 1000000 in
theorem next_none (w : World) (g : Nat) (a : Option Addr) (n c : Nat) (m : Int) (hm : 1 ≤ m) (h : w.heap[g]? = some (.cells #[.slice a n c, .int .i64 n] 53 (0, 0))) (h1 : n ≤ 400) (h2 : Ints w g a n) :
    Calls Tryd.prog 25 #[.pointer (some ⟨g, 0, none⟩), .int .i64 m] w (Threw w g m) := by
  have c0 := cell_of_row w g 0 _ _ _ h
  have c1 := cell_of_row w g 1 _ _ _ h
  simp at c0 c1
  have hd : DiceAt w g := ⟨a, n, c, n, h, Nat.le_refl _, h1, h2⟩
  have HD := Lib.hid hd; clear hd
  clear h2 h
  go_enter Tryd.func25, Tryd.ntmps25
  go_wp2_with fail
  go_quiet (fail)
  go_wp2_with fail
  go_ret
  obtain ⟨a', n', c', k', d1, d2, d3, d4⟩ := HD.out
  exact ⟨0, rfl, by omega, by omega, ⟨a', n', c', k', d1, d2, d3, d4⟩, ⟨rfl, rfl, rfl, Nat.le_refl _, fun _ _ _ => rfl⟩⟩

set_option maxHeartbeats 2000000 in
theorem next_some (w : World) (g : Nat) (b o n c k : Nat) (m z : Int) (hm : 1 ≤ m) (hm2 : m ≤ 1000000) (h : w.heap[g]? = some (.cells #[.slice (some ⟨b, o, none⟩) n c, .int .i64 k] 53 (0, 0))) (hk : k < n) (h1 : n ≤ 400) (h2 : Ints w g (some ⟨b, o, none⟩) n)
    (hb : b < g) (hz : w.cell? ⟨b, o + k, none⟩ = some (.int .i64 z)) (hz1 : -9223372036854775808 ≤ z) (hz2 : z ≤ 9223372036854775807) :
    Calls Tryd.prog 25 #[.pointer (some ⟨g, 0, none⟩), .int .i64 m] w (Threw w g m) := by
  have c0 := cell_of_row w g 0 _ _ _ h
  have c1 := cell_of_row w g 1 _ _ _ h
  simp at c0 c1
  have f1 : w.frozen? ⟨g, 1, none⟩ = false := by simp [World.frozen?, h]
  have hs := heap_setCell_same w g 1 _ _ (.int .i64 ((k : Int) + 1)) h
  have hg : w.grownBy (w.setCell ⟨g, 1, none⟩ (.int .i64 ((k : Int) + 1))) (some g) := grown_setCell (World.grownBy.refl _ _) 1 _
  have hd : DiceAt (w.setCell ⟨g, 1, none⟩ (.int .i64 ((k : Int) + 1))) g := by
    refine ⟨_, n, c, k + 1, ?_, by omega, h1, h2.keep fun b' o' v hb' hv => ?_⟩
    · rw [hs]; simp
    · rw [World.cell?_setCell_other _ _ _ _ (by intro e; injection e with e; omega)]; exact hv
  have cM := fun W => mod_q z m W hz1 hz2 hm hm2
  have r1 := Int.emod_nonneg z (show m ≠ 0 by omega)
  have r2 := Int.emod_lt_of_pos z (show 0 < m by omega)
  have hk' : decide (n ≤ k) = false := by simp; omega
  have s1 : IntKind.i64.wrap ((k : Int) + 1 - 1) = k := by rw [IntWalk.i64_in ((k : Int) + 1 - 1) (by omega)]; omega
  have s2 : IntKind.i64.wrap (k : Int) = k := IntWalk.i64_in (k : Int) (by omega)
  have hkn : (k : Int) < (n : Int) := by omega
  have HD := Lib.hid hd; have HG := Lib.hid hg; have CM := Lib.hid cM
  clear hd hg cM hs h2 h
  go_enter Tryd.func25, Tryd.ntmps25
  go_wp2_with fail
  go_quiet (fail)
  go_wp2_with fail
  go_quiet ((go_at_call 40; exact Calls.quiet_of_same (CM.out _)))
  go_wp2_with fail
  go_ret
  exact ⟨z % m, rfl, r1, r2, HD.out, ⟨HG.out.os, HG.out.tape, HG.out.output, HG.out.size, HG.out.block⟩⟩

theorem next_any (w : World) (g : Nat) (m : Int) (hm : 1 ≤ m) (hm2 : m ≤ 1000000) (h : DiceAt w g) :
    Calls Tryd.prog 25 #[.pointer (some ⟨g, 0, none⟩), .int .i64 m] w (Threw w g m) := by
  obtain ⟨a, n, c, k, h, hk, h1, h2⟩ := h
  rcases Nat.lt_or_ge k n with hlt | hge
  · rcases h2 with h0 | ⟨b, o, rfl, hb, hi⟩
    · omega
    · obtain ⟨z, hz, z1, z2⟩ := hi k hlt
      exact next_some w g b o n c k m z hm hm2 h hlt h1 (.inr ⟨b, o, rfl, hb, hi⟩) hb hz z1 z2
  · obtain rfl : k = n := by omega
    exact next_none w g a k c m hm h h1 h2

set_option maxHeartbeats 400000 in
theorem light_any (a : Option Addr) (n c : Nat) (q : Bool) (w : World) (h : decide (n ≤ 400) = q) :
    Calls Tryd.prog 7 #[.slice a n c] w fun e w' => e = .returned (.bool q) ∧ w' = w := by
  have h' : decide ((n : Int) ≤ 400) = q := by rw [← h]; simp only [decide_eq_decide]; omega
  have H := Lib.hid h'; clear h h'
  go_enter Tryd.func7, Tryd.ntmps7
  go_wp2_with fail
  go_ret
  exact ⟨by rw [← H.out]; simp, rfl⟩

set_option maxHeartbeats 400000 in
theorem roll_any (a : Option Addr) (n c : Nat) (w : World) (h1 : n ≤ 400) (h2 : Ints w w.heap.size a n) :
    Calls Tryd.prog 9 #[.slice a n c] w fun e w' => e = .returned (.pointer (some ⟨w.heap.size, 0, none⟩)) ∧ DiceAt w' w.heap.size ∧ Below w.heap.size w w' := by
  have hd : DiceAt (w.alloc (.cells #[.slice a n c, .int .i64 0] 53)) w.heap.size :=
    ⟨a, n, c, 0, heap_alloc_new _ _, Nat.zero_le _, h1, h2.keep fun b o v hb hv => by rw [World.cell?_alloc_lt _ _ _ hb]; exact hv⟩
  have HD := Lib.hid hd; clear hd h2
  go_enter Tryd.func9, Tryd.ntmps9
  go_wp2_with fail
  go_ret
  exact ⟨rfl, HD.out, (Below.refl _ _).alloc (Nat.le_refl _) _⟩
end Go.Proofs.YtgeldpkopolnfaaDoor
