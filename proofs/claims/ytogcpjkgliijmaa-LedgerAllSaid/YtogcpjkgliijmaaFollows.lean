/- What follows: ledger.follows. -/
import Derived.Test.YtogcpjkgliijmaaValid
import Derived.IntWalk
namespace Go.Proofs.Ytogcpjkgliijmaa
open Go.RowKit

theorem bcell {W w1 : World} (hb : Below W.heap.size W w1) : (∀ b o, b < W.heap.size → w1.cell? ⟨b, o, none⟩ = W.cell? ⟨b, o, none⟩) ∧ (∀ b o, b < W.heap.size → w1.frozen? ⟨b, o, none⟩ = W.frozen? ⟨b, o, none⟩) :=
  ⟨fun b o h => hb.cell (p := ⟨b, o, none⟩) h, fun b o h => hb.frozen (p := ⟨b, o, none⟩) h⟩

theorem below_drewN {B : Nat} {a w : World} (h : Below B a w) (n : Nat) : Below B a (w.drewN n) := ⟨h.os, h.tape, h.output, h.size, h.block⟩

/-- An old cell, behind a new block and something below. -/
theorem later2 {w w1 : World} {o : Obj} {a : Addr} {v : Value} (hb : Below (w.alloc o).heap.size (w.alloc o) w1) (h : w.cell? a = some v) : w1.cell? a = some v := by
  have hl := World.block_lt_of_cell? _ _ h
  rw [hb.cell (p := a) (by simp; omega), World.cell?_alloc_lt _ _ a hl]; exact h

theorem below_of_alloc {w w1 : World} {o : Obj} (hb : Below (w.alloc o).heap.size (w.alloc o) w1) : Below w.heap.size w w1 :=
  ((Below.refl _ _).alloc (Nat.le_refl _) _).trans (hb.mono (by simp))

theorem below_step {X Y Z : World} (h : Below X.heap.size X Y) (h' : Below Y.heap.size Y Z) : Below X.heap.size X Z := h.trans (h'.mono h.size)

/-- What follows a last decision. -/
def followsN (x y a b c d e : Int) : Int := if validB a b c d e = true then (if a < x ∨ b < y then 6 else 0) else 57

set_option maxHeartbeats 1000000 in
theorem follows_bad (v : Value) (a b c d e : Int) (w : World) (hv : validB a b c d e = false) :
    Calls Try.prog 58 #[v, .agg #[.int .i64 a, .int .i64 b, .int .i64 c, .int .i64 d, .int .i64 e]] w fun r w' => r = .returned (.int .i64 57) ∧ Below w.heap.size w w' := by
  have c1 := fun W => isValid_any a b c d e W
  rw [hv] at c1
  clear hv
  have C1 := Lib.hid c1
  clear c1
  go_enter Try.func58, Try.ntmps58
  go_wp2_with fail
  refine (C1.out _).mono ?_; rintro r w1 ⟨rfl, hb⟩
  go_wp2_with fail
  go_ret
  exact ⟨rfl, below_of_alloc hb⟩

set_option maxHeartbeats 1000000 in
theorem follows_none (p : Option Addr) (cap : Nat) (a b c d e : Int) (w : World) (hv : validB a b c d e = true) :
    Calls Try.prog 58 #[.slice p 0 cap, .agg #[.int .i64 a, .int .i64 b, .int .i64 c, .int .i64 d, .int .i64 e]] w fun r w' => r = .returned (.int .i64 0) ∧ Below w.heap.size w w' := by
  have c1 := fun W => isValid_any a b c d e W
  rw [hv] at c1
  clear hv
  have C1 := Lib.hid c1
  clear c1
  go_enter Try.func58, Try.ntmps58
  go_wp2_with fail
  refine (C1.out _).mono ?_; rintro r w1 ⟨rfl, hb⟩
  have hb := below_of_alloc hb
  go_wp2_with fail
  go_quiet (fail)
  go_wp2_with fail
  go_ret
  exact ⟨rfl, below_drewN hb _⟩

set_option maxHeartbeats 2000000 in
theorem follows_some (a b c d e : Int) (B o n cap : Nat) (x y : Int) (w : World) (hn : n < 1000) (hc0 : w.cell? ⟨B, o + n * 5, none⟩ = some (.int .i64 x)) (hc1 : w.cell? ⟨B, o + n * 5 + 1, none⟩ = some (.int .i64 y)) (q1 q2 : Bool)
    (hv : validB a b c d e = true) (h1 : decide (a < x) = q1) (h2 : decide (b < y) = q2) :
    Calls Try.prog 58 #[.slice (some ⟨B, o, none⟩) (n + 1) cap, .agg #[.int .i64 a, .int .i64 b, .int .i64 c, .int .i64 d, .int .i64 e]] w fun r w' => r = .returned (.int .i64 (if q1 || q2 then 6 else 0)) ∧ Below w.heap.size w w' := by
  have c1 := fun W => isValid_any a b c d e W
  rw [hv] at c1
  clear hv
  have C1 := Lib.hid c1
  clear c1
  have hB := World.block_lt_of_cell? _ _ hc0
  simp only at hB
  have hn0 : (0 : Int) < (n : Int) + 1 := by omega
  have s1 : IntKind.i64.wrap ((n : Int) + 1 - 1) = n := by rw [IntWalk.i64_in ((n : Int) + 1 - 1) (by omega)]; omega
  have s2 : IntKind.i64.wrap (n : Int) = n := IntWalk.i64_in (n : Int) (by omega)
  have S1 := Lib.hid s1; have S2 := Lib.hid s2; clear s1 s2
  have K0 := Lib.hid hc0; have K1 := Lib.hid hc1; clear hc0 hc1
  cases q1
  · cases q2
    all_goals
      go_enter Try.func58, Try.ntmps58
      go_wp2_with fail
      refine (C1.out _).mono ?_; rintro r w1 ⟨rfl, hb⟩
      have hk0 := later2 hb K0.out
      have hk1 := later2 hb K1.out
      have hx0 : w1.cell? ⟨w.heap.size, 0, none⟩ = some (.int .i64 a) := by rw [hb.cell (p := ⟨w.heap.size, 0, none⟩) (by simp)]; simp
      have hx1 : w1.cell? ⟨w.heap.size, 1, none⟩ = some (.int .i64 b) := by rw [hb.cell (p := ⟨w.heap.size, 1, none⟩) (by simp)]; simp
      have hb := below_of_alloc hb
      have s1 := S1.out; have s2 := S2.out
      go_wp2_with fail
      go_quiet (fail)
      clear s1 s2
      go_wp2_with fail
      go_ret
      exact ⟨rfl, below_drewN hb _⟩
  · go_enter Try.func58, Try.ntmps58
    go_wp2_with fail
    refine (C1.out _).mono ?_; rintro r w1 ⟨rfl, hb⟩
    have hk0 := later2 hb K0.out
    have hk1 := later2 hb K1.out
    have hx0 : w1.cell? ⟨w.heap.size, 0, none⟩ = some (.int .i64 a) := by rw [hb.cell (p := ⟨w.heap.size, 0, none⟩) (by simp)]; simp
    have hb := below_of_alloc hb
    have s1 := S1.out; have s2 := S2.out
    clear h2
    go_wp2_with fail
    go_quiet (fail)
    clear s1 s2
    go_wp2_with fail
    go_ret
    exact ⟨rfl, below_drewN hb _⟩
end Go.Proofs.Ytogcpjkgliijmaa
