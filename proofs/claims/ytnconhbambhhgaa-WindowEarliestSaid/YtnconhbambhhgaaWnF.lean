/- window.first, where every window serves. -/
import Derived.Test.YtnconhbambhhgaaWnD
import Derived.Test.YtnconhbambhhgaaWnE
namespace Go.Proofs.Ytnconhbambhhgaa
open Go.RowKit
set_option linter.all false

def okW (d team : Int) (L : List Win) (T : Nat → List Int) (j : Nat) : Bool := decide (d < (L.getD j win0).to_) && hasB team (T j)
def FirstR (d team : Int) (L : List Win) (T : Nat → List Int) (r : Int) (ok : Bool) : Prop :=
  (r = 0 ∧ ok = false ∧ ∀ j, j < L.length → okW d team L T j = false) ∨ ∃ k : Nat, k < L.length ∧ r = max d (L.getD k win0).from_ ∧ ok = true ∧ okW d team L T k = true ∧ ∀ j, j < k → okW d team L T j = false
def FirstP (d team : Int) (L : List Win) (T : Nat → List Int) (w : World) (e : Ending) (w' : World) : Prop := ∃ r ok, e = .returned (.tuple #[.int .i64 r, .bool ok]) ∧ FirstR d team L T r ok ∧ Below w.heap.size w w'
def FsRel (w : World) (d team : Int) (L : List Win) (T : Nat → List Int) (iv : Value) (wr : World) : Prop := ∃ k : Nat, iv = .int .i64 (k : Int) ∧ k ≤ L.length ∧ (∀ j, j < k → okW d team L T j = false) ∧ Below w.heap.size w wr

theorem ok_snoc {d team : Int} {L : List Win} {T : Nat → List Int} {k : Nat} (h : ∀ j, j < k → okW d team L T j = false) (hk : okW d team L T k = false) : ∀ j, j < k + 1 → okW d team L T j = false := fun j hj => by
  rcases Nat.lt_succ_iff_lt_or_eq.1 hj with h' | h'
  · exact h j h'
  · rw [h']; exact hk

end Go.Proofs.Ytnconhbambhhgaa
