/- Requirements: less, Same. -/
import Derived.Test.YtgeldpkopolnfaaDoorRegC
import Derived.Deep.Cut
import Derived.Deep.CutRange
import Derived.OwnWalk
namespace Go.Proofs.YtgeldpkopolnfaaDoor
open Go.RowKit
set_option linter.all false

/-- A requirement: first, then. -/
abbrev Rq := Int × Int
def rq0 : Rq := (0, 0)
/-- A row of requirements that is read. -/
def ReqsAt (W : World) (p : Option Addr) (L : List Rq) : Prop := ∀ j, j < L.length → ∃ b o, p = some ⟨b, o, none⟩ ∧ W.cell? ⟨b, o + j * 2, none⟩ = some (.int .i64 (L.getD j rq0).1) ∧ W.cell? ⟨b, o + j * 2 + 1, none⟩ = some (.int .i64 (L.getD j rq0).2)
theorem ReqsAt.step {W W' : World} {p : Option Addr} {L : List Rq} (h : ReqsAt W p L) (hb : Below W.heap.size W W') : ReqsAt W' p L := fun j hj => by
  obtain ⟨b, o, hp, h1, h2⟩ := h j hj
  exact ⟨b, o, hp, cell_later' hb h1, cell_later' hb h2⟩
theorem ReqsAt.nil (W : World) (p : Option Addr) : ReqsAt W p [] := fun j hj => by simp at hj

def lessB (a b : Rq) : Bool := if a.1 = b.1 then decide (a.2 < b.2) else decide (a.1 < b.1)

set_option maxHeartbeats 1000000 in
theorem less_any (a b : Rq) (w : World) : Calls Tryd.prog 47 #[.agg #[.int .i64 a.1, .int .i64 a.2], .agg #[.int .i64 b.1, .int .i64 b.2]] w (BoolP (lessB a b) w) := by
  obtain ⟨x, y⟩ := a
  obtain ⟨z, u⟩ := b
  show Calls Tryd.prog 47 #[.agg #[.int .i64 x, .int .i64 y], .agg #[.int .i64 z, .int .i64 u]] w (BoolP (if x = z then decide (y < u) else decide (x < z)) w)
  have hb := ((Below.refl w.heap.size w).alloc (Nat.le_refl _) (.cells #[.int .i64 x, .int .i64 y] 47)).alloc (by simp) (.cells #[.int .i64 z, .int .i64 u] 47)
  have HB := Lib.hid hb; clear hb
  by_cases h : x = z
  · subst h
    rw [if_pos rfl]
    generalize hq : decide (y < u) = q
    have HQ := Lib.hid hq
    go_enter Tryd.func47, Tryd.ntmps47
    go_wp2_with fail
    go_ret
    exact ⟨by first | rfl | rw [← HQ.out], HB.out⟩
  · rw [if_neg h]
    have hne : (x == z) = false := by simpa using h
    generalize hq : decide (x < z) = q
    have HQ := Lib.hid hq
    go_enter Tryd.func47, Tryd.ntmps47
    go_wp2_with fail
    go_ret
    exact ⟨by first | rfl | rw [← HQ.out], HB.out⟩

def sameL (L M : List Rq) : Bool := decide (L = M)

end Go.Proofs.YtgeldpkopolnfaaDoor
