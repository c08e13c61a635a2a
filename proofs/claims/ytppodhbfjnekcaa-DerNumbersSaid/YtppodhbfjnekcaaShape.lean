/- der.hasShape: what it says of an element, but for what is within it. -/
import Derived.Test.YtppodhbfjnekcaaBase
import Derived.Deep.RegionWith
namespace Go.Proofs.Ytppodhbfjnekcaa
open Go.RowKit

def tagB (t : Int) : Bool := decide (1 ≤ t) && decide (t ≤ 255) && (bits BinOp.and IntKind.i64 t 31 != 31)
def nestB (t : Int) : Bool := bits BinOp.and IntKind.i64 t 32 != 0

set_option maxHeartbeats 400000 in
theorem isTag_any (t : Int) (w : World) : Calls Try.prog 71 #[.int .i64 t] w fun e w' => e = .returned (.bool (tagB t)) ∧ w' = w := by
  have key : ∀ r, tagB t = r → Calls Try.prog 71 #[.int .i64 t] w fun e w' => e = .returned (.bool r) ∧ w' = w := by
    intro r hr
    have HR := Lib.hid hr; clear hr
    by_cases h1 : 1 ≤ t
    · by_cases h2 : t ≤ 255
      · go_enter Try.func71, Try.ntmps71
        go_wp2
        go_ret
        refine ⟨?_, rfl⟩
        rw [← HR.out]; simp [tagB, h1, h2]
      · go_enter Try.func71, Try.ntmps71
        go_wp2
        go_ret
        refine ⟨?_, rfl⟩
        rw [← HR.out]; simp [tagB, h1]; omega
    · go_enter Try.func71, Try.ntmps71
      go_wp2
      go_ret
      refine ⟨?_, rfl⟩
      rw [← HR.out]; simp [tagB]; omega
  exact key _ rfl

set_option maxHeartbeats 400000 in
theorem isNested_any (t : Int) (w : World) : Calls Try.prog 72 #[.int .i64 t] w fun e w' => e = .returned (.bool (nestB t)) ∧ w' = w := by
  go_enter Try.func72, Try.ntmps72
  go_wp2
  go_ret
  exact ⟨rfl, rfl⟩

/-- What 'hasShape' says: ll bytes, kk elements. -/
def shapeB (t : Int) (nb : Bool) (ll kk : Nat) : Bool := tagB t && (nb == nestB t) && (if nb then ll == 0 else kk == 0)

set_option maxHeartbeats 1000000 in
theorem hasShape_any {t : Int} {nb : Bool} {ll cl kk ck : Nat} {pl pk : Option Addr} (w : World) :
    Calls Try.prog 59 #[.agg #[.int .i64 t, .slice pl ll cl, .bool nb, .slice pk kk ck]] w fun e w' => e = .returned (.bool (shapeB t nb ll kk)) ∧ Below w.heap.size w w' := by
  have key : ∀ r, shapeB t nb ll kk = r → Calls Try.prog 59 #[.agg #[.int .i64 t, .slice pl ll cl, .bool nb, .slice pk kk ck]] w fun e w' => e = .returned (.bool r) ∧ Below w.heap.size w w' := by
    intro r hr
    have HR := Lib.hid hr; clear hr
    have hW := (Below.refl w.heap.size w).alloc (Nat.le_refl _) (.cells #[.int .i64 t, .slice pl ll cl, .bool nb, .slice pk kk ck] 30)
    cases h1 : tagB t
    · have ht := fun W => isTag_any t W
      simp only [h1] at ht
      have H1 := Lib.hid h1; clear h1
      go_enter Try.func59, Try.ntmps59
      go_wp2
      go_quiet ((go_at_call 71; exact Calls.quiet_of_same (ht _)))
      go_wp2
      go_ret
      refine ⟨?_, below_drewN hW _⟩
      rw [← HR.out]; simp [shapeB, H1.out]
    · have ht := fun W => isTag_any t W
      simp only [h1] at ht
      have hn := fun W => isNested_any t W
      have H1 := Lib.hid h1; clear h1
      generalize hq : nestB t = q at hn
      have H2 := Lib.hid hq; clear hq
      cases nb <;> cases q
      all_goals
        go_enter Try.func59, Try.ntmps59
        go_wp2
        go_quiet ((first | (go_at_call 71; exact Calls.quiet_of_same (ht _)) | (go_at_call 72; exact Calls.quiet_of_same (hn _))))
        go_wp2
        go_ret
        refine ⟨?_, below_drewN hW _⟩
        rw [← HR.out]; simp [shapeB, H1.out, H2.out]
        try (rw [Bool.eq_iff_iff]; simp)
  exact key _ rfl

end Go.Proofs.Ytppodhbfjnekcaa
