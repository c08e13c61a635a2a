/- journal.isValid, journal.write. -/
import Derived.Test.YtogcpjkgliijmaaCheck
namespace Go.Proofs.Ytogcpjkgliijmaa
open Go.RowKit

theorem chk_one (d : Dec) : chk none [d] = if d.ok then 0 else 57 := by
  cases h : d.ok <;> simp [chk, foll, h]

set_option maxHeartbeats 1000000 in
theorem jvalid_any (d : Dec) (w : World) :
    Calls Try.prog 63 #[d.val] w fun r w' => r = .returned (.bool d.ok) ∧ Below w.heap.size w w' := by
  have cC : ∀ (W : World) (b : Nat), Row W b 0 [d] → Calls Try.prog 22 #[.agg #[.slice (some ⟨b, 0, none⟩) 1 1]] W fun r w' => r = .returned (.int .i64 (if d.ok then 0 else 57)) ∧ Below W.heap.size W w' := by
    intro W b hr
    have := check_any W (p := some ⟨b, 0, none⟩) (c := 1) [d] (by simp) (by simp) (.inr ⟨b, 0, rfl, hr⟩)
    rw [chk_one] at this
    exact this
  unfold Dec.val
  have HC := Lib.hid cC; clear cC
  cases hd : d.ok
  all_goals
    rw [hd] at HC
    go_enter Try.func63, Try.ntmps63
    go_wp2_with fail
    refine (HC.out _ _ ?_).mono ?_
    · intro j hj
      obtain rfl : j = 0 := by simp at hj; omega
      simp
    · rintro r w1 ⟨rfl, hb⟩
      go_wp2
      go_ret
      exact ⟨rfl, (((Below.refl _ _).alloc (Nat.le_refl _) _).alloc (by simp) _).trans (hb.mono (by simp; omega))⟩
end Go.Proofs.Ytogcpjkgliijmaa
