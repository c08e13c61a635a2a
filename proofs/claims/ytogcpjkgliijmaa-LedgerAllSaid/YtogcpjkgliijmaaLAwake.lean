/- The sanity check of the statements of ledger. -/
import Derived.Test.YtogcpjkgliijmaaLatest
import Derived.Test.YtogcpjkgliijmaaAddX
namespace Go.Proofs.Ytogcpjkgliijmaa
open Go.RowKit

def d3 : Dec := ⟨3, 0, 4, 0, 1⟩

set_option maxHeartbeats 1000000 in
theorem lawake_any (w : World) : Calls Try.prog 14 #[] w fun r w' => r = .returned (.bool true) ∧ Below w.heap.size w w' := by
  have c1 := fun W => add_any W (p := none) (c := 0) [] ⟨0, 0, 0, 0, 0⟩ Good.nil (by simp) (.inl rfl)
  have e1 : addN [] ⟨0, 0, 0, 0, 0⟩ = 57 := by decide
  rw [e1, if_neg (by decide)] at c1
  have c2 := fun W => add_any W (p := none) (c := 0) [] d3 Good.nil (by simp) (.inl rfl)
  have e2 : addN [] d3 = 0 := by decide
  rw [e2, if_pos rfl] at c2
  have hg : Good [d3] := Good.nil.snoc (l := []) (d := d3) (by decide) (by decide) (by decide)
  have C1 := Lib.hid c1; have C2 := Lib.hid c2; clear c1 c2 e1 e2
  unfold Dec.val at C1 C2
  go_enter Try.func14, Try.ntmps14
  go_wp2_with fail
  refine (C1.out _).mono ?_
  rintro e w1 ⟨v1, rfl, ⟨p1, c1, rfl, hc1, hx1⟩, hb1⟩
  go_wp2_with fail
  refine (C2.out _).mono ?_
  rintro e w2 ⟨v2, rfl, ⟨p2, c2, rfl, hc2, hx2⟩, hb2⟩
  have hx2' : [d3] = [] ∨ ∃ b o, p2 = some ⟨b, o, none⟩ ∧ Row w2 b o [d3] := by
    rcases hx2 with h | ⟨b, hp, _, h⟩
    · exact .inl h
    · exact .inr ⟨b, 0, hp, h⟩
  clear hx2 hx1
  go_wp2_with fail
  have c3 := latest_any (w2.alloc (.cells #[.slice p2 1 c2] 25)) (p := p2) (c := c2) 4 0 3 [d3] hg (by simp) hc2 (by
    rcases hx2' with h | ⟨b, o, hp, h⟩
    · cases h
    · exact .inr ⟨b, o, hp, h.mono ((Below.refl _ _).alloc (Nat.le_refl _) _)⟩)
  have e3 : latestK [d3] 4 0 (cutN [d3] 3) = some d3 := by rfl
  rw [e3] at c3
  refine c3.mono ?_
  rintro e w3 ⟨rfl, hb3⟩
  unfold Dec.val
  simp only [Option.getD_some, Option.isSome_some, d3]
  go_wp2_with fail
  go_ret
  have k1 : Below w.heap.size w (w1.alloc (.cells #[.slice p1 0 c1] 25)) := hb1.alloc hb1.size _
  have k2 : Below w.heap.size w w2 := k1.trans (hb2.mono k1.size)
  have k3 : Below w.heap.size w (w2.alloc (.cells #[.slice p2 1 c2] 25)) := k2.alloc k2.size _
  have k4 : Below w.heap.size w w3 := k3.trans (hb3.mono k3.size)
  exact ⟨rfl, k4.alloc k4.size _⟩
end Go.Proofs.Ytogcpjkgliijmaa
