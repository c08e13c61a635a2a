/- The sanity check of the statements of journal. -/
import Derived.Test.YtogcpjkgliijmaaEnc
namespace Go.Proofs.Ytogcpjkgliijmaa
open Go.RowKit

theorem sumS_nil : sumS [] = 2166136261 := rfl

set_option maxHeartbeats 1000000 in
theorem jawake_any (w : World) : Calls Try.prog 38 #[] w fun r w' => r = .returned (.bool true) ∧ Below w.heap.size w w' := by
  have c1 := fun W => encode_ok ⟨0, 0, 1, 0, 0⟩ W (by decide)
  have c2 := fun W => encode_bad ⟨0, 0, 0, 0, 0⟩ W (by decide)
  have c3 := fun W => sum_any ByteArray.empty W (by decide)
  have hl : (encB ⟨0, 0, 1, 0, 0⟩).length = 12 := encB_len _
  generalize encB ⟨0, 0, 1, 0, 0⟩ = l at c1 hl
  change ∀ W, Calls Try.prog 55 #[.string ByteArray.empty] W fun e w' => e = .returned (.int .i64 ((sumS [] : Nat) : Int)) ∧ w' = W at c3
  rw [sumS_nil] at c3
  unfold Dec.val at c1 c2
  have C1 := Lib.hid c1; have C2 := Lib.hid c2; have C3 := Lib.hid c3; clear c1 c2 c3
  have hs : (⟨l.toArray⟩ : ByteArray).size = 12 := by show l.toArray.size = 12; simpa using hl
  clear hl
  have HS := Lib.hid hs; clear hs
  generalize (⟨l.toArray⟩ : ByteArray) = s at C1 HS
  go_enter Try.func38, Try.ntmps38
  go_wp2_with fail
  refine (C1.out _).mono ?_; rintro r w1 ⟨rfl, b1⟩
  go_wp2_with fail
  refine (C2.out _).mono ?_; rintro r w2 ⟨rfl, b2⟩
  go_wp2_with fail
  refine (C3.out _).mono ?_; rintro r w3 ⟨rfl, rfl⟩
  have hs : ((s.size : Int) == 12) = true := by rw [HS.out]; decide
  go_wp2_with fail
  go_ret
  exact ⟨rfl, below_step b1 b2⟩
end Go.Proofs.Ytogcpjkgliijmaa
