/- The document's Code (29). -/
import Derived.Test.YtdhochjcigingaaDoorTable
import Derived.Test.YtdhochjcigingaaDoorBackA
namespace Go.Proofs.YtdhochjcigingaaDoor
open Go.RowKit
set_option linter.all false

theorem rown_inj : ∀ i, i < 17 → ∀ j, j < 17 → (rowAt i).name = (rowAt j).name → i = j := by decide +kernel
theorem codeR_hit {s : List UInt8} {k : Nat} (hk : k < 17) (he : (rowAt k).name = s) : codeS s = k :=
  code_hit hk (fun j hj e => by have := rown_inj j (by omega) k hk (e.trans he.symm); omega) he
theorem codeR_none {s : List UInt8} (h : ∀ j, j < 16 → (rowAt (j + 1)).name ≠ s) : codeS s = 0 := by
  by_cases hs : s = []
  · subst hs; decide +kernel
  · exact code_none (fun j hj e => by
      cases j with
      | zero => exact hs e.symm
      | succ j => exact h j (by omega) e)

set_option maxHeartbeats 1000000 in
theorem refcode_any (s : List UInt8) (w : World) : Calls Tryd.prog 29 #[.string ⟨s.toArray⟩] w (IntP (codeS s) w) := by
  go_enter Tryd.func29, Tryd.ntmps29
  go_wp2_with fail
  refine (refsuites_v _).mono ?_
  rintro e W ⟨R, cap, rfl, hcap, hv, hb⟩
  have HV := Lib.hid hv; have HB := Lib.hid hb; clear hv hb
  go_wp2_with fail
  go_loopw [4] (fun i wr => ∃ k : Nat, k ≤ 16 ∧ i = .int .i64 (k : Int) ∧ (∀ j, j < k → (rowAt (j + 1)).name ≠ s) ∧ W = wr) (fun i _ => 16 - (intOf i).toNat)
  case atStart => exact ⟨0, by omega, rfl, fun j hj => by omega, rfl⟩
  case round =>
    obtain ⟨k, hk, rfl, hn, rfl⟩ := hrel
    have HN := Lib.hid hn; clear hn
    by_cases hlt : k < 16
    · obtain ⟨a0, a1, _⟩ := HV.out.at12 k hlt
      by_cases he : (rowAt (k + 1)).name = s
      · have hq : ((rowAt (k + 1)).name == s) = true := by simpa using he
        have HE := Lib.hid he; clear he
        generalize hr : rowAt (k + 1) = r at a1 hq
        have HR := Lib.hid hr; clear hr
        generalize hc : ((k + 1 : Nat) : Int) = c at a0
        have HC := Lib.hid hc; clear hc
        go_wp2_with fail
        go_ret
        exact ⟨ret_i (by rw [codeR_hit (by omega) HE.out, HC.out]), HB.out⟩
      · have hq : ((rowAt (k + 1)).name == s) = false := by simpa using he
        have HE := Lib.hid he; clear he a0
        generalize hr : rowAt (k + 1) = r at a1 hq
        have HR := Lib.hid hr; clear hr
        go_wp2_with fail
        go_roundw
        case rel => exact ⟨k + 1, by omega, by go_num, fun j hj => by
          rcases Nat.lt_succ_iff_lt_or_eq.1 hj with h | h
          · exact HN.out j h
          · subst h; exact HE.out, by first | rfl | trivial⟩
        case measure => simp [intOf]; omega
    · have hk' : k = 16 := by omega
      subst hk'
      go_wp2_with fail
      go_ret
      exact ⟨ret_i (by rw [codeR_none HN.out]; rfl), HB.out⟩
end Go.Proofs.YtdhochjcigingaaDoor
