/- The document's Find (27), Code (29). -/
import Derived.Test.YtdhochjcigingaaDoorRefRow
import Derived.Test.YtdhochjcigingaaDoorFind
namespace Go.Proofs.YtdhochjcigingaaDoor
open Go.RowKit
set_option linter.all false

theorem anm_inj : ∀ i, i < 23 → ∀ j, j < 23 → anm i = anm j → i = j := by decide +kernel
theorem findR_hit {s : List UInt8} {k : Nat} (_h1 : 1 ≤ k) (hk : k < 23) (he : anm k = s) : findS s = k :=
  find_hit hk (fun j hj e => by have := anm_inj j (by omega) k hk (e.trans he.symm); omega) he
theorem findR_none {s : List UInt8} (h : ∀ j, 1 ≤ j → j < 23 → anm j ≠ s) : findS s = 0 := by
  by_cases hs : s = []
  · subst hs; decide +kernel
  · exact find_none (fun j hj e => by
      cases j with
      | zero => exact hs e.symm
      | succ j => exact h (j + 1) (by omega) hj e)

set_option maxHeartbeats 1000000 in
theorem reffind_any (s : List UInt8) (w : World) : Calls Tryd.prog 27 #[.string ⟨s.toArray⟩] w (IntP (findS s) w) := by
  have cR := fun W => refrows_at W
  go_enter Tryd.func27, Tryd.ntmps27
  go_wp2_with fail
  go_loopw [3] (fun i wr => ∃ k : Nat, 1 ≤ k ∧ k ≤ 23 ∧ i = .int .i64 (k : Int) ∧ (∀ j, 1 ≤ j → j < k → anm j ≠ s) ∧ Below w.heap.size w wr) (fun i _ => 23 - (intOf i).toNat)
  case atStart => exact ⟨1, by omega, by omega, rfl, fun j h0 hj => by omega, Below.refl _ _⟩
  case round =>
    obtain ⟨k, hk1, hk, rfl, hn, hb⟩ := hrel
    have HN := Lib.hid hn; have HB := Lib.hid hb; clear hn hb
    by_cases hlt : k < 23
    · have h1 : (k : Int) ≤ 22 := by omega
      go_wp2_with fail
      refine (cR _).mono ?_
      rintro e W1 ⟨R, rfl, hv, hb1⟩
      obtain ⟨c0, c1⟩ := hv k hlt
      have HB1 := Lib.hid (HB.out.trans (hb1.mono HB.out.size))
      have h2 : (k : Int) < 23 := by omega
      have h3 : (0 : Int) ≤ (k : Int) := by omega
      clear hv hb1
      by_cases he : anm k = s
      · have hq : (anm k == s) = true := by simpa using he
        have HE := Lib.hid he; clear he
        go_wp2_with fail
        go_ret
        exact ⟨ret_i (by rw [findR_hit hk1 hlt HE.out]), HB1.out⟩
      · have hq : (anm k == s) = false := by simpa using he
        have HE := Lib.hid he; clear he
        go_wp2_with fail
        go_roundw
        case rel => exact ⟨k + 1, by omega, by omega, by go_num, fun j h0 hj => by
          rcases Nat.lt_succ_iff_lt_or_eq.1 hj with h | h
          · exact HN.out j h0 h
          · subst h; exact HE.out, HB1.out⟩
        case measure => simp [intOf]; omega
    · have hk' : k = 23 := by omega
      subst hk'
      go_wp2_with fail
      go_ret
      exact ⟨ret_i (by rw [findR_none HN.out]; rfl), HB.out⟩
end Go.Proofs.YtdhochjcigingaaDoor
