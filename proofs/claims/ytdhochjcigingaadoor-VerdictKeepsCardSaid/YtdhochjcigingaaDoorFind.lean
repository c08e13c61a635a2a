/- catalog.Find. -/
import Derived.Test.YtdhochjcigingaaDoorStren
import Derived.LoopTactic
import Derived.Laws.Rows
namespace Go.Proofs.YtdhochjcigingaaDoor
open Go.RowKit
set_option linter.all false

def findS (s : List UInt8) : Nat := ((List.range 23).find? fun j => anm j == s).getD 0

theorem find_hit {s : List UInt8} {k : Nat} (hk : k < 23) (h : ∀ j, j < k → anm j ≠ s) (he : anm k = s) : findS s = k := by
  unfold findS
  rw [List.find?_eq_some_iff_getElem.2 ⟨by simpa using he, k, by simpa using hk, by simp, fun j hj => by simpa using h j hj⟩]
  rfl
theorem find_none {s : List UInt8} (h : ∀ j, j < 23 → anm j ≠ s) : findS s = 0 := by
  unfold findS
  rw [List.find?_eq_none.2 (fun j hj => by simpa using h j (by simpa using hj))]
  rfl

theorem index_alg (k : Nat) (hk : k < 23) (W : World) : (Instr.index 94 (.agg algC.toArray) (.int .i64 k)).run Tryd.prog W = .ok (.agg #[.string ⟨(anm k).toArray⟩, .int .u8 (akd k), .int .u16 (ast k)]) W := by
  have hc : k = 0 ∨ k = 1 ∨ k = 2 ∨ k = 3 ∨ k = 4 ∨ k = 5 ∨ k = 6 ∨ k = 7 ∨ k = 8 ∨ k = 9 ∨ k = 10 ∨ k = 11 ∨ k = 12 ∨ k = 13 ∨ k = 14 ∨ k = 15 ∨ k = 16 ∨ k = 17 ∨ k = 18 ∨ k = 19 ∨ k = 20 ∨ k = 21 ∨ k = 22 := by omega
  clear hk
  rcases hc with rfl | rfl | rfl | rfl | rfl | rfl | rfl | rfl | rfl | rfl | rfl | rfl | rfl | rfl | rfl | rfl | rfl | rfl | rfl | rfl | rfl | rfl | rfl
  all_goals (show _ = _; kernel_rfl)

theorem eq_str (a b : ByteArray) (h : a = b) (W : World) : (binOp .eql 9 (.string a) (.string b)).run Tryd.prog W = .ok (.bool true) W := by
  subst h; go_simp
theorem ne_str (a b : ByteArray) (h : a ≠ b) (W : World) : (binOp .eql 9 (.string a) (.string b)).run Tryd.prog W = .ok (.bool false) W := by
  go_simp
  rw [ByteArray.toList_eq, ByteArray.toList_eq]
  intro e
  exact h (by cases a; cases b; simp_all)

set_option maxHeartbeats 1000000 in
theorem find_any {m : Int} (s : List UInt8) (w : World) (h : Tabs m w) : Calls Tryd.prog 26 #[.string ⟨s.toArray⟩] w (IntP (findS s) w) := by
  obtain ⟨tt, h0⟩ := h.alg
  have hlen : (Tryd.prog.info? 94).map (·.size) = some algC.toArray.size := by kernel_rfl
  have hix0 := index_alg
  have HI := Lib.hid hix0; clear hix0
  generalize algC.toArray = A at *
  go_enter Tryd.func26, Tryd.ntmps26
  go_wp2_with (refine wpList_load_row rfl _ _ rfl 0 rfl tt A (0, 0) _ h0 Tryd.underlying94 rfl hlen ?_)
  go_loopw [3, 4, 6] (fun _ _ i wr => ∃ k : Nat, k ≤ 23 ∧ i = .int .i64 k ∧ (∀ j, j < k → anm j ≠ s) ∧ Below w.heap.size w wr) (fun _ _ i _ => 23 - (intOf i).toNat)
  case atStart => exact ⟨0, by omega, rfl, fun j hj => by omega, Below.refl _ _⟩
  case round =>
    obtain ⟨k, hk, rfl, hn, hb⟩ := hrel
    clear h0 hlen h
    have HN := Lib.hid hn; clear hn
    by_cases hlt : k < 23
    · have hix := HI.out k hlt
      have HB := Lib.hid hb
      have hsz := hb.size
      clear hb
      by_cases he : anm k = s
      · have hq : (anm k == s) = true := by simpa using he
        have HE := Lib.hid he; clear he
        go_wp2_with fail
        go_ret
        exact ⟨ret_i (by rw [find_hit hlt HN.out HE.out]), HB.out.alloc hsz _⟩
      · have hq : (anm k == s) = false := by simpa using he
        have HE := Lib.hid he; clear he
        go_wp2_with fail
        go_roundw
        case rel => exact ⟨k + 1, by omega, by go_num, fun j hj => by
          rcases Nat.lt_succ_iff_lt_or_eq.1 hj with h | h
          · exact HN.out j h
          · subst h; exact HE.out, HB.out.alloc hsz _⟩
        case measure => simp [intOf]; omega
    · have hk' : k = 23 := by omega
      subst hk'
      go_wp2_with fail
      go_ret
      exact ⟨ret_i (by rw [find_none HN.out]; rfl), hb⟩
end Go.Proofs.YtdhochjcigingaaDoor
