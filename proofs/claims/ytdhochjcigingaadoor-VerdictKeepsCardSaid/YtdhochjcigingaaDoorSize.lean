/- catalog.ofSize. -/
import Derived.Test.YtdhochjcigingaaDoorStr
namespace Go.Proofs.YtdhochjcigingaaDoor
open Go.RowKit
set_option linter.all false

def sizeS (a b : Int) : Int :=
  if a = 14 ∧ b = 40 then 40 else if a = 14 ∧ b = 128 then 60 else if a = 15 ∧ b = 112 then 80 else if a = 15 ∧ b = 168 then 112
  else if a = 9 ∧ b = 44 then 128 else if a = 13 ∧ b = 512 then 128 else if a = 9 ∧ b = 65 then 192 else if a = 13 ∧ b = 768 then 192
  else if a = 9 ∧ b = 87 then 256 else if a = 13 ∧ b = 1024 then 256 else 0

theorem eq_use (a b c d : Int) (h : ¬ (a = c ∧ b = d)) (W : World) : (binOp .eql 23 (.agg #[.int .i64 a, .int .i64 b]) (.agg #[.int .i64 c, .int .i64 d])).run Tryd.prog W = .ok (.bool false) W := by
  go_simp
  intro e0 e1
  exact h ⟨by simp_all, by simp_all⟩

def SizePost (a b : Int) (w : World) (e : Ending) (w' : World) : Prop := e = .returned (.int .i64 (sizeS a b)) ∧ Below w.heap.size w w'
set_option maxHeartbeats 4000000 in
theorem size_any (a b : Int) (w : World) : Calls Tryd.prog 62 #[.agg #[.int .i64 a, .int .i64 b]] w (SizePost a b w) := by
  have hb : Below w.heap.size w (w.alloc (.cells #[.int .i64 a, .int .i64 b] 23)) := (Below.refl _ _).alloc (Nat.le_refl _) _
  have HB := Lib.hid hb; clear hb
  by_cases h1 : a = 14 ∧ b = 40
  · obtain ⟨rfl, rfl⟩ := h1
    go_enter Tryd.func62, Tryd.ntmps62
    go_wp2_with fail
    go_ret
    exact ⟨rfl, HB.out⟩
  have e1 := eq_use a b 14 40 h1
  by_cases h2 : a = 14 ∧ b = 128
  · obtain ⟨rfl, rfl⟩ := h2
    go_enter Tryd.func62, Tryd.ntmps62
    go_wp2_with fail
    go_ret
    exact ⟨rfl, HB.out⟩
  have e2 := eq_use a b 14 128 h2
  by_cases h3 : a = 15 ∧ b = 112
  · obtain ⟨rfl, rfl⟩ := h3
    go_enter Tryd.func62, Tryd.ntmps62
    go_wp2_with fail
    go_ret
    exact ⟨rfl, HB.out⟩
  have e3 := eq_use a b 15 112 h3
  by_cases h4 : a = 15 ∧ b = 168
  · obtain ⟨rfl, rfl⟩ := h4
    go_enter Tryd.func62, Tryd.ntmps62
    go_wp2_with fail
    go_ret
    exact ⟨rfl, HB.out⟩
  have e4 := eq_use a b 15 168 h4
  by_cases h5 : a = 9 ∧ b = 44
  · obtain ⟨rfl, rfl⟩ := h5
    go_enter Tryd.func62, Tryd.ntmps62
    go_wp2_with fail
    go_ret
    exact ⟨rfl, HB.out⟩
  have e5 := eq_use a b 9 44 h5
  by_cases h6 : a = 13 ∧ b = 512
  · obtain ⟨rfl, rfl⟩ := h6
    go_enter Tryd.func62, Tryd.ntmps62
    go_wp2_with fail
    go_ret
    exact ⟨rfl, HB.out⟩
  have e6 := eq_use a b 13 512 h6
  by_cases h7 : a = 9 ∧ b = 65
  · obtain ⟨rfl, rfl⟩ := h7
    go_enter Tryd.func62, Tryd.ntmps62
    go_wp2_with fail
    go_ret
    exact ⟨rfl, HB.out⟩
  have e7 := eq_use a b 9 65 h7
  by_cases h8 : a = 13 ∧ b = 768
  · obtain ⟨rfl, rfl⟩ := h8
    go_enter Tryd.func62, Tryd.ntmps62
    go_wp2_with fail
    go_ret
    exact ⟨rfl, HB.out⟩
  have e8 := eq_use a b 13 768 h8
  by_cases h9 : a = 9 ∧ b = 87
  · obtain ⟨rfl, rfl⟩ := h9
    go_enter Tryd.func62, Tryd.ntmps62
    go_wp2_with fail
    go_ret
    exact ⟨rfl, HB.out⟩
  have e9 := eq_use a b 9 87 h9
  by_cases h10 : a = 13 ∧ b = 1024
  · obtain ⟨rfl, rfl⟩ := h10
    go_enter Tryd.func62, Tryd.ntmps62
    go_wp2_with fail
    go_ret
    exact ⟨rfl, HB.out⟩
  have e10 := eq_use a b 13 1024 h10
  have hz : sizeS a b = 0 := by
    unfold sizeS
    rw [if_neg h1, if_neg h2, if_neg h3, if_neg h4, if_neg h5, if_neg h6, if_neg h7, if_neg h8, if_neg h9, if_neg h10]
  have HZ := Lib.hid hz
  clear hz h1 h2 h3 h4 h5 h6 h7 h8 h9 h10
  go_enter Tryd.func62, Tryd.ntmps62
  go_wp2_with fail
  go_ret
  exact ⟨ret_i HZ.out.symm, HB.out⟩
end Go.Proofs.YtdhochjcigingaaDoor
