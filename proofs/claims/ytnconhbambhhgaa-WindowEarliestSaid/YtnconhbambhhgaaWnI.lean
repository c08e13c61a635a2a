/- window.Next, May, At of a good calendar. -/
import Derived.Test.YtnconhbambhhgaaWnH
namespace Go.Proofs.Ytnconhbambhhgaa
open Go.RowKit
set_option linter.all false

def NextP (d team : Int) (L : List Win) (T : Nat → List Int) (w : World) (e : Ending) (w' : World) : Prop := ∃ r ok, e = .returned (.tuple #[.int .i64 r, .bool ok, .int .i64 0]) ∧ FirstR d team L T r ok ∧ Below w.heap.size w w'
def May2P (d team : Int) (L : List Win) (T : Nat → List Int) (w : World) (e : Ending) (w' : World) : Prop := ∃ r : Int, FindR d L r ∧ e = .returned (.tuple #[.bool (mayR r team T), .int .i64 0]) ∧ Below w.heap.size w w'
def AtP (d : Int) (L : List Win) (w : World) (e : Ending) (w' : World) : Prop := ∃ r : Int, FindR d L r ∧ e = .returned (.tuple #[.int .i64 (max r 0), .bool (decide (0 ≤ r)), .int .i64 0]) ∧ Below w.heap.size w w'

set_option maxHeartbeats 2000000 in
theorem at_good (p q r : Option Addr) (L : List Win) (T : Nat → List Int) (Q R : List Int) (c1 c2 c3 : Nat) (d : Int) (w : World) (h : GoodCal w p q r L T Q R) :
    Calls Try.prog 20 #[.agg #[.slice p L.length c1, .slice q Q.length c2, .slice r R.length c3], .int .i64 d] w (AtP d L w) := by
  have hb0 := (Below.refl w.heap.size w).alloc (Nat.le_refl _) (.cells #[.slice p L.length c1, .slice q Q.length c2, .slice r R.length c3] 38)
  have hx : CalBox w.heap.size p q r L.length c1 Q.length c2 R.length c3 (w.alloc (.cells #[.slice p L.length c1, .slice q Q.length c2, .slice r R.length c3] 38)) := ⟨by simp, by simp, by simp⟩
  have hg := h.step hb0
  have CC := Lib.hid (check_good p q r L T Q R c1 c2 c3 _ hg)
  have CF := Lib.hid (fun W (hW : Below _ _ W) => find_any p q r c1 Q.length c2 R.length c3 L d W (by have := h.l1; omega) (hg.wins.step hW))
  have XL := Lib.hid (fun W (hW : Below _ _ W) => hx.step hW)
  have HB0 := Lib.hid hb0
  obtain ⟨x0, x1, x2⟩ := hx
  have hlt : w.heap.size < (w.alloc (.cells #[.slice p L.length c1, .slice q Q.length c2, .slice r R.length c3] 38)).heap.size := block_lt_of_cell x0
  have HLT := Lib.hid hlt
  clear h hg hb0 hlt
  generalize L.length = nL at *
  generalize Q.length = nQ at *
  generalize R.length = nR at *
  go_enter Try.func20, Try.ntmps20
  go_wp2_with fail
  refine (CC.out).mono ?_
  rintro e w1 ⟨rfl, hb1⟩
  clear x0 x1 x2
  obtain ⟨x0, x1, x2⟩ := XL.out w1 hb1
  have HB1 := Lib.hid hb1; clear hb1
  go_wp2_with fail
  refine (CF.out w1 HB1.out).mono ?_
  rintro e w2 ⟨x, rfl, hfr, hb2⟩
  have HB2 := Lib.hid (HB1.out.trans (hb2.mono HB1.out.size)); clear hb2
  have HF := Lib.hid hfr
  by_cases hx0 : 0 ≤ x
  · have hm : max x 0 = x := Int.max_eq_left hx0
    have HM := Lib.hid hm; have hd : decide (0 ≤ x) = true := decide_eq_true hx0
    clear hm hfr
    go_wp2_with fail
    exact bodyPost_ret (v := .tuple #[.int .i64 x, .bool true, .int .i64 0]) (by simp [results, Try.results20, go_sem]) rfl ⟨x, HF.out, by rw [HM.out, hd], HB0.out.trans (HB2.out.mono (Nat.le_of_lt HLT.out))⟩
  · have hm : max x 0 = 0 := Int.max_eq_right (by omega)
    have HM := Lib.hid hm; have hd : decide (0 ≤ x) = false := decide_eq_false hx0
    have hxx : x < 0 := by omega
    clear hm hfr
    go_wp2_with fail
    exact bodyPost_ret (v := .tuple #[.int .i64 0, .bool false, .int .i64 0]) (by simp [results, Try.results20, go_sem]) rfl ⟨x, HF.out, by rw [HM.out, hd], HB0.out.trans (HB2.out.mono (Nat.le_of_lt HLT.out))⟩
end Go.Proofs.Ytnconhbambhhgaa
