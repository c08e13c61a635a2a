/- der.Same of two elements, of which no two lists of elements must be compared. -/
import Derived.Test.YtppodhbfjnekcaaBase
namespace Go.Proofs.Ytppodhbfjnekcaa
open Go.RowKit

theorem bcell {W w1 : World} (hb : Below W.heap.size W w1) : (∀ b o, b < W.heap.size → w1.cell? ⟨b, o, none⟩ = W.cell? ⟨b, o, none⟩) ∧ (∀ b o, b < W.heap.size → w1.frozen? ⟨b, o, none⟩ = W.frozen? ⟨b, o, none⟩) :=
  ⟨fun b o h => hb.cell (p := ⟨b, o, none⟩) h, fun b o h => hb.frozen (p := ⟨b, o, none⟩) h⟩

set_option maxHeartbeats 1000000 in
theorem same_no {va vb : Value} {la lb : List UInt8} {ta tb : Int} {na nb : Bool} {ka kb ca cb : Nat} {pa pb : Option Addr} (w : World) (ha : Bts w va la) (hb : Bts w vb lb) (hr : alikeB ta tb na nb la lb ka kb = false) :
    Calls Try.prog 14 #[.agg #[.int .i64 ta, va, .bool na, .slice pa ka ca], .agg #[.int .i64 tb, vb, .bool nb, .slice pb kb cb]] w fun e w' => e = .returned (.bool false) ∧ Below w.heap.size w w' := by
  have hmm := @run_makeMap Try.prog
  have hal := fun {W : World} (hW : Below w.heap.size w W) {bA oA bB oB : Nat} (hA : El W bA oA ta va na (.slice pa ka ca)) (hB : El W bB oB tb vb nb (.slice pb kb cb)) => alike_any W hA hB (ha.mono hW) (hb.mono hW)
  rw [hr] at hal
  have hr' := Lib.hid hr; clear hr ha hb
  go_enter Try.func14, Try.ntmps14
  go_wp2_with fail
  refine wp_loop_rounds 2 ?_; rw [rounds_succ]
  go_wp2_with fail
  refine (hal ?_ ?_ ?_).mono ?_
  rotate_right
  · rintro e w1 ⟨rfl, hb1⟩
    obtain ⟨hc, hf⟩ := bcell hb1
    go_wp2
    go_ret
    refine ⟨rfl, ?_⟩
    refine Below.trans ?_ (hb1.mono (by simp; omega))
    repeat' (first | exact Below.refl _ _ | refine Below.alloc ?_ (by simp; try omega) _)
  · repeat' (first | exact Below.refl _ _ | refine Below.alloc ?_ (by simp; try omega) _)
  · constructor <;> go_simp
  · constructor <;> go_simp

set_option maxHeartbeats 1000000 in
theorem same_yes {va vb : Value} {la lb : List UInt8} {ta tb : Int} {na nb : Bool} {ca cb : Nat} {pa pb : Option Addr} (w : World) (ha : Bts w va la) (hb : Bts w vb lb) (hr : alikeB ta tb na nb la lb 0 0 = true) :
    Calls Try.prog 14 #[.agg #[.int .i64 ta, va, .bool na, .slice pa 0 ca], .agg #[.int .i64 tb, vb, .bool nb, .slice pb 0 cb]] w fun e w' => e = .returned (.bool true) ∧ Below w.heap.size w w' := by
  have hmm := @run_makeMap Try.prog
  have hal := fun {W : World} (hW : Below w.heap.size w W) {bA oA bB oB : Nat} (hA : El W bA oA ta va na (.slice pa 0 ca)) (hB : El W bB oB tb vb nb (.slice pb 0 cb)) => alike_any W hA hB (ha.mono hW) (hb.mono hW)
  rw [hr] at hal
  have hr' := Lib.hid hr; clear hr ha hb
  go_enter Try.func14, Try.ntmps14
  go_wp2_with fail
  refine wp_loop_rounds 2 ?_; rw [rounds_succ]
  go_wp2_with fail
  refine (hal ?_ ?_ ?_).mono ?_
  rotate_right
  · rintro e w1 ⟨rfl, hb1⟩
    obtain ⟨hc, hf⟩ := bcell hb1
    go_wp2_with fail
    refine wp_loop_rounds 1 ?_; rw [rounds_succ]
    go_wp2_with fail
    rw [rounds_succ]
    go_wp2
    go_show
    go_ret
    refine ⟨rfl, ?_⟩
    refine Below.trans ?_ (hb1.mono (by simp; omega))
    repeat' (first | exact Below.refl _ _ | refine Below.alloc ?_ (by simp; try omega) _)
  · repeat' (first | exact Below.refl _ _ | refine Below.alloc ?_ (by simp; try omega) _)
  · constructor <;> go_simp
  · constructor <;> go_simp

/-- Two elements, if no elements of theirs are compared. -/
theorem same_leaf {va vb : Value} {la lb : List UInt8} {ta tb : Int} {na nb : Bool} {ka kb ca cb : Nat} {pa pb : Option Addr} (w : World) (ha : Bts w va la) (hb : Bts w vb lb) (hk : ka = kb → ka = 0) :
    Calls Try.prog 14 #[.agg #[.int .i64 ta, va, .bool na, .slice pa ka ca], .agg #[.int .i64 tb, vb, .bool nb, .slice pb kb cb]] w fun e w' => e = .returned (.bool (alikeB ta tb na nb la lb ka kb)) ∧ Below w.heap.size w w' := by
  cases hr : alikeB ta tb na nb la lb ka kb
  · exact same_no w ha hb hr
  · have h : ka = kb := by simp [alikeB] at hr; exact hr.2
    have h0 := hk h
    subst h0; subst h
    exact same_yes w ha hb hr

end Go.Proofs.Ytppodhbfjnekcaa
