/- AsBool of both. -/
import Derived.Test.YtppodhbfjnekcaaRefAsText
namespace Go.Proofs.Ytppodhbfjnekcaa
open Go.RowKit

/-- Whether an element is that of a truth value. -/
def isBool (b : Bool) (t : Int) (nb : Bool) (l : List UInt8) (k : Nat) : Bool := alikeB t 1 nb false l (boolB b) k 0

set_option maxRecDepth 100000 in
set_option maxHeartbeats 1000000 in
theorem asBool_first {t : Int} {nb : Bool} {sv : Value} {l : List UInt8} {p : Option Addr} {k c : Nat} (w : World) (h : Bts w sv l) (h0 : isBool false t nb l k = true) :
    Calls Try.prog 24 #[.agg #[.int .i64 t, sv, .bool nb, .slice p k c]] w fun e w' => e = .returned (.tuple #[.bool false, .int .i64 0]) ∧ Below w.heap.size w w' := by
  have hsame := fun {W : World} (hW : Below w.heap.size w W) {vb : Value} (hb : Bts W vb (boolB false)) => same_leaf (ta := t) (tb := 1) (na := nb) (nb := false) (ka := k) (kb := 0) (ca := c) (cb := 0) (pa := p) (pb := none) W (h.mono hW) hb (fun e => e)
  simp only [show alikeB t 1 nb false l (boolB false) k 0 = _ from h0] at hsame
  clear h h0
  go_enter Try.func24, Try.ntmps24
  go_wp2_with fail
  refine wp_loop_rounds 3 ?_; rw [rounds_succ]
  go_wp2_with fail
  first | skip; go_region_with (first | (go_at_call 25; refine (bool_der false _).mono ?_; rintro e w1 ⟨v1, rfl, hv1, hb1⟩; obtain ⟨hc1, hf1⟩ := bcell hb1; have hbw : Below w.heap.size w _ := below_step (((Below.refl _ _).alloc (Nat.le_refl _) _).alloc (by simp) _).drew hb1) | (go_at_call 14; refine (hsame hbw hv1).mono ?_; rintro e w2 ⟨rfl, hb2⟩)) | fail
  all_goals
    go_wp2
    go_ret2
    exact ⟨rfl, below_step hbw hb2⟩

set_option maxRecDepth 100000 in
set_option maxHeartbeats 2000000 in
theorem asBool_second {t : Int} {nb : Bool} {sv : Value} {l : List UInt8} {p : Option Addr} {k c : Nat} (w : World) (h : Bts w sv l) (h0 : isBool false t nb l k = false) (q : Bool) (h1 : isBool true t nb l k = q) (re : Int) (hres : Hid (q = true ∧ re = 0 ∨ q = false ∧ re = 1)) :
    Calls Try.prog 24 #[.agg #[.int .i64 t, sv, .bool nb, .slice p k c]] w fun e w' => e = .returned (.tuple #[.bool q, .int .i64 re]) ∧ Below w.heap.size w w' := by
  have hsame0 := fun {W : World} (hW : Below w.heap.size w W) {vb : Value} (hb : Bts W vb (boolB false)) => same_leaf (ta := t) (tb := 1) (na := nb) (nb := false) (ka := k) (kb := 0) (ca := c) (cb := 0) (pa := p) (pb := none) W (h.mono hW) hb (fun e => e)
  simp only [show alikeB t 1 nb false l (boolB false) k 0 = _ from h0] at hsame0
  have hsame1 := fun {W : World} (hW : Below w.heap.size w W) {vb : Value} (hb : Bts W vb (boolB true)) => same_leaf (ta := t) (tb := 1) (na := nb) (nb := false) (ka := k) (kb := 0) (ca := c) (cb := 0) (pa := p) (pb := none) W (h.mono hW) hb (fun e => e)
  simp only [show alikeB t 1 nb false l (boolB true) k 0 = _ from h1] at hsame1
  clear h h0 h1
  cases q
  · obtain rfl : re = 1 := by have := hres.out; simpa using this
    go_enter Try.func24, Try.ntmps24
    go_wp2_with fail
    refine wp_loop_rounds 3 ?_; rw [rounds_succ]
    go_wp2_with fail
    first | skip; go_region_with (first | (go_at_call 25; refine (bool_der false _).mono ?_; rintro e w1 ⟨v1, rfl, hv1, hb1⟩; obtain ⟨hc1, hf1⟩ := bcell hb1; have hbw : Below w.heap.size w _ := below_step (((Below.refl _ _).alloc (Nat.le_refl _) _).alloc (by simp) _).drew hb1; have hz1 := hb1.size) | (go_at_call 14; refine (hsame0 hbw hv1).mono ?_; rintro e w2 ⟨rfl, hb2⟩; have hbx := below_step hbw hb2; have hcd : ∀ b o, b < w.heap.size + 2 → w2.cell? ⟨b, o, none⟩ = _ := fun b o hlt => ((bcell hb2).1 b o (by simp at hz1; omega)).trans (hc1 b o (by simp; omega)))) | fail
    all_goals
      clear hc1 hf1
      have k0 := hcd w.heap.size 0 (by omega)
      have k1 := hcd w.heap.size 1 (by omega)
      have k2 := hcd w.heap.size 2 (by omega)
      have k3 := hcd w.heap.size 3 (by omega)
      have k4 := hcd (w.heap.size + 1) 1 (by omega)
      simp at k0 k1 k2 k3 k4
      clear hcd
      go_wp2_with fail
      rw [rounds_succ]
      go_wp2_with fail
      have hz4 : w.heap.size + 1 < w2.heap.size := by have := hb2.size; simp at hz1; omega
      have hz5 : w.heap.size < w2.heap.size := by omega
      first | skip; go_region_with (first | (go_at_call 25; refine (bool_der true _).mono ?_; rintro e w3 ⟨v3, rfl, hv3, hb3⟩; have q0 : w3.cell? ⟨w.heap.size, 0, none⟩ = some (.int .i64 t) := ((bcell hb3).1 _ _ hz5).trans k0; have q1 : w3.cell? ⟨w.heap.size, 1, none⟩ = some sv := ((bcell hb3).1 _ _ hz5).trans k1; have q2 : w3.cell? ⟨w.heap.size, 2, none⟩ = some (.bool nb) := ((bcell hb3).1 _ _ hz5).trans k2; have q3 : w3.cell? ⟨w.heap.size, 3, none⟩ = some (.slice p k c) := ((bcell hb3).1 _ _ hz5).trans k3; have hby : Below w.heap.size w _ := below_step hbx.drew hb3) | (go_at_call 14; refine (hsame1 hby hv3).mono ?_; rintro e w4 ⟨rfl, hb4⟩)) | fail
      all_goals
        go_wp2_with fail
        rw [rounds_succ]
        go_wp2
        go_ret2
        exact ⟨rfl, below_step hby hb4⟩
  · obtain rfl : re = 0 := by have := hres.out; simpa using this
    go_enter Try.func24, Try.ntmps24
    go_wp2_with fail
    refine wp_loop_rounds 3 ?_; rw [rounds_succ]
    go_wp2_with fail
    first | skip; go_region_with (first | (go_at_call 25; refine (bool_der false _).mono ?_; rintro e w1 ⟨v1, rfl, hv1, hb1⟩; obtain ⟨hc1, hf1⟩ := bcell hb1; have hbw : Below w.heap.size w _ := below_step (((Below.refl _ _).alloc (Nat.le_refl _) _).alloc (by simp) _).drew hb1; have hz1 := hb1.size) | (go_at_call 14; refine (hsame0 hbw hv1).mono ?_; rintro e w2 ⟨rfl, hb2⟩; have hbx := below_step hbw hb2; have hcd : ∀ b o, b < w.heap.size + 2 → w2.cell? ⟨b, o, none⟩ = _ := fun b o hlt => ((bcell hb2).1 b o (by simp at hz1; omega)).trans (hc1 b o (by simp; omega)))) | fail
    all_goals
      clear hc1 hf1
      have k0 := hcd w.heap.size 0 (by omega)
      have k1 := hcd w.heap.size 1 (by omega)
      have k2 := hcd w.heap.size 2 (by omega)
      have k3 := hcd w.heap.size 3 (by omega)
      have k4 := hcd (w.heap.size + 1) 1 (by omega)
      simp at k0 k1 k2 k3 k4
      clear hcd
      go_wp2_with fail
      rw [rounds_succ]
      go_wp2_with fail
      have hz4 : w.heap.size + 1 < w2.heap.size := by have := hb2.size; simp at hz1; omega
      have hz5 : w.heap.size < w2.heap.size := by omega
      first | skip; go_region_with (first | (go_at_call 25; refine (bool_der true _).mono ?_; rintro e w3 ⟨v3, rfl, hv3, hb3⟩; have q0 : w3.cell? ⟨w.heap.size, 0, none⟩ = some (.int .i64 t) := ((bcell hb3).1 _ _ hz5).trans k0; have q1 : w3.cell? ⟨w.heap.size, 1, none⟩ = some sv := ((bcell hb3).1 _ _ hz5).trans k1; have q2 : w3.cell? ⟨w.heap.size, 2, none⟩ = some (.bool nb) := ((bcell hb3).1 _ _ hz5).trans k2; have q3 : w3.cell? ⟨w.heap.size, 3, none⟩ = some (.slice p k c) := ((bcell hb3).1 _ _ hz5).trans k3; have hby : Below w.heap.size w _ := below_step hbx.drew hb3) | (go_at_call 14; refine (hsame1 hby hv3).mono ?_; rintro e w4 ⟨rfl, hb4⟩)) | fail
      all_goals
        go_wp2
        go_ret2
        exact ⟨rfl, below_step hby hb4⟩

/-- What AsBool says. -/
def boolRes (t : Int) (nb : Bool) (l : List UInt8) (k : Nat) : Bool × Int := if isBool false t nb l k then (false, 0) else if isBool true t nb l k then (true, 0) else (false, 1)

theorem asBool_der {t : Int} {nb : Bool} {sv : Value} {l : List UInt8} {p : Option Addr} {k c : Nat} (w : World) (h : Bts w sv l) :
    Calls Try.prog 24 #[.agg #[.int .i64 t, sv, .bool nb, .slice p k c]] w fun e w' => e = .returned (.tuple #[.bool (boolRes t nb l k).1, .int .i64 (boolRes t nb l k).2]) ∧ Below w.heap.size w w' := by
  cases h0 : isBool false t nb l k
  · cases h1 : isBool true t nb l k
    · have e : boolRes t nb l k = (false, 1) := by simp [boolRes, h0, h1]
      rw [e]
      exact asBool_second w h h0 false h1 1 (Lib.hid (.inr ⟨rfl, rfl⟩))
    · have e : boolRes t nb l k = (true, 0) := by simp [boolRes, h0, h1]
      rw [e]
      exact asBool_second w h h0 true h1 0 (Lib.hid (.inl ⟨rfl, rfl⟩))
  · have e : boolRes t nb l k = (false, 0) := by simp [boolRes, h0]
    rw [e]
    exact asBool_first w h h0
end Go.Proofs.Ytppodhbfjnekcaa
