/- AsText of both. -/
import Derived.Test.YtppodhbfjnekcaaContains
namespace Go.Proofs.Ytppodhbfjnekcaa
open Go.RowKit

/-- Whether an element is that of a text. -/
def isText (t : Int) (nb : Bool) (l : List UInt8) (k : Nat) : Bool := decide (t = 12) && (nb == false) && decide (k = 0) && !l.any unp

/-- Two calls behind a new block. -/
theorem first_below {w w1 w2 X : World} {o : Obj} (h1 : Below X.heap.size X w1) (h2 : Below w1.heap.size w1 w2) (hX : X = (w.alloc o).drew := by rfl) : Below w.heap.size w w2 := by
  subst hX
  exact below_step (below_step ((Below.refl _ _).alloc (Nat.le_refl _) _).drew h1) h2

def strOf (l : List UInt8) : ByteArray := ⟨l.toArray⟩

set_option maxRecDepth 100000 in
set_option maxHeartbeats 1000000 in
theorem asText_der {t : Int} {nb : Bool} {sv : Value} {l : List UInt8} {p : Option Addr} {k c : Nat} (w : World) (h : Bts w sv l) (q : Bool) (hq : isText t nb l k = q) (rs : ByteArray) (re : Int) (hres : Hid (q = true ∧ rs = strOf l ∧ re = 0 ∨ q = false ∧ rs = ByteArray.empty ∧ re = 1)) :
    Calls Try.prog 22 #[.agg #[.int .i64 t, sv, .bool nb, .slice p k c]] w fun e w' => e = .returned (.tuple #[.string rs, .int .i64 re]) ∧ Below w.heap.size w w' := by
  have hlen : (strOf l).size = l.length := by simp [strOf, ByteArray.size]
  have hl63 : (strOf l).size ≤ 9223372036854775807 := by rw [hlen]; obtain ⟨_, _, _, h, _⟩ := h; exact h
  have hsl : (strOf l).data.toList = l := rfl
  have hconv := fun {W : World} (hW : Below w.heap.size w W) => (h.mono hW).convert (P := Try.prog) 27 5 9 (by kernel_rfl) (by kernel_rfl) (by kernel_rfl)
  have htext := fun (W : World) => text_der (strOf l) W hl63
  rw [hsl] at htext
  have hsame := fun {W : World} (hW : Below w.heap.size w W) {vb : Value} (hb : Bts W vb l) => same_leaf (ta := t) (tb := 12) (na := nb) (nb := false) (ka := k) (kb := 0) (ca := c) (cb := 0) (pa := p) (pb := none) W (h.mono hW) hb (fun e => e)
  have hcont := fun {W : World} (hW : Below w.heap.size w W) => contains_any W (h.mono hW)
  have hcv0 := hconv ((Below.refl w.heap.size w).alloc (Nat.le_refl _) (.cells #[.int .i64 t, sv, .bool nb, .slice p k c] 30))
  change (Go.convert 27 9 sv).run Try.prog _ = .ok (.string (strOf l)) _ at hcv0
  clear h hconv hsl hlen
  have HQ := Lib.hid hq; clear hq
  cases hal : alikeB t 12 nb false l l k 0
  · simp only [hal] at hsame
    have hqf : q = false := by
      rw [← HQ.out]
      simp [alikeB] at hal
      simp [isText]
      intro a b c
      exact absurd c (hal a b)
    subst hqf
    obtain ⟨rfl, rfl⟩ : rs = ByteArray.empty ∧ re = 1 := by have := hres.out; simpa using this
    clear hcont hal
    go_enter Try.func22, Try.ntmps22
    go_wp2_with fail
    first | skip; go_region_with (first | (go_at_call 23; refine (htext _).mono ?_; rintro e w1 ⟨v1, rfl, hv1, hb1⟩; obtain ⟨hc1, hf1⟩ := bcell hb1) | (go_at_call 14; refine (hsame ?_ hv1).mono ?_; (focus (first | exact below_step ((Below.refl _ _).alloc (Nat.le_refl _) _).drew hb1 | exact below_step ((Below.refl _ _).alloc (Nat.le_refl _) _) hb1)); rintro e w2 ⟨rfl, hb2⟩)) | fail
    all_goals
      go_wp2
      go_ret2
      refine ⟨rfl, ?_⟩
      first | exact below_step (below_step ((Below.refl _ _).alloc (Nat.le_refl _) _).drew hb1) hb2 | exact below_step (below_step ((Below.refl _ _).alloc (Nat.le_refl _) _) hb1) hb2
  · simp only [hal] at hsame
    have hqf : q = !l.any unp := by
      rw [← HQ.out]
      simp [alikeB] at hal
      simp [isText, hal]
    have HAL := Lib.hid hal; clear hal
    cases hun : l.any unp
    all_goals
      rw [hun] at hqf hcont
      have HUN := Lib.hid hun; clear hun
    · have hqt : q = true := hqf
      subst hqt
      obtain ⟨rfl, rfl⟩ : rs = strOf l ∧ re = 0 := by have := hres.out; simpa using this
      clear hqf
      go_enter Try.func22, Try.ntmps22
      go_wp2_with fail
      first | skip; go_region_with (first | (go_at_call 23; refine (htext _).mono ?_; rintro e w1 ⟨v1, rfl, hv1, hb1⟩; obtain ⟨hc1, hf1⟩ := bcell hb1) | (go_at_call 14; refine (hsame ?_ hv1).mono ?_; (focus (first | exact below_step ((Below.refl _ _).alloc (Nat.le_refl _) _).drew hb1 | exact below_step ((Below.refl _ _).alloc (Nat.le_refl _) _) hb1)); rintro e w2 ⟨rfl, hb2⟩; obtain ⟨hc2, hf2⟩ := bcell hb2; have hz1 := hb1.size; have hcw : w2.cell? ⟨w.heap.size, 1, none⟩ = some sv := (hc2 _ _ (by simp at hz1; omega)).trans ((hc1 _ _ (by simp)).trans (by simp)); have hbw : Below w.heap.size w w2 := (first_below hb1 hb2)) | (go_at_call 54; refine (hcont hbw).mono ?_; rintro e w3 ⟨rfl, rfl⟩)) | fail
      all_goals
        go_wp2
        go_ret2
        exact ⟨rfl, hbw⟩
    · have hqt : q = false := hqf
      subst hqt
      obtain ⟨rfl, rfl⟩ : rs = ByteArray.empty ∧ re = 1 := by have := hres.out; simpa using this
      clear hqf
      go_enter Try.func22, Try.ntmps22
      go_wp2_with fail
      first | skip; go_region_with (first | (go_at_call 23; refine (htext _).mono ?_; rintro e w1 ⟨v1, rfl, hv1, hb1⟩; obtain ⟨hc1, hf1⟩ := bcell hb1) | (go_at_call 14; refine (hsame ?_ hv1).mono ?_; (focus (first | exact below_step ((Below.refl _ _).alloc (Nat.le_refl _) _).drew hb1 | exact below_step ((Below.refl _ _).alloc (Nat.le_refl _) _) hb1)); rintro e w2 ⟨rfl, hb2⟩; obtain ⟨hc2, hf2⟩ := bcell hb2; have hz1 := hb1.size; have hcw : w2.cell? ⟨w.heap.size, 1, none⟩ = some sv := (hc2 _ _ (by simp at hz1; omega)).trans ((hc1 _ _ (by simp)).trans (by simp)); have hbw : Below w.heap.size w w2 := (first_below hb1 hb2)) | (go_at_call 54; refine (hcont hbw).mono ?_; rintro e w3 ⟨rfl, rfl⟩)) | fail
      all_goals
        go_wp2
        go_ret2
        exact ⟨rfl, hbw⟩
end Go.Proofs.Ytppodhbfjnekcaa
