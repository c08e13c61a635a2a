/- The document's Text (25). -/
import Derived.Test.YtdhochjcigingaaDoorRefDec
import Derived.Test.YtdhochjcigingaaDoorRefStr
import Derived.Test.YtdhochjcigingaaDoorRefRow
namespace Go.Proofs.YtdhochjcigingaaDoor
open Go.RowKit
set_option linter.all false

/-- A use in its box (no word on the tables). -/
structure UC (w : World) (B : Nat) (a b : Int) (W : World) : Prop where
  c0 : W.cell? ⟨B, 0, none⟩ = some (.int .i64 a)
  c1 : W.cell? ⟨B, 1, none⟩ = some (.int .i64 b)
  below : Below w.heap.size w W
  lt : B < W.heap.size
theorem UC.step {w : World} {B : Nat} {a b : Int} {W W' : World} (h : UC w B a b W) (hb : Below W.heap.size W W') : UC w B a b W' :=
  ⟨(hb.cell (p := ⟨B, 0, none⟩) h.lt).trans h.c0, (hb.cell (p := ⟨B, 1, none⟩) h.lt).trans h.c1, h.below.trans (hb.mono h.below.size), by have := h.lt; have := hb.size; omega⟩
theorem UC.drew {w : World} {B : Nat} {a b : Int} {W : World} (h : UC w B a b W) : UC w B a b W.drew := h.step (Below.refl _ _).drew
theorem UC.make (w : World) (a b : Int) : UC w w.heap.size a b (w.alloc (.cells #[.int .i64 a, .int .i64 b] 23)) :=
  ⟨by simp, by simp, (Below.refl _ _).alloc (Nat.le_refl _) _, by simp⟩
def DecC (w : World) (B : Nat) (a b n : Int) (e : Ending) (w' : World) : Prop := e = .returned (.string ⟨(Lib.itoa n).toArray⟩) ∧ UC w B a b w'
theorem dec_uc {w : World} {B : Nat} {a b : Int} {W : World} (n : Int) (h0 : 0 ≤ n) (h1 : n ≤ 16384) (h : UC w B a b W) : Calls Tryd.prog 67 #[.int .i64 n] W (DecC w B a b n) :=
  (refdecimal_any n h0 h1 W).mono fun _ _ ⟨he, hb⟩ => ⟨he, h.step hb⟩
def NameC (w : World) (B : Nat) (a b c : Int) (e : Ending) (w' : World) : Prop := e = .returned (.string ⟨(anI c).toArray⟩) ∧ UC w B a b w'
theorem name_uc {w : World} {B : Nat} {a b : Int} {W : World} (c : Int) (h : UC w B a b W) : Calls Tryd.prog 17 #[.int .i64 c] W (NameC w B a b c) :=
  (refname_any c W).mono fun _ _ ⟨he, hb⟩ => ⟨he, h.step hb⟩

set_option maxHeartbeats 4000000 in
theorem reftext_any (a b : Int) (w : World) : Calls Tryd.prog 25 #[.agg #[.int .i64 a, .int .i64 b]] w (StrP (textS a b) w) := by
  have cV := refvalid_any a b (w.alloc (.cells #[.int .i64 a, .int .i64 b] 23))
  have hU := UC.make w a b
  unfold textS
  unfold validB at cV
  by_cases hv : 0 < strS a b
  · rw [if_pos hv]
    obtain ⟨hb0, hb1⟩ := strS_pos hv
    rw [decide_eq_true hv] at cV
    clear hv
    have CV := Lib.hid cV; clear cV
    by_cases h0 : b = 0
    · rw [if_pos h0]
      have h0' : (b == 0) = true := by simpa using h0
      clear h0 hb0 hb1
      go_enter Tryd.func25, Tryd.ntmps25
      go_wp2_with fail
      refine (CV.out).mono ?_
      rintro e w1 ⟨rfl, hb⟩
      have hU1 := hU.step hb
      have x0 := hU1.c0; have x1 := hU1.c1; have hlt := hU1.lt
      clear hb hU
      go_wp2_with fail
      refine (name_uc a hU1).mono ?_
      rintro e w2 ⟨rfl, hU2⟩
      go_wp2_with fail
      go_ret
      exact ⟨rfl, hU2.below⟩
    · rw [if_neg h0]
      have h0' : (b == 0) = false := by simpa using h0
      clear h0
      go_enter Tryd.func25, Tryd.ntmps25
      go_wp2_with fail
      refine (CV.out).mono ?_
      rintro e w1 ⟨rfl, hb⟩
      have hU1 := hU.step hb
      have x0 := hU1.c0; have x1 := hU1.c1; have hlt := hU1.lt
      have hU1d := hU1.drew
      clear hb hU CV
      generalize w.heap.size = B at *
      go_wp2_with fail
      have y0 := hU1d.c0
      have y1 := hU1d.c1
      have l1 := anI_len a
      have l2 := itoa_len b hb0 hb1
      have q1 : ¬ (9223372036854775807 < (anI a).length + 1) := by omega
      have q2 : ¬ (9223372036854775807 < (anI a).length + 1 + (Lib.itoa b).length) := by omega
      clear l1 l2
      go_region_held3 (fun W => W.cell? ⟨B, 0, none⟩ = some (.int .i64 a) ∧ W.cell? ⟨B, 1, none⟩ = some (.int .i64 b)) (go_keep)
        (first | (go_at_call 17; refine (name_uc a (by assumption)).mono ?_; rintro e w' ⟨rfl, hU'⟩; have z0 := hU'.c0; have z1 := hU'.c1) | (go_at_call 67; refine (dec_uc b hb0 hb1 (by assumption)).mono ?_; rintro e w' ⟨rfl, hU'⟩; have z0 := hU'.c0; have z1 := hU'.c1))
      all_goals
        go_wp2_with fail
        go_ret
        exact ⟨by rw [show (⟨#[45]⟩ : ByteArray) = ⟨[45].toArray⟩ from rfl, ba_append, ba_append, List.append_assoc]; rfl, by first | exact UC.below (by assumption) | assumption⟩
  · rw [if_neg hv]
    rw [decide_eq_false hv] at cV
    clear hv
    have CV := Lib.hid cV; clear cV
    go_enter Tryd.func25, Tryd.ntmps25
    go_wp2_with fail
    refine (CV.out).mono ?_
    rintro e w1 ⟨rfl, hb⟩
    go_wp2_with fail
    go_ret
    exact ⟨rfl, below_of_alloc hb⟩
end Go.Proofs.YtdhochjcigingaaDoor
