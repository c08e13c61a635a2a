/- catalog.Text. -/
import Derived.Test.YtdhochjcigingaaDoorFind
import Derived.Lib.AppendIntMem
namespace Go.Proofs.YtdhochjcigingaaDoor
open Go.RowKit
set_option linter.all false

theorem strS_pos {a b : Int} (h : 0 < strS a b) : 0 ≤ b ∧ b ≤ 16384 := by
  unfold strS at h
  split at h
  · split at h <;> omega
  split at h
  · split at h
    · omega
    · omega
  split at h
  · split at h
    · rename_i hc; have := curve_pos hc; omega
    · omega
  split at h
  · split at h <;> omega
  unfold sizeS at h
  repeat (split at h; · omega)
  omega

def textS (a b : Int) : List UInt8 := if 0 < strS a b then (if b = 0 then anI a else anI a ++ 45 :: Lib.itoa b) else []

/-- A use in its box. -/
structure UB (m : Int) (w : World) (B : Nat) (a b : Int) (W : World) : Prop where
  c0 : W.cell? ⟨B, 0, none⟩ = some (.int .i64 a)
  c1 : W.cell? ⟨B, 1, none⟩ = some (.int .i64 b)
  tabs : Tabs m W
  below : Below w.heap.size w W
  lt : B < W.heap.size

theorem UB.step {m : Int} {w : World} {B : Nat} {a b : Int} {W W' : World} (h : UB m w B a b W) (hb : Below W.heap.size W W') : UB m w B a b W' :=
  ⟨(hb.cell (p := ⟨B, 0, none⟩) h.lt).trans h.c0, (hb.cell (p := ⟨B, 1, none⟩) h.lt).trans h.c1, h.tabs.step hb, h.below.trans (hb.mono h.below.size), by have := h.lt; have := hb.size; omega⟩
theorem UB.drew {m : Int} {w : World} {B : Nat} {a b : Int} {W : World} (h : UB m w B a b W) : UB m w B a b W.drew := h.step (Below.refl _ _).drew
theorem UB.make {m : Int} {w : World} (h : Tabs m w) (a b : Int) : UB m w w.heap.size a b (w.alloc (.cells #[.int .i64 a, .int .i64 b] 23)) :=
  ⟨by simp, by simp, h.alloc _, (Below.refl _ _).alloc (Nat.le_refl _) _, by simp⟩

def ItoaP (m : Int) (w : World) (B : Nat) (a b n : Int) (e : Ending) (w' : World) : Prop := e = .returned (.string ⟨(Lib.itoa n).toArray⟩) ∧ UB m w B a b w'
theorem itoa_ub {m : Int} {w : World} {B : Nat} {a b : Int} {W : World} (n : Int) (h0 : 0 ≤ n) (h1 : n ≤ 16384) (h : UB m w B a b W) : Calls Tryd.prog 66 #[.int .i64 n] W (ItoaP m w B a b n) :=
  (Tryd.strconv_Itoa n (by omega) (by omega) W h.tabs.pow).mono fun _ _ ⟨he, k, os, hw⟩ => ⟨he, by subst hw; exact h.step (Lib.below_grow _ _ (Nat.le_refl _) k os)⟩

def NameP (m : Int) (w : World) (B : Nat) (a b c : Int) (e : Ending) (w' : World) : Prop := e = .returned (.string ⟨(anI c).toArray⟩) ∧ UB m w B a b w'
theorem name_ub {m : Int} {w : World} {B : Nat} {a b : Int} {W : World} (c : Int) (h : UB m w B a b W) : Calls Tryd.prog 16 #[.int .i64 c] W (NameP m w B a b c) :=
  (name_any c W h.tabs).mono fun _ _ ⟨he, hb⟩ => ⟨he, h.step hb⟩

theorem ba_append (x y : List UInt8) : (⟨x.toArray⟩ : ByteArray) ++ (⟨y.toArray⟩ : ByteArray) = ⟨(x ++ y).toArray⟩ := by
  apply ByteArray.ext
  simp [ByteArray.data_append]

theorem anI_len (a : Int) : (anI a).length ≤ 10 := by
  unfold anI
  split
  · rename_i hi
    have : ∀ i, i < 23 → (anm i).length ≤ 10 := by decide +kernel
    exact this _ (by omega)
  · simp
theorem itoa_len (b : Int) (h0 : 0 ≤ b) (h1 : b ≤ 16384) : (Lib.itoa b).length ≤ 5 := by
  unfold Lib.itoa
  rw [if_neg (by omega), Lib.decDigits_length]
  obtain ⟨n, rfl⟩ : ∃ n : Nat, b = n := ⟨b.toNat, by omega⟩
  rw [Int.toNat_natCast]
  have h : n < 10 ^ 5 := by omega
  clear h0 h1
  have key : ∀ k n : Nat, n < 10 ^ (k + 1) → Lib.nDigits n ≤ k + 1 := by
    intro k
    induction k with
    | zero => intro n h; rw [Lib.nDigits_small (by simpa using h)]; exact Nat.le_refl _
    | succ k ih =>
      intro n h
      by_cases hs : n < 10
      · rw [Lib.nDigits_small hs]; omega
      · rw [Lib.nDigits_big hs]
        have := ih (n / 10) (by rw [Nat.pow_succ] at h; omega)
        omega
  exact key 4 n h

set_option maxHeartbeats 4000000 in
theorem text_any {m : Int} (a b : Int) (w : World) (h : Tabs m w) : Calls Tryd.prog 24 #[.agg #[.int .i64 a, .int .i64 b]] w (StrP (textS a b) w) := by
  have cV := valid_any a b _ (h.alloc (.cells #[.int .i64 a, .int .i64 b] 23))
  have hU := UB.make h a b
  unfold textS
  unfold validB at cV
  by_cases hv : 0 < strS a b
  · rw [if_pos hv]
    obtain ⟨hb0, hb1⟩ := strS_pos hv
    rw [decide_eq_true hv] at cV
    clear hv
    have CV := Lib.hid cV; clear cV
    by_cases h0 : b = 0
    · rw [if_pos h0]
      have h0' : (b == 0) = true := by simpa using h0
      clear h0 hb0 hb1
      go_enter Tryd.func24, Tryd.ntmps24
      go_wp2_with fail
      refine (CV.out).mono ?_
      rintro e w1 ⟨rfl, hb⟩
      have hU1 := hU.step hb
      have x0 := hU1.c0; have x1 := hU1.c1; have hlt := hU1.lt
      clear hb hU
      go_wp2_with fail
      refine (name_ub a hU1).mono ?_
      rintro e w2 ⟨rfl, hU2⟩
      go_wp2_with fail
      go_ret
      exact ⟨rfl, hU2.below⟩
    · rw [if_neg h0]
      have h0' : (b == 0) = false := by simpa using h0
      clear h0
      go_enter Tryd.func24, Tryd.ntmps24
      go_wp2_with fail
      refine (CV.out).mono ?_
      rintro e w1 ⟨rfl, hb⟩
      have hU1 := hU.step hb
      have x0 := hU1.c0; have x1 := hU1.c1; have hlt := hU1.lt
      have hU1d := hU1.drew
      clear hb hU CV
      generalize w.heap.size = B at *
      go_wp2_with fail
      have y0 := hU1d.c0
      have y1 := hU1d.c1
      have l1 := anI_len a
      have l2 := itoa_len b hb0 hb1
      have q1 : ¬ (9223372036854775807 < (anI a).length + 1) := by omega
      have q2 : ¬ (9223372036854775807 < (anI a).length + 1 + (Lib.itoa b).length) := by omega
      clear l1 l2
      go_region_held3 (fun W => W.cell? ⟨B, 0, none⟩ = some (.int .i64 a) ∧ W.cell? ⟨B, 1, none⟩ = some (.int .i64 b)) (go_keep)
        (first | (go_at_call 16; refine (name_ub a (by assumption)).mono ?_; rintro e w' ⟨rfl, hU'⟩; have z0 := hU'.c0; have z1 := hU'.c1) | (go_at_call 66; refine (itoa_ub b hb0 hb1 (by assumption)).mono ?_; rintro e w' ⟨rfl, hU'⟩; have z0 := hU'.c0; have z1 := hU'.c1))
      all_goals
        go_wp2_with fail
        go_ret
        exact ⟨by rw [show (⟨#[45]⟩ : ByteArray) = ⟨[45].toArray⟩ from rfl, ba_append, ba_append, List.append_assoc]; rfl, by first | exact UB.below (by assumption) | assumption⟩
  · rw [if_neg hv]
    rw [decide_eq_false hv] at cV
    clear hv
    have CV := Lib.hid cV; clear cV
    go_enter Tryd.func24, Tryd.ntmps24
    go_wp2_with fail
    refine (CV.out).mono ?_
    rintro e w1 ⟨rfl, hb⟩
    go_wp2_with fail
    go_ret
    exact ⟨rfl, below_of_alloc hb⟩
end Go.Proofs.YtdhochjcigingaaDoor
