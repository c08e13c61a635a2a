/- The chapter's example: awake. -/
import Derived.Test.YtnconhbambhhgaaLdD
namespace Go.Proofs.Ytnconhbambhhgaa
open Go.RowKit
set_option linter.all false

def awL (B : Nat) : List Win := [⟨10, 12, some ⟨B, 0, none⟩, 1, 1⟩]
theorem aw_good {W : World} {B : Nat} (h0 : W.heap[B]? = some (.cells #[.int .i64 0] 3 (0, 0))) (h1 : W.heap[B + 1]? = some (.cells #[.int .i64 10, .int .i64 12, .slice (some ⟨B, 0, none⟩) 1 1] 77 (0, 0))) (h2 : W.heap[B + 1 + 1]? = some (.cells #[.int .i64 1] 3 (0, 0))) :
    GoodCal W (some ⟨B + 1, 0, none⟩) none (some ⟨B + 1 + 1, 0, none⟩) (awL B) (fun _ => [0]) [] [1] := by
  refine ⟨fun j hj => ?_, fun j hj => ?_, fun j hj => by simp at hj, fun j hj => ?_, by simp [awL], by simp, by simp, by decide, fun j hj => ?_, fun j hj => ?_, fun j hj i hi => ?_, fun j hj => by decide, by decide⟩
  · obtain rfl : j = 0 := by simp [awL] at hj; omega
    refine ⟨B + 1, 0, rfl, ?_, ?_, ?_⟩ <;> rw [cell_of_row _ _ _ _ _ _ h1] <;> rfl
  · obtain rfl : j = 0 := by simp [awL] at hj; omega
    refine ⟨rfl, by decide, fun i hi => ?_⟩
    obtain rfl : i = 0 := by simp at hi; omega
    refine ⟨B, 0, rfl, ?_⟩
    rw [cell_of_row _ _ _ _ _ _ h0]; rfl
  · obtain rfl : j = 0 := by simp at hj; omega
    refine ⟨B + 1 + 1, 0, rfl, ?_⟩
    rw [cell_of_row _ _ _ _ _ _ h2]; rfl
  · obtain rfl : j = 0 := by simp [awL] at hj; omega
    rfl
  · simp [awL] at hj
  · simp at hi

theorem aw_at {B : Nat} {r : Int} (h : FindR 11 (awL B) r) : r = 0 := by
  rcases findR_fi h with ⟨_, h2⟩ | ⟨h1, _⟩
  · cases h2
  · exact h1
theorem aw_full {B : Nat} {cs : List Value} {x : Int} (h : FitR (awL B) [1] [0, 0] [10, 11] cs x) : x = 48 := by
  rcases h with ⟨_, _, h⟩ | ⟨h, _⟩
  · have h1 := h 0 0 (by simp [awL]) (by decide)
    have h2 : cnt (awL B) [0, 0] [10, 11] 2 0 0 = 2 := rfl
    have h3 : (2 : Int) ≤ 1 := by
      have h4 : ((cnt (awL B) [0, 0] [10, 11] 2 0 0 : Nat) : Int) ≤ 1 := h1
      rwa [h2] at h4
    omega
  · exact h

set_option maxRecDepth 100000 in
set_option maxHeartbeats 4000000 in
theorem awake_any (w : World) : Calls Try.prog 14 #[] w (BoolP true w) := by
  obtain ⟨B, hB⟩ : ∃ B, w.heap.size = B := ⟨_, rfl⟩
  have hb0 := ((((Below.refl w.heap.size w).alloc (Nat.le_refl _) (.cells #[.int .i64 0] 3)).alloc (by simp) (.cells #[.int .i64 10, .int .i64 12, .slice (some ⟨B, 0, none⟩) 1 1] 77)).alloc (by simp; omega) (.cells #[.int .i64 1] 3)).alloc (by simp; omega) (.cells #[.slice (some ⟨B + 1, 0, none⟩) 1 1, .slice none 0 0, .slice (some ⟨B + 1 + 1, 0, none⟩) 1 1] 38)
  have hsz : ((((w.alloc (.cells #[.int .i64 0] 3)).alloc (.cells #[.int .i64 10, .int .i64 12, .slice (some ⟨B, 0, none⟩) 1 1] 77)).alloc (.cells #[.int .i64 1] 3)).alloc (.cells #[.slice (some ⟨B + 1, 0, none⟩) 1 1, .slice none 0 0, .slice (some ⟨B + 1 + 1, 0, none⟩) 1 1] 38)).heap.size = B + 4 := by simp; omega
  have g0 : ((((w.alloc (.cells #[.int .i64 0] 3)).alloc (.cells #[.int .i64 10, .int .i64 12, .slice (some ⟨B, 0, none⟩) 1 1] 77)).alloc (.cells #[.int .i64 1] 3)).alloc (.cells #[.slice (some ⟨B + 1, 0, none⟩) 1 1, .slice none 0 0, .slice (some ⟨B + 1 + 1, 0, none⟩) 1 1] 38)).heap[B]? = some (.cells #[.int .i64 0] 3 (0, 0)) := by
    rw [heap_alloc_old _ _ (by simp; omega), heap_alloc_old _ _ (by simp; omega), heap_alloc_old _ _ (by simp; omega), ← hB]; exact heap_alloc_new _ _
  have g1 : ((((w.alloc (.cells #[.int .i64 0] 3)).alloc (.cells #[.int .i64 10, .int .i64 12, .slice (some ⟨B, 0, none⟩) 1 1] 77)).alloc (.cells #[.int .i64 1] 3)).alloc (.cells #[.slice (some ⟨B + 1, 0, none⟩) 1 1, .slice none 0 0, .slice (some ⟨B + 1 + 1, 0, none⟩) 1 1] 38)).heap[B + 1]? = some (.cells #[.int .i64 10, .int .i64 12, .slice (some ⟨B, 0, none⟩) 1 1] 77 (0, 0)) := by
    rw [heap_alloc_old _ _ (by simp; omega), heap_alloc_old _ _ (by simp; omega)]
    have := heap_alloc_new (w.alloc (.cells #[.int .i64 0] 3)) (.cells #[.int .i64 10, .int .i64 12, .slice (some ⟨B, 0, none⟩) 1 1] 77)
    simpa [hB] using this
  have g2 : ((((w.alloc (.cells #[.int .i64 0] 3)).alloc (.cells #[.int .i64 10, .int .i64 12, .slice (some ⟨B, 0, none⟩) 1 1] 77)).alloc (.cells #[.int .i64 1] 3)).alloc (.cells #[.slice (some ⟨B + 1, 0, none⟩) 1 1, .slice none 0 0, .slice (some ⟨B + 1 + 1, 0, none⟩) 1 1] 38)).heap[B + 1 + 1]? = some (.cells #[.int .i64 1] 3 (0, 0)) := by
    rw [heap_alloc_old _ _ (by simp; omega)]
    have := heap_alloc_new ((w.alloc (.cells #[.int .i64 0] 3)).alloc (.cells #[.int .i64 10, .int .i64 12, .slice (some ⟨B, 0, none⟩) 1 1] 77)) (.cells #[.int .i64 1] 3)
    simpa [hB] using this
  have hx : CalBox (B + 1 + 1 + 1) (some ⟨B + 1, 0, none⟩) none (some ⟨B + 1 + 1, 0, none⟩) 1 1 0 0 1 1 ((((w.alloc (.cells #[.int .i64 0] 3)).alloc (.cells #[.int .i64 10, .int .i64 12, .slice (some ⟨B, 0, none⟩) 1 1] 77)).alloc (.cells #[.int .i64 1] 3)).alloc (.cells #[.slice (some ⟨B + 1, 0, none⟩) 1 1, .slice none 0 0, .slice (some ⟨B + 1 + 1, 0, none⟩) 1 1] 38)) := by
    have g3 : ((((w.alloc (.cells #[.int .i64 0] 3)).alloc (.cells #[.int .i64 10, .int .i64 12, .slice (some ⟨B, 0, none⟩) 1 1] 77)).alloc (.cells #[.int .i64 1] 3)).alloc (.cells #[.slice (some ⟨B + 1, 0, none⟩) 1 1, .slice none 0 0, .slice (some ⟨B + 1 + 1, 0, none⟩) 1 1] 38)).heap[B + 1 + 1 + 1]? = some (.cells #[.slice (some ⟨B + 1, 0, none⟩) 1 1, .slice none 0 0, .slice (some ⟨B + 1 + 1, 0, none⟩) 1 1] 38 (0, 0)) := by
      have := heap_alloc_new (((w.alloc (.cells #[.int .i64 0] 3)).alloc (.cells #[.int .i64 10, .int .i64 12, .slice (some ⟨B, 0, none⟩) 1 1] 77)).alloc (.cells #[.int .i64 1] 3)) (.cells #[.slice (some ⟨B + 1, 0, none⟩) 1 1, .slice none 0 0, .slice (some ⟨B + 1 + 1, 0, none⟩) 1 1] 38)
      simpa [hB] using this
    refine ⟨?_, ?_, ?_⟩ <;> rw [cell_of_row _ _ _ _ _ _ g3] <;> rfl
  have HG := Lib.hid (aw_good g0 g1 g2)
  have CA := Lib.hid (at_good _ _ _ _ _ _ _ 1 0 1 11 _ HG.out)
  rw [show (awL B).length = 1 from rfl, show ([] : List Int).length = 0 from rfl, show ([1] : List Int).length = 1 from rfl] at CA
  have HX := Lib.hid hx; have HB0 := Lib.hid hb0; have HSZ := Lib.hid hsz
  obtain ⟨x0, x1, x2⟩ := hx
  clear hb0 hsz g0 g1 g2
  go_enter Try.func14, Try.ntmps14
  go_wp2_with fail
  generalize (((w.alloc (.cells #[.int .i64 0] 3)).alloc (.cells #[.int .i64 10, .int .i64 12, .slice (some ⟨B, 0, none⟩) 1 1] 77)).alloc (.cells #[.int .i64 1] 3)).alloc (.cells #[.slice (some ⟨B + 1, 0, none⟩) 1 1, .slice none 0 0, .slice (some ⟨B + 1 + 1, 0, none⟩) 1 1] 38) = W at *
  refine (CA.out).mono ?_
  rintro e w1 ⟨r, hr, rfl, hb1⟩
  have hr0 := aw_at hr
  subst hr0
  have HB1 := Lib.hid hb1
  clear hr hb1 x0 x1 x2
  obtain ⟨x0, x1, x2⟩ := HX.out.step HB1.out
  have ht1 : TeamsAt ((w1.alloc (.cells #[.int .i64 0, .int .i64 0] 3)).alloc (.cells #[.int .i64 10, .int .i64 11] 3)) (some ⟨w1.heap.size, 0, none⟩) [0, 0] := fun j hj => by
    refine ⟨w1.heap.size, 0, rfl, ?_⟩
    have hh : ((w1.alloc (.cells #[.int .i64 0, .int .i64 0] 3)).alloc (.cells #[.int .i64 10, .int .i64 11] 3)).heap[w1.heap.size]? = some (.cells #[.int .i64 0, .int .i64 0] 3 (0, 0)) := by
      rw [heap_alloc_old _ _ (by simp)]; exact heap_alloc_new _ _
    rw [cell_of_row _ _ _ _ _ _ hh]
    match j, hj with
    | 0, _ => rfl
    | 1, _ => rfl
  have ht2 : TeamsAt ((w1.alloc (.cells #[.int .i64 0, .int .i64 0] 3)).alloc (.cells #[.int .i64 10, .int .i64 11] 3)) (some ⟨w1.heap.size + 1, 0, none⟩) [10, 11] := fun j hj => by
    refine ⟨w1.heap.size + 1, 0, rfl, ?_⟩
    have hh : ((w1.alloc (.cells #[.int .i64 0, .int .i64 0] 3)).alloc (.cells #[.int .i64 10, .int .i64 11] 3)).heap[w1.heap.size + 1]? = some (.cells #[.int .i64 10, .int .i64 11] 3 (0, 0)) := by
      have := heap_alloc_new (w1.alloc (.cells #[.int .i64 0, .int .i64 0] 3)) (.cells #[.int .i64 10, .int .i64 11] 3)
      simpa using this
    rw [cell_of_row _ _ _ _ _ _ hh]
    match j, hj with
    | 0, _ => rfl
    | 1, _ => rfl
  have hbn : Below w1.heap.size w1 ((w1.alloc (.cells #[.int .i64 0, .int .i64 0] 3)).alloc (.cells #[.int .i64 10, .int .i64 11] 3)) := ((Below.refl _ _).alloc (Nat.le_refl _) _).alloc (by simp) _
  have CFT := Lib.hid (fits_good _ _ _ _ _ (awL B) (fun _ => [0]) [] [1] [0, 0] [10, 11] 1 0 1 2 2 _ ((HG.out.step HB1.out).step hbn) ht1 ht2 rfl (by decide) (by decide) (fun j hj => by
    match j, hj with
    | 0, _ => rfl
    | 1, _ => rfl))
  rw [show (awL B).length = 1 from rfl, show ([] : List Int).length = 0 from rfl, show ([1] : List Int).length = 1 from rfl, show ([0, 0] : List Int).length = 2 from rfl, show ([10, 11] : List Int).length = 2 from rfl] at CFT
  have HBN := Lib.hid hbn
  clear ht1 ht2 hbn
  rw [show max (0 : Int) 0 = 0 from rfl, show decide ((0 : Int) ≤ 0) = true from rfl]
  go_wp2_with fail
  refine (CFT.out).mono ?_
  rintro e w2 ⟨cs, x, rfl, hF, hb2⟩
  have hx48 := aw_full hF
  subst hx48
  have HB2 := Lib.hid hb2
  clear hF hb2
  go_wp2_with fail
  go_ret
  refine ⟨rfl, HB0.out.trans ((HB1.out.mono ?_).trans ((HBN.out.mono ?_).trans (HB2.out.mono ?_)))⟩
  · have := HSZ.out; omega
  · have := HSZ.out; have := HB1.out.size; omega
  · have := HSZ.out; have := HB1.out.size; simp; omega
end Go.Proofs.Ytnconhbambhhgaa
