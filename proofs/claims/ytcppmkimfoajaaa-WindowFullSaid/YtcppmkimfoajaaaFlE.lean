/- The law of a full window. -/
import Derived.Test.YtcppmkimfoajaaaFlD
import Derived.Deep.Cut
import Derived.Deep.CutRange
namespace Go.Proofs.Ytcppmkimfoajaaa
open Go.RowKit
set_option linter.all false

theorem keepH {w : World} {k : Nat} {x : Obj} (h : w.heap[k]? = some x) (o : Obj) : (w.alloc o).heap[k]? = some x := by
  rw [heap_alloc_old _ _ (lt_of_heap h)]; exact h
theorem newH {w : World} {k : Nat} (h : w.heap.size = k) (o : Obj) : (w.alloc o).heap[k]? = some o := by
  subst h; exact heap_alloc_new _ _
theorem sizeH {w : World} {k : Nat} (h : w.heap.size = k) (o : Obj) : (w.alloc o).heap.size = k + 1 := by simp [h]

/-- The world behind the calendar. -/
def FlW (w : World) (B : Nat) (n : Int) : World := (((((w.alloc (.cells #[.int .i64 0, .int .i64 1] 3)).alloc (.cells #[.int .i64 0] 3)).alloc (.cells #[.int .i64 10, .int .i64 30, .slice (some ⟨B, 0, none⟩) 2 2, .int .i64 40, .int .i64 50, .slice (some ⟨B + 1, 0, none⟩) 1 1] 58)).alloc (.cells #[.int .i64 0, .int .i64 1] 3)).alloc (.cells #[.int .i64 n, .int .i64 5] 3)).alloc (.cells #[.slice (some ⟨B + 1 + 1, 0, none⟩) 2 2, .slice (some ⟨B + 1 + 1 + 1, 0, none⟩) 2 2, .slice (some ⟨B + 1 + 1 + 1 + 1, 0, none⟩) 2 2] 46)

theorem fl_good {w : World} {B : Nat} {n : Int} (hB : w.heap.size = B) (h0 : 0 ≤ n) (h1 : n ≤ 24) :
    GoodCal (FlW w B n) (some ⟨B + 1 + 1, 0, none⟩) (some ⟨B + 1 + 1 + 1, 0, none⟩) (some ⟨B + 1 + 1 + 1 + 1, 0, none⟩) (flL B) flT [0, 1] [n, 5] ∧
      CalBox (B + 1 + 1 + 1 + 1 + 1) (some ⟨B + 1 + 1, 0, none⟩) (some ⟨B + 1 + 1 + 1, 0, none⟩) (some ⟨B + 1 + 1 + 1 + 1, 0, none⟩) 2 2 2 2 2 2 (FlW w B n) ∧
      Below w.heap.size w (FlW w B n) ∧ (FlW w B n).heap.size = B + 1 + 1 + 1 + 1 + 1 + 1 := by
  have s1 := sizeH hB (.cells #[.int .i64 0, .int .i64 1] 3)
  have s2 := sizeH s1 (.cells #[.int .i64 0] 3)
  have s3 := sizeH s2 (.cells #[.int .i64 10, .int .i64 30, .slice (some ⟨B, 0, none⟩) 2 2, .int .i64 40, .int .i64 50, .slice (some ⟨B + 1, 0, none⟩) 1 1] 58)
  have s4 := sizeH s3 (.cells #[.int .i64 0, .int .i64 1] 3)
  have s5 := sizeH s4 (.cells #[.int .i64 n, .int .i64 5] 3)
  have f0 := keepH (keepH (keepH (keepH (keepH (newH hB (.cells #[.int .i64 0, .int .i64 1] 3)) (.cells #[.int .i64 0] 3)) (.cells #[.int .i64 10, .int .i64 30, .slice (some ⟨B, 0, none⟩) 2 2, .int .i64 40, .int .i64 50, .slice (some ⟨B + 1, 0, none⟩) 1 1] 58)) (.cells #[.int .i64 0, .int .i64 1] 3)) (.cells #[.int .i64 n, .int .i64 5] 3)) (.cells #[.slice (some ⟨B + 1 + 1, 0, none⟩) 2 2, .slice (some ⟨B + 1 + 1 + 1, 0, none⟩) 2 2, .slice (some ⟨B + 1 + 1 + 1 + 1, 0, none⟩) 2 2] 46)
  have f1 := keepH (keepH (keepH (keepH (newH s1 (.cells #[.int .i64 0] 3)) (.cells #[.int .i64 10, .int .i64 30, .slice (some ⟨B, 0, none⟩) 2 2, .int .i64 40, .int .i64 50, .slice (some ⟨B + 1, 0, none⟩) 1 1] 58)) (.cells #[.int .i64 0, .int .i64 1] 3)) (.cells #[.int .i64 n, .int .i64 5] 3)) (.cells #[.slice (some ⟨B + 1 + 1, 0, none⟩) 2 2, .slice (some ⟨B + 1 + 1 + 1, 0, none⟩) 2 2, .slice (some ⟨B + 1 + 1 + 1 + 1, 0, none⟩) 2 2] 46)
  have f2 := keepH (keepH (keepH (newH s2 (.cells #[.int .i64 10, .int .i64 30, .slice (some ⟨B, 0, none⟩) 2 2, .int .i64 40, .int .i64 50, .slice (some ⟨B + 1, 0, none⟩) 1 1] 58)) (.cells #[.int .i64 0, .int .i64 1] 3)) (.cells #[.int .i64 n, .int .i64 5] 3)) (.cells #[.slice (some ⟨B + 1 + 1, 0, none⟩) 2 2, .slice (some ⟨B + 1 + 1 + 1, 0, none⟩) 2 2, .slice (some ⟨B + 1 + 1 + 1 + 1, 0, none⟩) 2 2] 46)
  have f3 := keepH (keepH (newH s3 (.cells #[.int .i64 0, .int .i64 1] 3)) (.cells #[.int .i64 n, .int .i64 5] 3)) (.cells #[.slice (some ⟨B + 1 + 1, 0, none⟩) 2 2, .slice (some ⟨B + 1 + 1 + 1, 0, none⟩) 2 2, .slice (some ⟨B + 1 + 1 + 1 + 1, 0, none⟩) 2 2] 46)
  have f4 := keepH (newH s4 (.cells #[.int .i64 n, .int .i64 5] 3)) (.cells #[.slice (some ⟨B + 1 + 1, 0, none⟩) 2 2, .slice (some ⟨B + 1 + 1 + 1, 0, none⟩) 2 2, .slice (some ⟨B + 1 + 1 + 1 + 1, 0, none⟩) 2 2] 46)
  have f5 := newH s5 (.cells #[.slice (some ⟨B + 1 + 1, 0, none⟩) 2 2, .slice (some ⟨B + 1 + 1 + 1, 0, none⟩) 2 2, .slice (some ⟨B + 1 + 1 + 1 + 1, 0, none⟩) 2 2] 46)
  have hsz := sizeH s5 (.cells #[.slice (some ⟨B + 1 + 1, 0, none⟩) 2 2, .slice (some ⟨B + 1 + 1 + 1, 0, none⟩) 2 2, .slice (some ⟨B + 1 + 1 + 1 + 1, 0, none⟩) 2 2] 46)
  have hb : Below w.heap.size w (FlW w B n) := (((((((Below.refl w.heap.size w).alloc (Nat.le_refl _) _).alloc (by rw [s1]; omega) _).alloc (by rw [s2]; omega) _).alloc (by rw [s3]; omega) _).alloc (by rw [s4]; omega) _).alloc (by rw [s5]; omega) _)
  change (FlW w B n).heap[B]? = _ at f0
  change (FlW w B n).heap[B + 1]? = _ at f1
  change (FlW w B n).heap[B + 1 + 1]? = _ at f2
  change (FlW w B n).heap[B + 1 + 1 + 1]? = _ at f3
  change (FlW w B n).heap[B + 1 + 1 + 1 + 1]? = _ at f4
  change (FlW w B n).heap[B + 1 + 1 + 1 + 1 + 1]? = _ at f5
  change (FlW w B n).heap.size = _ at hsz
  generalize FlW w B n = W at *
  refine ⟨⟨fun j hj => ?_, fun j hj => ?_, fun j hj => ?_, fun j hj => ?_, by simp [flL], by simp, by simp, ?_, fun j hj => ?_, fun j hj => ?_, fun j hj i hi => ?_, fun j hj => ?_, show [0, 1].all (isT 2) = true by decide⟩, ⟨?_, ?_, ?_⟩, hb, hsz⟩
  · have hj2 : j = 0 ∨ j = 1 := by simp [flL] at hj; omega
    rcases hj2 with rfl | rfl
    · exact ⟨_, 0, rfl, by rw [cell_of_row _ _ _ _ _ _ f2]; rfl, by rw [cell_of_row _ _ _ _ _ _ f2]; rfl, by rw [cell_of_row _ _ _ _ _ _ f2]; rfl⟩
    · exact ⟨_, 0, rfl, by rw [cell_of_row _ _ _ _ _ _ f2]; rfl, by rw [cell_of_row _ _ _ _ _ _ f2]; rfl, by rw [cell_of_row _ _ _ _ _ _ f2]; rfl⟩
  · have hj2 : j = 0 ∨ j = 1 := by simp [flL] at hj; omega
    rcases hj2 with rfl | rfl
    · refine ⟨rfl, by decide, fun i hi => ⟨B, 0, rfl, ?_⟩⟩
      have hi2 : i = 0 ∨ i = 1 := by simp [flT] at hi; omega
      rw [cell_of_row _ _ _ _ _ _ f0]
      rcases hi2 with rfl | rfl <;> rfl
    · refine ⟨rfl, by decide, fun i hi => ⟨B + 1, 0, rfl, ?_⟩⟩
      obtain rfl : i = 0 := by simp [flT] at hi; omega
      rw [cell_of_row _ _ _ _ _ _ f1]; rfl
  · have hj2 : j = 0 ∨ j = 1 := by simp at hj; omega
    refine ⟨_, 0, rfl, ?_⟩
    rw [cell_of_row _ _ _ _ _ _ f3]
    rcases hj2 with rfl | rfl <;> rfl
  · have hj2 : j = 0 ∨ j = 1 := by simp at hj; omega
    refine ⟨_, 0, rfl, ?_⟩
    rw [cell_of_row _ _ _ _ _ _ f4]
    rcases hj2 with rfl | rfl <;> rfl
  · have : roomB n = true := by
      unfold roomB
      rw [decide_eq_false (by omega), decide_eq_false (by omega)]; rfl
    simp [this]; rfl
  · have hj2 : j = 0 ∨ j = 1 := by simp [flL] at hj; omega
    rcases hj2 with rfl | rfl <;> rfl
  · obtain rfl : j = 0 := by simp [flL] at hj; omega
    show (30 : Int) ≤ 40
    decide
  · have hj2 : j = 0 ∨ j = 1 := by simp [flL] at hj; omega
    rcases hj2 with rfl | rfl
    · obtain rfl : i = 0 := by simp [flT] at hi; omega
      decide
    · simp [flT] at hi
  · have hj2 : j = 0 ∨ j = 1 := by simp [flL] at hj; omega
    rcases hj2 with rfl | rfl
    · show [0, 1].all (isT 2) = true
      decide
    · show [0].all (isT 2) = true
      decide
  · rw [cell_of_row _ _ _ _ _ _ f5]; rfl
  · rw [cell_of_row _ _ _ _ _ _ f5]; rfl
  · rw [cell_of_row _ _ _ _ _ _ f5]; rfl
end Go.Proofs.Ytcppmkimfoajaaa
