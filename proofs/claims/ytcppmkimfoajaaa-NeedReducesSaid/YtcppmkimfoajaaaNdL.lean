/- slices.SortFunc of requirements. -/
import Derived.Test.YtcppmkimfoajaaaNdK
import Derived.Shelf.SlSortCmp.WholeK
import Derived.Shelf.Lay
import Derived.Ground.SlsfProg
namespace Go.Proofs.Ytcppmkimfoajaaa
open Go.RowKit Go.Sort Go.Proofs
set_option linter.all false

theorem cmpR_lt (x y : Rq) : ltOf cmpR x y = lessB x y := by
  have h : (cmpR x y < 0) ↔ lessB x y = true := by
    rw [less_iff]
    unfold cmpR orI Lib.compareInt
    by_cases h1 : x.1 < y.1
    · simp [h1]
    · by_cases h2 : y.1 < x.1
      · simp [h1, h2]; omega
      · by_cases h3 : x.2 < y.2
        · simp [h1, h2, h3]; omega
        · by_cases h4 : y.2 < x.2 <;> simp [h1, h2, h3, h4]
  unfold ltOf
  by_cases hb : lessB x y = true
  · rw [hb]; exact decide_eq_true (h.2 hb)
  · rw [Bool.not_eq_true] at hb; rw [hb]; exact decide_eq_false fun e => by rw [h.1 e] at hb; cases hb
theorem swoR : SWO (ltOf cmpR) where
  irrefl x := by rw [cmpR_lt]; exact less_irrefl x
  trans x y z h1 h2 := by rw [cmpR_lt] at *; exact less_trans h1 h2
  ntrans x y z h1 h2 := by
    rw [cmpR_lt] at *
    rw [← Bool.not_eq_true] at *
    rw [less_iff] at *
    omega
theorem cmpLays60 (blk size : Nat) (w : World) : CmpLays Try.prog 60 #[] encR 2 cmpR blk 0 size w :=
  fun _ _ _ _ x y => compare_any x.1 x.2 y.1 y.2 _
end Go.Proofs.Ytcppmkimfoajaaa
