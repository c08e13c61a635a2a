/- What SortFunc leaves. -/
import Derived.Test.YtcppmkimfoajaaaNdO
namespace Go.Proofs.Ytcppmkimfoajaaa
open Go.RowKit Go.Sort Go.Proofs
set_option linter.all false

theorem below_sortK {B q n : Nat} {w : World} {d' : Array Rq} {os : Array Obj} (hB : B ≤ q) (hq : q < w.heap.size) : _root_.Go.RowKit.Below B w (sortWorldK encR 2 w q 0 n d' os) := by
  refine ⟨rfl, rfl, rfl, size_sortWorldK_c encR 2 w q 0 n d' os, fun k hk => ?_⟩
  have h1 : k < w.heap.size := by omega
  have h2 : k ≠ q := by omega
  simp [sortWorldK, grow, putRowK, putRow, mapBlock, Go.Sort.ahead, Array.getElem?_append_left, h1, Array.getElem?_modify, h2, Ne.symm h2]
  rw [Array.getElem_modify, if_neg (Ne.symm h2)]
theorem rowR_sortK {q n : Nat} {w : World} {d d' : Array Rq} {os : Array Obj} (h : RowR w q d) (hq : q < w.heap.size) (hs : d'.size = d.size) : RowR (sortWorldK encR 2 w q 0 n d' os) q d' :=
  holdsK_sortWorldK_c encR 2 w q 0 d d' n os h hq hs
end Go.Proofs.Ytcppmkimfoajaaa
