/- slices.Sort and slices.Compact of numbers that the call owns. -/
import Derived.Test.YtdhochjcigingaaDoorVkC
import Derived.Test.YtdhochjcigingaaDoorShelfS
import Derived.Sort.OwnSortedInts
import Derived.Lib.OwnBridge
namespace Go.Proofs.YtdhochjcigingaaDoor
open Go.RowKit Go.Sort
set_option linter.all false

def vj (l : List Int) : List Value := l.map (Value.int .i64)
theorem vj_one (l : List Int) : ∀ u ∈ vj l, u.oneCell' = true := by
  intro u hu
  obtain ⟨x, _, rfl⟩ := List.mem_map.1 hu
  rfl
theorem infoI : (Tryd.prog.info? 3).map (fun i => (i.zero, i.size, i.bytes)) = some (some (.int .i64 0), 1, 8) := by kernel_rfl

/-- What is left: the slice at g owns L, and only g has changed among what was there. -/
def OwnsP (base g n cap : Nat) (L : List Int) (w w' : World) : Prop := w'.ownsRow base 3 1 (.slice (some ⟨g, 0, none⟩) n cap) n (vj L) ∧ w.grownBy w' (some g)

theorem sort_own (base g n cap : Nat) (L S : List Int) (w : World) (h : w.ownsRow base 3 1 (.slice (some ⟨g, 0, none⟩) n cap) n (vj L)) (hn : n ≤ 1000) (hS : (L.mergeSort fun x y => decide (x ≤ y)) = S) :
    Calls Tryd.prog 110 #[.slice (some ⟨g, 0, none⟩) n cap] w fun e w' => e = .returned (.tuple #[]) ∧ OwnsP base g n cap S w w' := by
  obtain ⟨g', cap', hv, hbg, hgl, hnc, hcm, hlen, hH⟩ := Lib.holds_of_ownsRow (enc := Value.int .i64) (zs := L) h (by intro hh; cases hh)
  cases hv
  subst hlen
  have hl2 : S.length = L.length := by rw [← hS]; exact List.length_mergeSort L
  refine (Tryd.slices_Sort_int g 0 cap L w hH hgl (by omega)).mono ?_
  rintro e w' ⟨rfl, k, os, rfl⟩
  rw [hS]
  rcases h.2 with ⟨h0, _⟩ | ⟨g', cap', cur, hv, hbase, hb, h1, h2, h3, h4⟩
  · cases h0
  cases hv
  exact ⟨rfl, ownsRow_sortedI (n := k) (os := os) (ts := S) hl2 hbase hb h1 h2 h3, grownBy_sortedI _⟩

theorem grown_put {w : World} {g q : Nat} (d : Array Int) : w.grownBy (putRow (Value.int .i64) (Sort.ahead w q) g 0 d) (some g) := by
  have := grownBy_sortedI (w := w) (g := g) (n := q) (os := #[]) d
  rwa [grow_empty] at this

theorem compact_own (base g n cap : Nat) (L S : List Int) (w : World) (h : w.ownsRow base 3 1 (.slice (some ⟨g, 0, none⟩) n cap) n (vj L)) (hn : n ≤ 1000) (hS : Lib.compact L = S) :
    Calls Tryd.prog 111 #[.slice (some ⟨g, 0, none⟩) n cap] w fun e w' => e = .returned (.slice (some ⟨g, 0, none⟩) S.length cap) ∧ OwnsP base g S.length cap S w w' := by
  obtain ⟨g', cap', hv, hbg, hgl, hnc, hcm, hlen, hH⟩ := Lib.holds_of_ownsRow (enc := Value.int .i64) (zs := L) h (by intro hh; cases hh)
  cases hv
  subst hlen
  have hle := Lib.compact_length_le L
  rw [hS] at hle
  refine (Tryd.slices_Compact_int g 0 cap L w hH (by omega) (by omega)).mono ?_
  rintro e w' ⟨rfl, q, rfl⟩
  rw [hS]
  refine ⟨rfl, ?_, grown_put _⟩
  have hc := Lib.ownsRow_putRow (q := q) (k := S.length) (ys := S ++ List.replicate (L.length - S.length) 0) (enc := Value.int .i64) (zs := L) h (by simp; omega) (by omega)
  rw [List.take_left] at hc
  exact hc

theorem sorted5 : ([0, 0, 40001, 0, 9].mergeSort fun x y => decide (x ≤ y)) = ([0, 0, 0, 9, 40001] : List Int) := by
  simp [List.mergeSort, List.MergeSort.Internal.splitInTwo, List.splitAt, List.splitAt.go]
theorem compact5 : Lib.compact ([0, 0, 0, 9, 40001] : List Int) = [0, 9, 40001] := by decide +kernel
end Go.Proofs.YtdhochjcigingaaDoor
