/- From the rows' condition of packages to the library's tables. -/
import Derived.Test.YtdhochjcigingaaDoorLaid
import Derived.Test.YtdhochjcigingaaDoorPkA
namespace Go.Proofs.YtdhochjcigingaaDoor
set_option linter.all false
open Go.RowKit Go.Lib

def laid7p : List (String × DataW Unit) := [("math/bits.deBruijn32tab", Rows.laid_math_bits_deBruijn32tab), ("math/bits.deBruijn64tab", Rows.laid_math_bits_deBruijn64tab), ("internal/strconv.uint64pow10", Rows.laid_internal_strconv_uint64pow10), ("unicode/utf8.acceptRanges", Rows.laid_unicode_utf8_acceptRanges), ("strconv.ErrRange", Rows.laid_strconv_ErrRange), ("strconv.ErrSyntax", Rows.laid_strconv_ErrSyntax), ("unicode/utf8.first", Rows.laid_unicode_utf8_first)]

theorem tabp_of_laid {W : World} (h : laidMetH Tryd.prog laid7p W) (hs : W.ShapedOpen Tryd.prog) : ∃ m, TabP m W := by
  rw [MakeChecks.laidMetH_plain _ _ _ (by kernel_rfl)] at h
  obtain ⟨ps, hv, _, hfz⟩ := h
  have r3 := reads_free hv "strconv.ErrSyntax" _ (.tail _ (.tail _ (.tail _ (.tail _ (.tail _ (.head _))))))
  have r4 := reads_free hv "strconv.ErrRange" _ (.tail _ (.tail _ (.tail _ (.tail _ (.head _)))))
  have r5 := reads_free hv "internal/strconv.uint64pow10" _ (.tail _ (.tail _ (.head _)))
  have r9 := reads_free hv "math/bits.deBruijn64tab" _ (.tail _ (.head _))
  obtain ⟨m, hm⟩ := cell_of_shapedOpen_int (g := 2) (zero := #[.int .i64 0]) (t := 3) hs (of_decide_eq_true (by kernel_rfl)) (by kernel_rfl) rfl (by kernel_rfl) (by kernel_rfl) Tryd.underlying3
  refine ⟨m, hm, ?_, ?_, ?_, ?_⟩
  · obtain ⟨g, t, cs, fuel, p, hg, ht, hvar, hd, hp⟩ := r3
    obtain rfl := Option.some.inj (n3.symm.trans hg)
    exact err_cell rfl n3 y3 ht hvar hd
  · obtain ⟨g, t, cs, fuel, p, hg, ht, hvar, hd, hp⟩ := r4
    obtain rfl := Option.some.inj (n4.symm.trans hg)
    exact err_cell rfl n4 y4 ht hvar hd
  · obtain ⟨g, t, cs, fuel, p, hg, ht, hvar, hd, hp⟩ := r5
    obtain rfl := Option.some.inj (n5.symm.trans hg)
    obtain rfl := Option.some.inj (y5.symm.trans ht)
    rw [pow_data] at hd
    unfold Lib.TabIs
    rw [hvar, ← cells_of_tab Tryd.underlying179 Tryd.underlying146 c146 c179 hd]
  · obtain ⟨g, t, cs, fuel, p, hg, ht, hvar, hd, hp⟩ := r9
    obtain rfl := Option.some.inj (n9.symm.trans hg)
    obtain ⟨t', f, hb⟩ := block_of_var hg hvar
    have := (Array.getElem?_eq_some_iff.1 hb).1
    omega

end Go.Proofs.YtdhochjcigingaaDoor
