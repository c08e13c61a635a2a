/-
  NARROWER THAN 'FOR EVERY INPUT', by the rows' own cells (each row's printed sentence says how): CatalogRaw: laid · CatalogTexts: laid · CatalogBack: laid · CatalogGrows: laid · CatalogTable: laid · PackagesVersions: laid · PackagesOrder: laid · VerdictKeeps: laid.
  DERIVED. THE GIVEN ROWS OF THIS SEAT. 8 by the template 'for every input the law returns true; each argument reads behind the call as it read before'; 0 by the template 'total and deterministic' (their statements: YtdhochjcigingaaDoorTotals.lean).
  GIVEN WITH THE SEED: the statements are not yours to turn. If you find one false, say at which input.
  Laid BY PROGRAM, IN A SANDBOX (cutbox-rows.mjs): the forced cells as the released guide's own fill.sh prints them over the translation 68caa038ba4d3dd4… (all of the seat's roots in one cut). By AI agents, Wed Nov 11 2026. No macro, syntax, notation, axiom, sorry.
-/
import Derived.Test.YtdhochjcigingaaDoorChecked
import GoSem.PinnedTables
import GoSem.Claim
import GoSem.ClaimJoined
import GoSem.ClaimMapViews
import Derived.JoinedTies
import Derived.KernelRfl
namespace Go.Proofs.YtdhochjcigingaaDoor
/- THE CELL 'sum', in the pinned program and in every row, IS THE sha256 OF THE DUMP (.gsa) THAT YtdhochjcigingaaDoorProg.lean LOADS. Nothing in Lean hashes anything: it is a label: what it is worth is what the hold of that sum in a sandbox is worth. -/
noncomputable def Tryd.pinned : Pinned := { name := "ytdhochjcigingaadoor", sum := "68caa038ba4d3dd405ebae37324781ca2d6050f8c79530244a2a8d15074899c3", checked := Tryd.checked }
namespace Rows
def none {H : Type} : Left H := { results := [], args := [] }

/- WHAT THE LISTED PACKAGE-LEVEL VARIABLES READ AS WHEN THE CALL BEGINS. Each datum BY PROGRAM (the guide's laid-datum.mjs) off the statement by which the dump's own 'gosem.cut.vars' lays the variable. In a bare row this is a premise. The card (YtdhochjcigingaaDoorCards.lean) ties it to the program's text. -/
def laid_math_bits_deBruijn32tab {H : Type} : DataW H := .agg [.lit (.int .u8 0), .lit (.int .u8 1), .lit (.int .u8 28), .lit (.int .u8 2), .lit (.int .u8 29), .lit (.int .u8 14), .lit (.int .u8 24), .lit (.int .u8 3), .lit (.int .u8 30), .lit (.int .u8 22), .lit (.int .u8 20), .lit (.int .u8 15), .lit (.int .u8 25), .lit (.int .u8 17), .lit (.int .u8 4), .lit (.int .u8 8), .lit (.int .u8 31), .lit (.int .u8 27), .lit (.int .u8 13), .lit (.int .u8 23), .lit (.int .u8 21), .lit (.int .u8 19), .lit (.int .u8 16), .lit (.int .u8 7), .lit (.int .u8 26), .lit (.int .u8 12), .lit (.int .u8 18), .lit (.int .u8 6), .lit (.int .u8 11), .lit (.int .u8 5), .lit (.int .u8 10), .lit (.int .u8 9)]
def laid_math_bits_deBruijn64tab {H : Type} : DataW H := .agg [.lit (.int .u8 0), .lit (.int .u8 1), .lit (.int .u8 56), .lit (.int .u8 2), .lit (.int .u8 57), .lit (.int .u8 49), .lit (.int .u8 28), .lit (.int .u8 3), .lit (.int .u8 61), .lit (.int .u8 58), .lit (.int .u8 42), .lit (.int .u8 50), .lit (.int .u8 38), .lit (.int .u8 29), .lit (.int .u8 17), .lit (.int .u8 4), .lit (.int .u8 62), .lit (.int .u8 47), .lit (.int .u8 59), .lit (.int .u8 36), .lit (.int .u8 45), .lit (.int .u8 43), .lit (.int .u8 51), .lit (.int .u8 22), .lit (.int .u8 53), .lit (.int .u8 39), .lit (.int .u8 33), .lit (.int .u8 30), .lit (.int .u8 24), .lit (.int .u8 18), .lit (.int .u8 12), .lit (.int .u8 5), .lit (.int .u8 63), .lit (.int .u8 55), .lit (.int .u8 48), .lit (.int .u8 27), .lit (.int .u8 60), .lit (.int .u8 41), .lit (.int .u8 37), .lit (.int .u8 16), .lit (.int .u8 46), .lit (.int .u8 35), .lit (.int .u8 44), .lit (.int .u8 21), .lit (.int .u8 52), .lit (.int .u8 32), .lit (.int .u8 23), .lit (.int .u8 11), .lit (.int .u8 54), .lit (.int .u8 26), .lit (.int .u8 40), .lit (.int .u8 15), .lit (.int .u8 34), .lit (.int .u8 20), .lit (.int .u8 31), .lit (.int .u8 10), .lit (.int .u8 25), .lit (.int .u8 14), .lit (.int .u8 19), .lit (.int .u8 9), .lit (.int .u8 13), .lit (.int .u8 8), .lit (.int .u8 7), .lit (.int .u8 6)]
def laid_internal_strconv_uint64pow10 {H : Type} : DataW H := .agg [.lit (.int .u64 1), .lit (.int .u64 10), .lit (.int .u64 100), .lit (.int .u64 1000), .lit (.int .u64 10000), .lit (.int .u64 100000), .lit (.int .u64 1000000), .lit (.int .u64 10000000), .lit (.int .u64 100000000), .lit (.int .u64 1000000000), .lit (.int .u64 10000000000), .lit (.int .u64 100000000000), .lit (.int .u64 1000000000000), .lit (.int .u64 10000000000000), .lit (.int .u64 100000000000000), .lit (.int .u64 1000000000000000), .lit (.int .u64 10000000000000000), .lit (.int .u64 100000000000000000), .lit (.int .u64 1000000000000000000), .lit (.int .u64 10000000000000000000)]
def laid_strconv_ErrRange {H : Type} : DataW H := .iface "*errors.errorString" (.ptr (.agg [.lit (.string [118, 97, 108, 117, 101, 32, 111, 117, 116, 32, 111, 102, 32, 114, 97, 110, 103, 101])]))
def laid_strconv_ErrSyntax {H : Type} : DataW H := .iface "*errors.errorString" (.ptr (.agg [.lit (.string [105, 110, 118, 97, 108, 105, 100, 32, 115, 121, 110, 116, 97, 120])]))
def laid_cipherplan_catalog_algorithms {H : Type} : DataW H := .agg [.agg [.lit (.string []), .lit (.int .u8 0), .lit (.int .u16 0)], .agg [.lit (.string [109, 100, 53]), .lit (.int .u8 1), .lit (.int .u16 18)], .agg [.lit (.string [115, 104, 97, 49]), .lit (.int .u8 1), .lit (.int .u16 60)], .agg [.lit (.string [115, 104, 97, 50, 53, 54]), .lit (.int .u8 1), .lit (.int .u16 128)], .agg [.lit (.string [115, 104, 97, 51, 56, 52]), .lit (.int .u8 1), .lit (.int .u16 192)], .agg [.lit (.string [114, 115, 97]), .lit (.int .u8 2), .lit (.int .u16 0)], .agg [.lit (.string [100, 115, 97]), .lit (.int .u8 2), .lit (.int .u16 0)], .agg [.lit (.string [101, 99, 100, 115, 97]), .lit (.int .u8 2), .lit (.int .u16 0)], .agg [.lit (.string [101, 100, 50, 53, 53, 49, 57]), .lit (.int .u8 2), .lit (.int .u16 128)], .agg [.lit (.string [109, 108, 100, 115, 97]), .lit (.int .u8 2), .lit (.int .u16 0)], .agg [.lit (.string [114, 115, 97, 107, 120]), .lit (.int .u8 3), .lit (.int .u16 0)], .agg [.lit (.string [100, 104, 101]), .lit (.int .u8 3), .lit (.int .u16 0)], .agg [.lit (.string [101, 99, 100, 104, 101]), .lit (.int .u8 3), .lit (.int .u16 0)], .agg [.lit (.string [109, 108, 107, 101, 109]), .lit (.int .u8 3), .lit (.int .u16 0)], .agg [.lit (.string [114, 99, 52]), .lit (.int .u8 4), .lit (.int .u16 0)], .agg [.lit (.string [100, 101, 115, 51]), .lit (.int .u8 4), .lit (.int .u16 0)], .agg [.lit (.string [97, 101, 115, 99, 98, 99]), .lit (.int .u8 4), .lit (.int .u16 0)], .agg [.lit (.string [97, 101, 115, 103, 99, 109]), .lit (.int .u8 4), .lit (.int .u16 0)], .agg [.lit (.string [99, 104, 97, 99, 104, 97]), .lit (.int .u8 4), .lit (.int .u16 256)], .agg [.lit (.string [104, 109, 97, 99, 109, 100, 53]), .lit (.int .u8 5), .lit (.int .u16 64)], .agg [.lit (.string [104, 109, 97, 99, 115, 104, 97, 49]), .lit (.int .u8 5), .lit (.int .u16 80)], .agg [.lit (.string [104, 109, 97, 99, 115, 104, 97, 50, 53, 54]), .lit (.int .u8 5), .lit (.int .u16 128)], .agg [.lit (.string [97, 101, 97, 100]), .lit (.int .u8 5), .lit (.int .u16 256)]]
def laid_cipherplan_catalog_rows {H : Type} : DataW H := .agg [.agg [.lit (.string []), .agg [.lit (.int .u8 0), .lit (.int .u16 0)], .agg [.lit (.int .u8 0), .lit (.int .u16 0)], .lit (.int .u8 0), .lit (.int .u8 0), .lit (.int .u8 0), .lit (.int .u8 0)], .agg [.lit (.string [114, 115, 97, 45, 114, 99, 52, 45, 109, 100, 53]), .agg [.lit (.int .u8 10), .lit (.int .u16 0)], .agg [.lit (.int .u8 14), .lit (.int .u16 128)], .lit (.int .u8 5), .lit (.int .u8 19), .lit (.int .u8 1), .lit (.int .u8 2)], .agg [.lit (.string [114, 115, 97, 45, 114, 99, 52, 45, 115, 104, 97]), .agg [.lit (.int .u8 10), .lit (.int .u16 0)], .agg [.lit (.int .u8 14), .lit (.int .u16 128)], .lit (.int .u8 5), .lit (.int .u8 20), .lit (.int .u8 1), .lit (.int .u8 3)], .agg [.lit (.string [114, 115, 97, 45, 100, 101, 115, 51, 45, 115, 104, 97]), .agg [.lit (.int .u8 10), .lit (.int .u16 0)], .agg [.lit (.int .u8 15), .lit (.int .u16 168)], .lit (.int .u8 5), .lit (.int .u8 20), .lit (.int .u8 1), .lit (.int .u8 3)], .agg [.lit (.string [100, 104, 101, 45, 100, 115, 97, 45, 100, 101, 115, 51, 45, 115, 104, 97]), .agg [.lit (.int .u8 11), .lit (.int .u16 1024)], .agg [.lit (.int .u8 15), .lit (.int .u16 168)], .lit (.int .u8 6), .lit (.int .u8 20), .lit (.int .u8 1), .lit (.int .u8 3)], .agg [.lit (.string [100, 104, 101, 45, 114, 115, 97, 45, 100, 101, 115, 51, 45, 115, 104, 97]), .agg [.lit (.int .u8 11), .lit (.int .u16 1024)], .agg [.lit (.int .u8 15), .lit (.int .u16 168)], .lit (.int .u8 5), .lit (.int .u8 20), .lit (.int .u8 1), .lit (.int .u8 3)], .agg [.lit (.string [114, 115, 97, 45, 97, 101, 115, 49, 50, 56, 45, 115, 104, 97]), .agg [.lit (.int .u8 10), .lit (.int .u16 0)], .agg [.lit (.int .u8 16), .lit (.int .u16 128)], .lit (.int .u8 5), .lit (.int .u8 20), .lit (.int .u8 1), .lit (.int .u8 3)], .agg [.lit (.string [100, 104, 101, 45, 114, 115, 97, 45, 97, 101, 115, 49, 50, 56, 45, 115, 104, 97]), .agg [.lit (.int .u8 11), .lit (.int .u16 2048)], .agg [.lit (.int .u8 16), .lit (.int .u16 128)], .lit (.int .u8 5), .lit (.int .u8 20), .lit (.int .u8 1), .lit (.int .u8 3)], .agg [.lit (.string [101, 99, 100, 104, 101, 45, 114, 115, 97, 45, 97, 101, 115, 49, 50, 56, 45, 115, 104, 97]), .agg [.lit (.int .u8 12), .lit (.int .u16 256)], .agg [.lit (.int .u8 16), .lit (.int .u16 128)], .lit (.int .u8 5), .lit (.int .u8 20), .lit (.int .u8 1), .lit (.int .u8 3)], .agg [.lit (.string [101, 99, 100, 104, 101, 45, 101, 99, 100, 115, 97, 45, 97, 101, 115, 50, 53, 54, 45, 115, 104, 97, 50, 53, 54]), .agg [.lit (.int .u8 12), .lit (.int .u16 256)], .agg [.lit (.int .u8 16), .lit (.int .u16 256)], .lit (.int .u8 7), .lit (.int .u8 21), .lit (.int .u8 3), .lit (.int .u8 3)], .agg [.lit (.string [101, 99, 100, 104, 101, 45, 114, 115, 97, 45, 97, 101, 115, 49, 50, 56, 45, 103, 99, 109]), .agg [.lit (.int .u8 12), .lit (.int .u16 256)], .agg [.lit (.int .u8 17), .lit (.int .u16 128)], .lit (.int .u8 5), .lit (.int .u8 22), .lit (.int .u8 3), .lit (.int .u8 3)], .agg [.lit (.string [101, 99, 100, 104, 101, 45, 101, 99, 100, 115, 97, 45, 97, 101, 115, 50, 53, 54, 45, 103, 99, 109]), .agg [.lit (.int .u8 12), .lit (.int .u16 384)], .agg [.lit (.int .u8 17), .lit (.int .u16 256)], .lit (.int .u8 7), .lit (.int .u8 22), .lit (.int .u8 3), .lit (.int .u8 3)], .agg [.lit (.string [101, 99, 100, 104, 101, 45, 114, 115, 97, 45, 99, 104, 97, 99, 104, 97]), .agg [.lit (.int .u8 12), .lit (.int .u16 256)], .agg [.lit (.int .u8 18), .lit (.int .u16 0)], .lit (.int .u8 5), .lit (.int .u8 22), .lit (.int .u8 3), .lit (.int .u8 3)], .agg [.lit (.string [114, 115, 97, 45, 97, 101, 115, 50, 53, 54, 45, 103, 99, 109]), .agg [.lit (.int .u8 10), .lit (.int .u16 0)], .agg [.lit (.int .u8 17), .lit (.int .u16 256)], .lit (.int .u8 5), .lit (.int .u8 22), .lit (.int .u8 3), .lit (.int .u8 3)], .agg [.lit (.string [97, 101, 115, 49, 50, 56, 45, 103, 99, 109]), .agg [.lit (.int .u8 12), .lit (.int .u16 256)], .agg [.lit (.int .u8 17), .lit (.int .u16 128)], .lit (.int .u8 0), .lit (.int .u8 22), .lit (.int .u8 4), .lit (.int .u8 4)], .agg [.lit (.string [99, 104, 97, 99, 104, 97]), .agg [.lit (.int .u8 12), .lit (.int .u16 256)], .agg [.lit (.int .u8 18), .lit (.int .u16 0)], .lit (.int .u8 0), .lit (.int .u8 22), .lit (.int .u8 4), .lit (.int .u8 4)], .agg [.lit (.string [109, 108, 107, 101, 109, 45, 97, 101, 115, 50, 53, 54, 45, 103, 99, 109]), .agg [.lit (.int .u8 13), .lit (.int .u16 768)], .agg [.lit (.int .u8 17), .lit (.int .u16 256)], .lit (.int .u8 0), .lit (.int .u8 22), .lit (.int .u8 4), .lit (.int .u8 4)]]
def laid_unicode_utf8_acceptRanges {H : Type} : DataW H := .agg [.agg [.lit (.int .u8 128), .lit (.int .u8 191)], .agg [.lit (.int .u8 160), .lit (.int .u8 191)], .agg [.lit (.int .u8 128), .lit (.int .u8 159)], .agg [.lit (.int .u8 144), .lit (.int .u8 191)], .agg [.lit (.int .u8 128), .lit (.int .u8 143)], .agg [.lit (.int .u8 0), .lit (.int .u8 0)], .agg [.lit (.int .u8 0), .lit (.int .u8 0)], .agg [.lit (.int .u8 0), .lit (.int .u8 0)], .agg [.lit (.int .u8 0), .lit (.int .u8 0)], .agg [.lit (.int .u8 0), .lit (.int .u8 0)], .agg [.lit (.int .u8 0), .lit (.int .u8 0)], .agg [.lit (.int .u8 0), .lit (.int .u8 0)], .agg [.lit (.int .u8 0), .lit (.int .u8 0)], .agg [.lit (.int .u8 0), .lit (.int .u8 0)], .agg [.lit (.int .u8 0), .lit (.int .u8 0)], .agg [.lit (.int .u8 0), .lit (.int .u8 0)]]
/-- One of Go's own tables, pinned by name: the form's constant. -/
def laid_unicode_utf8_first : DataW Unit := Go.Pinned.utf8First

/-- 'cipherplanlaw02.CatalogRaw': WHATEVER THE INPUT: true; the input reads as it did. -/
def catalogRawSpec : ChangeSpec := { name := "catalogRaw", fn := fun _ => fun
  | [d1, d2, d3] => { results := [.lit (.bool true)], args := [d1, d2, d3] }
  | _ => none }
def catalogRawRow : OpenClaim := { program := "ytdhochjcigingaadoor", sum := "68caa038ba4d3dd405ebae37324781ca2d6050f8c79530244a2a8d15074899c3", func := "cipherplan/cipherplanlaw02.CatalogRaw", spec := "catalogRaw", inPlace := ["internal/bytealg.IndexByteString", "internal/bytealg.IndexString"], recurses := true, named := ["internal/bytealg.MaxLen", "cipherplan/catalog.algorithms", "strconv.ErrSyntax", "strconv.ErrRange", "internal/strconv.uint64pow10", "math/bits.deBruijn32tab", "math/bits.deBruijn64tab", "cipherplan/catalog.rows"], apart := false, laid := [("math/bits.deBruijn32tab", laid_math_bits_deBruijn32tab), ("math/bits.deBruijn64tab", laid_math_bits_deBruijn64tab), ("internal/strconv.uint64pow10", laid_internal_strconv_uint64pow10), ("strconv.ErrRange", laid_strconv_ErrRange), ("strconv.ErrSyntax", laid_strconv_ErrSyntax), ("cipherplan/catalog.algorithms", laid_cipherplan_catalog_algorithms), ("cipherplan/catalog.rows", laid_cipherplan_catalog_rows)] }
def CatalogRawSaid : Prop := catalogRawRow.holds Tryd.pinned (OpenSpec.ofChange catalogRawSpec)

/-- ITS FALSE NEIGHBOUR: 'it returns false'. Refute it at one input. -/
def catalogRawWrong : ChangeSpec := { name := "catalogRaw", fn := fun _ => fun
  | [d1, d2, d3] => { results := [.lit (.bool false)], args := [d1, d2, d3] }
  | _ => none }
def CatalogRawWrongFalsely : Prop := catalogRawRow.holds Tryd.pinned (OpenSpec.ofChange catalogRawWrong)

/-- 'cipherplanlaw02.CatalogTexts': WHATEVER THE INPUT: true; the input reads as it did. -/
def catalogTextsSpec : ChangeSpec := { name := "catalogTexts", fn := fun _ => fun
  | [d1, d2, d3, d4] => { results := [.lit (.bool true)], args := [d1, d2, d3, d4] }
  | _ => none }
def catalogTextsRow : OpenClaim := { program := "ytdhochjcigingaadoor", sum := "68caa038ba4d3dd405ebae37324781ca2d6050f8c79530244a2a8d15074899c3", func := "cipherplan/cipherplanlaw02.CatalogTexts", spec := "catalogTexts", inPlace := ["internal/bytealg.IndexByteString", "internal/bytealg.IndexString"], recurses := true, named := ["internal/bytealg.MaxLen", "cipherplan/catalog.algorithms", "strconv.ErrSyntax", "strconv.ErrRange", "internal/strconv.uint64pow10", "math/bits.deBruijn32tab", "math/bits.deBruijn64tab", "cipherplan/catalog.rows"], apart := false, laid := [("math/bits.deBruijn32tab", laid_math_bits_deBruijn32tab), ("math/bits.deBruijn64tab", laid_math_bits_deBruijn64tab), ("internal/strconv.uint64pow10", laid_internal_strconv_uint64pow10), ("strconv.ErrRange", laid_strconv_ErrRange), ("strconv.ErrSyntax", laid_strconv_ErrSyntax), ("cipherplan/catalog.algorithms", laid_cipherplan_catalog_algorithms), ("cipherplan/catalog.rows", laid_cipherplan_catalog_rows)] }
def CatalogTextsSaid : Prop := catalogTextsRow.holds Tryd.pinned (OpenSpec.ofChange catalogTextsSpec)

/-- ITS FALSE NEIGHBOUR: 'it returns false'. Refute it at one input. -/
def catalogTextsWrong : ChangeSpec := { name := "catalogTexts", fn := fun _ => fun
  | [d1, d2, d3, d4] => { results := [.lit (.bool false)], args := [d1, d2, d3, d4] }
  | _ => none }
def CatalogTextsWrongFalsely : Prop := catalogTextsRow.holds Tryd.pinned (OpenSpec.ofChange catalogTextsWrong)

/-- 'cipherplanlaw02.CatalogBack': WHATEVER THE INPUT: true; the input reads as it did. -/
def catalogBackSpec : ChangeSpec := { name := "catalogBack", fn := fun _ => fun
  | [d] => { results := [.lit (.bool true)], args := [d] }
  | _ => none }
def catalogBackRow : OpenClaim := { program := "ytdhochjcigingaadoor", sum := "68caa038ba4d3dd405ebae37324781ca2d6050f8c79530244a2a8d15074899c3", func := "cipherplan/cipherplanlaw02.CatalogBack", spec := "catalogBack", inPlace := ["internal/bytealg.IndexByteString", "internal/bytealg.IndexString"], named := ["internal/bytealg.MaxLen", "cipherplan/catalog.algorithms", "strconv.ErrSyntax", "strconv.ErrRange", "internal/strconv.uint64pow10", "math/bits.deBruijn32tab", "math/bits.deBruijn64tab", "cipherplan/catalog.rows"], apart := false, laid := [("math/bits.deBruijn32tab", laid_math_bits_deBruijn32tab), ("math/bits.deBruijn64tab", laid_math_bits_deBruijn64tab), ("internal/strconv.uint64pow10", laid_internal_strconv_uint64pow10), ("strconv.ErrRange", laid_strconv_ErrRange), ("strconv.ErrSyntax", laid_strconv_ErrSyntax), ("cipherplan/catalog.algorithms", laid_cipherplan_catalog_algorithms), ("cipherplan/catalog.rows", laid_cipherplan_catalog_rows)] }
def CatalogBackSaid : Prop := catalogBackRow.holds Tryd.pinned (OpenSpec.ofChange catalogBackSpec)

/-- ITS FALSE NEIGHBOUR: 'it returns false'. Refute it at one input. -/
def catalogBackWrong : ChangeSpec := { name := "catalogBack", fn := fun _ => fun
  | [d] => { results := [.lit (.bool false)], args := [d] }
  | _ => none }
def CatalogBackWrongFalsely : Prop := catalogBackRow.holds Tryd.pinned (OpenSpec.ofChange catalogBackWrong)

/-- 'cipherplanlaw02.CatalogGrows': WHATEVER THE INPUT: true; the input reads as it did. -/
def catalogGrowsSpec : ChangeSpec := { name := "catalogGrows", fn := fun _ => fun
  | [d1, d2, d3] => { results := [.lit (.bool true)], args := [d1, d2, d3] }
  | _ => none }
def catalogGrowsRow : OpenClaim := { program := "ytdhochjcigingaadoor", sum := "68caa038ba4d3dd405ebae37324781ca2d6050f8c79530244a2a8d15074899c3", func := "cipherplan/cipherplanlaw02.CatalogGrows", spec := "catalogGrows", inPlace := ["internal/bytealg.IndexByteString", "internal/bytealg.IndexString"], named := ["cipherplan/catalog.algorithms", "internal/strconv.uint64pow10", "math/bits.deBruijn32tab", "math/bits.deBruijn64tab", "internal/bytealg.MaxLen", "strconv.ErrSyntax", "strconv.ErrRange", "cipherplan/catalog.rows"], apart := false, laid := [("math/bits.deBruijn32tab", laid_math_bits_deBruijn32tab), ("math/bits.deBruijn64tab", laid_math_bits_deBruijn64tab), ("internal/strconv.uint64pow10", laid_internal_strconv_uint64pow10), ("strconv.ErrRange", laid_strconv_ErrRange), ("strconv.ErrSyntax", laid_strconv_ErrSyntax), ("cipherplan/catalog.algorithms", laid_cipherplan_catalog_algorithms), ("cipherplan/catalog.rows", laid_cipherplan_catalog_rows)] }
def CatalogGrowsSaid : Prop := catalogGrowsRow.holds Tryd.pinned (OpenSpec.ofChange catalogGrowsSpec)

/-- ITS FALSE NEIGHBOUR: 'it returns false'. Refute it at one input. -/
def catalogGrowsWrong : ChangeSpec := { name := "catalogGrows", fn := fun _ => fun
  | [d1, d2, d3] => { results := [.lit (.bool false)], args := [d1, d2, d3] }
  | _ => none }
def CatalogGrowsWrongFalsely : Prop := catalogGrowsRow.holds Tryd.pinned (OpenSpec.ofChange catalogGrowsWrong)

/-- 'cipherplanlaw02.CatalogTable': WHATEVER THE INPUT: true; the input reads as it did. -/
def catalogTableSpec : ChangeSpec := { name := "catalogTable", fn := fun _ => fun
  | [d] => { results := [.lit (.bool true)], args := [d] }
  | _ => none }
def catalogTableRow : OpenClaim := { program := "ytdhochjcigingaadoor", sum := "68caa038ba4d3dd405ebae37324781ca2d6050f8c79530244a2a8d15074899c3", func := "cipherplan/cipherplanlaw02.CatalogTable", spec := "catalogTable", inPlace := ["internal/bytealg.IndexByteString", "internal/bytealg.IndexString"], named := ["cipherplan/catalog.rows", "internal/bytealg.MaxLen", "cipherplan/catalog.algorithms", "strconv.ErrSyntax", "strconv.ErrRange", "internal/strconv.uint64pow10", "math/bits.deBruijn32tab", "math/bits.deBruijn64tab"], apart := false, laid := [("math/bits.deBruijn32tab", laid_math_bits_deBruijn32tab), ("math/bits.deBruijn64tab", laid_math_bits_deBruijn64tab), ("internal/strconv.uint64pow10", laid_internal_strconv_uint64pow10), ("strconv.ErrRange", laid_strconv_ErrRange), ("strconv.ErrSyntax", laid_strconv_ErrSyntax), ("cipherplan/catalog.algorithms", laid_cipherplan_catalog_algorithms), ("cipherplan/catalog.rows", laid_cipherplan_catalog_rows)] }
def CatalogTableSaid : Prop := catalogTableRow.holds Tryd.pinned (OpenSpec.ofChange catalogTableSpec)

/-- ITS FALSE NEIGHBOUR: 'it returns false'. Refute it at one input. -/
def catalogTableWrong : ChangeSpec := { name := "catalogTable", fn := fun _ => fun
  | [d] => { results := [.lit (.bool false)], args := [d] }
  | _ => none }
def CatalogTableWrongFalsely : Prop := catalogTableRow.holds Tryd.pinned (OpenSpec.ofChange catalogTableWrong)

/-- 'cipherplanlaw12.PackagesVersions': WHATEVER THE INPUT: true; the input reads as it did. -/
def packagesVersionsSpec : ChangeSpec := { name := "packagesVersions", fn := fun _ => fun
  | [d1, d2, d3] => { results := [.lit (.bool true)], args := [d1, d2, d3] }
  | _ => none }
def packagesVersionsRow : OpenClaim := { program := "ytdhochjcigingaadoor", sum := "68caa038ba4d3dd405ebae37324781ca2d6050f8c79530244a2a8d15074899c3", func := "cipherplan/cipherplanlaw12.PackagesVersions", spec := "packagesVersions", inPlace := ["internal/bytealg.CountString", "internal/bytealg.IndexByteString", "internal/bytealg.IndexString", "internal/abi.NoEscape", "internal/bytealg.MakeNoZero"], recurses := true, named := ["internal/bytealg.MaxLen", "unicode/utf8.first", "unicode/utf8.acceptRanges", "internal/strconv.uint64pow10", "math/bits.deBruijn32tab", "math/bits.deBruijn64tab", "strconv.ErrSyntax", "strconv.ErrRange"], apart := false, laid := [("math/bits.deBruijn32tab", laid_math_bits_deBruijn32tab), ("math/bits.deBruijn64tab", laid_math_bits_deBruijn64tab), ("internal/strconv.uint64pow10", laid_internal_strconv_uint64pow10), ("unicode/utf8.acceptRanges", laid_unicode_utf8_acceptRanges), ("strconv.ErrRange", laid_strconv_ErrRange), ("strconv.ErrSyntax", laid_strconv_ErrSyntax), ("unicode/utf8.first", laid_unicode_utf8_first)] }
def PackagesVersionsSaid : Prop := packagesVersionsRow.holds Tryd.pinned (OpenSpec.ofChange packagesVersionsSpec)

/-- ITS FALSE NEIGHBOUR: 'it returns false'. Refute it at one input. -/
def packagesVersionsWrong : ChangeSpec := { name := "packagesVersions", fn := fun _ => fun
  | [d1, d2, d3] => { results := [.lit (.bool false)], args := [d1, d2, d3] }
  | _ => none }
def PackagesVersionsWrongFalsely : Prop := packagesVersionsRow.holds Tryd.pinned (OpenSpec.ofChange packagesVersionsWrong)

/-- 'cipherplanlaw12.PackagesOrder': WHATEVER THE INPUT: true; the input reads as it did. -/
def packagesOrderSpec : ChangeSpec := { name := "packagesOrder", fn := fun _ => fun
  | [d] => { results := [.lit (.bool true)], args := [d] }
  | _ => none }
def packagesOrderRow : OpenClaim := { program := "ytdhochjcigingaadoor", sum := "68caa038ba4d3dd405ebae37324781ca2d6050f8c79530244a2a8d15074899c3", func := "cipherplan/cipherplanlaw12.PackagesOrder", spec := "packagesOrder", inPlace := ["internal/bytealg.CountString", "internal/bytealg.IndexByteString", "internal/bytealg.IndexString", "internal/abi.NoEscape", "internal/bytealg.MakeNoZero"], named := ["internal/bytealg.MaxLen", "unicode/utf8.first", "unicode/utf8.acceptRanges", "internal/strconv.uint64pow10", "math/bits.deBruijn32tab", "math/bits.deBruijn64tab", "strconv.ErrSyntax", "strconv.ErrRange"], apart := false, laid := [("math/bits.deBruijn32tab", laid_math_bits_deBruijn32tab), ("math/bits.deBruijn64tab", laid_math_bits_deBruijn64tab), ("internal/strconv.uint64pow10", laid_internal_strconv_uint64pow10), ("unicode/utf8.acceptRanges", laid_unicode_utf8_acceptRanges), ("strconv.ErrRange", laid_strconv_ErrRange), ("strconv.ErrSyntax", laid_strconv_ErrSyntax), ("unicode/utf8.first", laid_unicode_utf8_first)] }
def PackagesOrderSaid : Prop := packagesOrderRow.holds Tryd.pinned (OpenSpec.ofChange packagesOrderSpec)

/-- ITS FALSE NEIGHBOUR: 'it returns false'. Refute it at one input. -/
def packagesOrderWrong : ChangeSpec := { name := "packagesOrder", fn := fun _ => fun
  | [d] => { results := [.lit (.bool false)], args := [d] }
  | _ => none }
def PackagesOrderWrongFalsely : Prop := packagesOrderRow.holds Tryd.pinned (OpenSpec.ofChange packagesOrderWrong)

/-- 'cipherplanlaw18.VerdictKeeps': WHATEVER THE INPUT: true; the input reads as it did. -/
def verdictKeepsSpec : ChangeSpec := { name := "verdictKeeps", fn := fun _ => fun
  | [d1, d2, d3] => { results := [.lit (.bool true)], args := [d1, d2, d3] }
  | _ => none }
def verdictKeepsRow : OpenClaim := { program := "ytdhochjcigingaadoor", sum := "68caa038ba4d3dd405ebae37324781ca2d6050f8c79530244a2a8d15074899c3", func := "cipherplan/cipherplanlaw18.VerdictKeeps", spec := "verdictKeeps", unfollowed := true, recurses := true, named := ["cipherplan/catalog.algorithms"], apart := false, laid := [("cipherplan/catalog.algorithms", laid_cipherplan_catalog_algorithms)] }
def VerdictKeepsSaid : Prop := verdictKeepsRow.holds Tryd.pinned (OpenSpec.ofChange verdictKeepsSpec)

/-- ITS FALSE NEIGHBOUR: 'it returns false'. Refute it at one input. -/
def verdictKeepsWrong : ChangeSpec := { name := "verdictKeeps", fn := fun _ => fun
  | [d1, d2, d3] => { results := [.lit (.bool false)], args := [d1, d2, d3] }
  | _ => none }
def VerdictKeepsWrongFalsely : Prop := verdictKeepsRow.holds Tryd.pinned (OpenSpec.ofChange verdictKeepsWrong)

/- THE SECOND FORM. 'bulk': how many values and letters a reading holds, each counted each time it is reached (what is shared counts as often as it is met; a slice's spare places count too). A statement '..UptoSaid' is the law's where the arguments, and the package variables that the reading takes, are together of bulk at most 1048576: NARROWER than '..Said'. Prove '..Said' where nothing that the law and all that it calls make is longer than what came in: it says more and counts as full. Else prove '..UptoSaid'. A law counts once. -/
mutual
def uptoBulk {H : Type} : DataW H → Nat
  | .lit (.string bytes) => bytes.length + 1
  | .lit _ => 1
  | .nil => 1
  | .ptr d => uptoBulk d + 1
  | .slice elems spare => uptoBulkAll elems + uptoBulkAll spare + 1
  | .agg parts => uptoBulkAll parts + 1
  | .iface _ d => uptoBulk d + 1
  | .map entries => uptoBulkEntries entries + 1
  | .held _ => 1
def uptoBulkAll {H : Type} : List (DataW H) → Nat
  | [] => 0
  | d :: r => uptoBulk d + uptoBulkAll r
def uptoBulkEntries {H : Type} : List (Lit × DataW H) → Nat
  | [] => 0
  | x :: r => uptoBulkEntry x + uptoBulkEntries r
def uptoBulkEntry {H : Type} : Lit × DataW H → Nat
  | (.string bytes, d) => bytes.length + uptoBulk d + 1
  | (_, d) => uptoBulk d + 1
 end
def uptoSmall : (H : Type) → List (DataW H) → Bool := fun _ ds => decide (uptoBulkAll ds ≤ 1048576)
def OpenSpec.upto (s : _root_.Go.ChangeSpec) : _root_.Go.OpenSpec := { _root_.Go.OpenSpec.ofChange s with cond := some uptoSmall }

/-- 'cipherplanlaw02.CatalogRaw', WHERE WHAT IT READS IS OF BULK AT MOST 1048576: true; the input reads as it did. -/
def catalogRawUptoRow : OpenClaim := { program := "ytdhochjcigingaadoor", sum := "68caa038ba4d3dd405ebae37324781ca2d6050f8c79530244a2a8d15074899c3", func := "cipherplan/cipherplanlaw02.CatalogRaw", spec := "catalogRaw", inPlace := ["internal/bytealg.IndexByteString", "internal/bytealg.IndexString"], recurses := true, named := ["internal/bytealg.MaxLen", "cipherplan/catalog.algorithms", "strconv.ErrSyntax", "strconv.ErrRange", "internal/strconv.uint64pow10", "math/bits.deBruijn32tab", "math/bits.deBruijn64tab", "cipherplan/catalog.rows"], apart := false, laid := [("math/bits.deBruijn32tab", laid_math_bits_deBruijn32tab), ("math/bits.deBruijn64tab", laid_math_bits_deBruijn64tab), ("internal/strconv.uint64pow10", laid_internal_strconv_uint64pow10), ("strconv.ErrRange", laid_strconv_ErrRange), ("strconv.ErrSyntax", laid_strconv_ErrSyntax), ("cipherplan/catalog.algorithms", laid_cipherplan_catalog_algorithms), ("cipherplan/catalog.rows", laid_cipherplan_catalog_rows)], narrowed := true }
def CatalogRawUptoSaid : Prop := catalogRawUptoRow.holds Tryd.pinned (OpenSpec.upto catalogRawSpec)

/-- 'cipherplanlaw02.CatalogTexts', WHERE WHAT IT READS IS OF BULK AT MOST 1048576: true; the input reads as it did. -/
def catalogTextsUptoRow : OpenClaim := { program := "ytdhochjcigingaadoor", sum := "68caa038ba4d3dd405ebae37324781ca2d6050f8c79530244a2a8d15074899c3", func := "cipherplan/cipherplanlaw02.CatalogTexts", spec := "catalogTexts", inPlace := ["internal/bytealg.IndexByteString", "internal/bytealg.IndexString"], recurses := true, named := ["internal/bytealg.MaxLen", "cipherplan/catalog.algorithms", "strconv.ErrSyntax", "strconv.ErrRange", "internal/strconv.uint64pow10", "math/bits.deBruijn32tab", "math/bits.deBruijn64tab", "cipherplan/catalog.rows"], apart := false, laid := [("math/bits.deBruijn32tab", laid_math_bits_deBruijn32tab), ("math/bits.deBruijn64tab", laid_math_bits_deBruijn64tab), ("internal/strconv.uint64pow10", laid_internal_strconv_uint64pow10), ("strconv.ErrRange", laid_strconv_ErrRange), ("strconv.ErrSyntax", laid_strconv_ErrSyntax), ("cipherplan/catalog.algorithms", laid_cipherplan_catalog_algorithms), ("cipherplan/catalog.rows", laid_cipherplan_catalog_rows)], narrowed := true }
def CatalogTextsUptoSaid : Prop := catalogTextsUptoRow.holds Tryd.pinned (OpenSpec.upto catalogTextsSpec)

/-- 'cipherplanlaw02.CatalogBack', WHERE WHAT IT READS IS OF BULK AT MOST 1048576: true; the input reads as it did. -/
def catalogBackUptoRow : OpenClaim := { program := "ytdhochjcigingaadoor", sum := "68caa038ba4d3dd405ebae37324781ca2d6050f8c79530244a2a8d15074899c3", func := "cipherplan/cipherplanlaw02.CatalogBack", spec := "catalogBack", inPlace := ["internal/bytealg.IndexByteString", "internal/bytealg.IndexString"], named := ["internal/bytealg.MaxLen", "cipherplan/catalog.algorithms", "strconv.ErrSyntax", "strconv.ErrRange", "internal/strconv.uint64pow10", "math/bits.deBruijn32tab", "math/bits.deBruijn64tab", "cipherplan/catalog.rows"], apart := false, laid := [("math/bits.deBruijn32tab", laid_math_bits_deBruijn32tab), ("math/bits.deBruijn64tab", laid_math_bits_deBruijn64tab), ("internal/strconv.uint64pow10", laid_internal_strconv_uint64pow10), ("strconv.ErrRange", laid_strconv_ErrRange), ("strconv.ErrSyntax", laid_strconv_ErrSyntax), ("cipherplan/catalog.algorithms", laid_cipherplan_catalog_algorithms), ("cipherplan/catalog.rows", laid_cipherplan_catalog_rows)], narrowed := true }
def CatalogBackUptoSaid : Prop := catalogBackUptoRow.holds Tryd.pinned (OpenSpec.upto catalogBackSpec)

/-- 'cipherplanlaw02.CatalogGrows', WHERE WHAT IT READS IS OF BULK AT MOST 1048576: true; the input reads as it did. -/
def catalogGrowsUptoRow : OpenClaim := { program := "ytdhochjcigingaadoor", sum := "68caa038ba4d3dd405ebae37324781ca2d6050f8c79530244a2a8d15074899c3", func := "cipherplan/cipherplanlaw02.CatalogGrows", spec := "catalogGrows", inPlace := ["internal/bytealg.IndexByteString", "internal/bytealg.IndexString"], named := ["cipherplan/catalog.algorithms", "internal/strconv.uint64pow10", "math/bits.deBruijn32tab", "math/bits.deBruijn64tab", "internal/bytealg.MaxLen", "strconv.ErrSyntax", "strconv.ErrRange", "cipherplan/catalog.rows"], apart := false, laid := [("math/bits.deBruijn32tab", laid_math_bits_deBruijn32tab), ("math/bits.deBruijn64tab", laid_math_bits_deBruijn64tab), ("internal/strconv.uint64pow10", laid_internal_strconv_uint64pow10), ("strconv.ErrRange", laid_strconv_ErrRange), ("strconv.ErrSyntax", laid_strconv_ErrSyntax), ("cipherplan/catalog.algorithms", laid_cipherplan_catalog_algorithms), ("cipherplan/catalog.rows", laid_cipherplan_catalog_rows)], narrowed := true }
def CatalogGrowsUptoSaid : Prop := catalogGrowsUptoRow.holds Tryd.pinned (OpenSpec.upto catalogGrowsSpec)

/-- 'cipherplanlaw02.CatalogTable', WHERE WHAT IT READS IS OF BULK AT MOST 1048576: true; the input reads as it did. -/
def catalogTableUptoRow : OpenClaim := { program := "ytdhochjcigingaadoor", sum := "68caa038ba4d3dd405ebae37324781ca2d6050f8c79530244a2a8d15074899c3", func := "cipherplan/cipherplanlaw02.CatalogTable", spec := "catalogTable", inPlace := ["internal/bytealg.IndexByteString", "internal/bytealg.IndexString"], named := ["cipherplan/catalog.rows", "internal/bytealg.MaxLen", "cipherplan/catalog.algorithms", "strconv.ErrSyntax", "strconv.ErrRange", "internal/strconv.uint64pow10", "math/bits.deBruijn32tab", "math/bits.deBruijn64tab"], apart := false, laid := [("math/bits.deBruijn32tab", laid_math_bits_deBruijn32tab), ("math/bits.deBruijn64tab", laid_math_bits_deBruijn64tab), ("internal/strconv.uint64pow10", laid_internal_strconv_uint64pow10), ("strconv.ErrRange", laid_strconv_ErrRange), ("strconv.ErrSyntax", laid_strconv_ErrSyntax), ("cipherplan/catalog.algorithms", laid_cipherplan_catalog_algorithms), ("cipherplan/catalog.rows", laid_cipherplan_catalog_rows)], narrowed := true }
def CatalogTableUptoSaid : Prop := catalogTableUptoRow.holds Tryd.pinned (OpenSpec.upto catalogTableSpec)

/-- 'cipherplanlaw12.PackagesVersions', WHERE WHAT IT READS IS OF BULK AT MOST 1048576: true; the input reads as it did. -/
def packagesVersionsUptoRow : OpenClaim := { program := "ytdhochjcigingaadoor", sum := "68caa038ba4d3dd405ebae37324781ca2d6050f8c79530244a2a8d15074899c3", func := "cipherplan/cipherplanlaw12.PackagesVersions", spec := "packagesVersions", inPlace := ["internal/bytealg.CountString", "internal/bytealg.IndexByteString", "internal/bytealg.IndexString", "internal/abi.NoEscape", "internal/bytealg.MakeNoZero"], recurses := true, named := ["internal/bytealg.MaxLen", "unicode/utf8.first", "unicode/utf8.acceptRanges", "internal/strconv.uint64pow10", "math/bits.deBruijn32tab", "math/bits.deBruijn64tab", "strconv.ErrSyntax", "strconv.ErrRange"], apart := false, laid := [("math/bits.deBruijn32tab", laid_math_bits_deBruijn32tab), ("math/bits.deBruijn64tab", laid_math_bits_deBruijn64tab), ("internal/strconv.uint64pow10", laid_internal_strconv_uint64pow10), ("unicode/utf8.acceptRanges", laid_unicode_utf8_acceptRanges), ("strconv.ErrRange", laid_strconv_ErrRange), ("strconv.ErrSyntax", laid_strconv_ErrSyntax), ("unicode/utf8.first", laid_unicode_utf8_first)], narrowed := true }
def PackagesVersionsUptoSaid : Prop := packagesVersionsUptoRow.holds Tryd.pinned (OpenSpec.upto packagesVersionsSpec)

/-- 'cipherplanlaw12.PackagesOrder', WHERE WHAT IT READS IS OF BULK AT MOST 1048576: true; the input reads as it did. -/
def packagesOrderUptoRow : OpenClaim := { program := "ytdhochjcigingaadoor", sum := "68caa038ba4d3dd405ebae37324781ca2d6050f8c79530244a2a8d15074899c3", func := "cipherplan/cipherplanlaw12.PackagesOrder", spec := "packagesOrder", inPlace := ["internal/bytealg.CountString", "internal/bytealg.IndexByteString", "internal/bytealg.IndexString", "internal/abi.NoEscape", "internal/bytealg.MakeNoZero"], named := ["internal/bytealg.MaxLen", "unicode/utf8.first", "unicode/utf8.acceptRanges", "internal/strconv.uint64pow10", "math/bits.deBruijn32tab", "math/bits.deBruijn64tab", "strconv.ErrSyntax", "strconv.ErrRange"], apart := false, laid := [("math/bits.deBruijn32tab", laid_math_bits_deBruijn32tab), ("math/bits.deBruijn64tab", laid_math_bits_deBruijn64tab), ("internal/strconv.uint64pow10", laid_internal_strconv_uint64pow10), ("unicode/utf8.acceptRanges", laid_unicode_utf8_acceptRanges), ("strconv.ErrRange", laid_strconv_ErrRange), ("strconv.ErrSyntax", laid_strconv_ErrSyntax), ("unicode/utf8.first", laid_unicode_utf8_first)], narrowed := true }
def PackagesOrderUptoSaid : Prop := packagesOrderUptoRow.holds Tryd.pinned (OpenSpec.upto packagesOrderSpec)

/-- 'cipherplanlaw18.VerdictKeeps', WHERE WHAT IT READS IS OF BULK AT MOST 1048576: true; the input reads as it did. -/
def verdictKeepsUptoRow : OpenClaim := { program := "ytdhochjcigingaadoor", sum := "68caa038ba4d3dd405ebae37324781ca2d6050f8c79530244a2a8d15074899c3", func := "cipherplan/cipherplanlaw18.VerdictKeeps", spec := "verdictKeeps", unfollowed := true, recurses := true, named := ["cipherplan/catalog.algorithms"], apart := false, laid := [("cipherplan/catalog.algorithms", laid_cipherplan_catalog_algorithms)], narrowed := true }
def VerdictKeepsUptoSaid : Prop := verdictKeepsUptoRow.holds Tryd.pinned (OpenSpec.upto verdictKeepsSpec)

end Rows
end Go.Proofs.YtdhochjcigingaaDoor
