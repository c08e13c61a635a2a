/- The document's table of suites. -/
import Derived.Test.YtdhochjcigingaaDoorSuites
import Derived.Great.BuildSlice
namespace Go.Proofs.YtdhochjcigingaaDoor
open Go.RowKit
set_option linter.all false

def UseP (a b : Int) (w : World) (e : Ending) (w' : World) : Prop := e = .returned (.agg #[.int .i64 a, .int .i64 b]) ∧ Below w.heap.size w w'
theorem use69_any (a b : Int) (w : World) : Calls Tryd.prog 69 #[.int .i64 a, .int .i64 b] w (UseP a b w) := by
  go_enter Tryd.func69, Tryd.ntmps69
  go_wp2_with fail
  refine bodyPost_ret (v := .agg #[.int .i64 a, .int .i64 b]) (by simp [results, Tryd.results69, go_sem]) rfl ⟨rfl, ?_⟩
  exact (Below.refl _ _).alloc (Nat.le_refl _) _

/-- A suite of the table, as one value. -/
def suV (i : Nat) : Value := .agg (stC (i : Int) (rowAt i)).toArray
def SuR (i : Nat) (w : World) (e : Ending) (w' : World) : Prop := e = .returned (suV i) ∧ Below w.heap.size w w'

set_option maxRecDepth 100000 in
set_option maxHeartbeats 4000000 in
theorem suite70_lit (c : Int) (s : ByteArray) (xa xb sg ca cb mc lo hi : Int) (w : World) : Calls Tryd.prog 70 #[.int .i64 c, .string s, .agg #[.int .i64 xa, .int .i64 xb], .agg #[.int .i64 sg, .int .i64 0], .agg #[.int .i64 ca, .int .i64 cb], .agg #[.int .i64 mc, .int .i64 0], .int .i64 lo, .int .i64 hi] w
    fun e w' => e = .returned (.agg #[.int .i64 c, .string s, .int .i64 xa, .int .i64 xb, .int .i64 sg, .int .i64 0, .int .i64 ca, .int .i64 cb, .int .i64 mc, .int .i64 0, .int .i64 lo, .int .i64 hi]) ∧ Below w.heap.size w w' := by
  go_enter Tryd.func70, Tryd.ntmps70
  go_wp2_with fail
  refine bodyPost_ret (v := .agg #[.int .i64 c, .string s, .int .i64 xa, .int .i64 xb, .int .i64 sg, .int .i64 0, .int .i64 ca, .int .i64 cb, .int .i64 mc, .int .i64 0, .int .i64 lo, .int .i64 hi]) (by simp [results, Tryd.results70, go_sem]) rfl ⟨rfl, ?_⟩
  exact (((((Below.refl _ _).alloc (Nat.le_refl _) _).alloc (by simp) _).alloc (by simp; omega) _).alloc (by simp; omega) _).alloc (by simp; omega) _

theorem suite70_any (i : Nat) (r : SRow) (w : World) : Calls Tryd.prog 70 #[.int .i64 i, .string ⟨r.name.toArray⟩, .agg #[.int .i64 r.xa, .int .i64 r.xb], .agg #[.int .i64 r.sign, .int .i64 0], .agg #[.int .i64 r.ca, .int .i64 r.cb], .agg #[.int .i64 r.mac, .int .i64 0], .int .i64 r.least, .int .i64 r.most] w
    fun e w' => e = .returned (.agg (stC (i : Int) r).toArray) ∧ Below w.heap.size w w' := suite70_lit _ _ _ _ _ _ _ _ _ _ w

theorem s70_1 (W : World) : Calls Tryd.prog 70 #[.int .i64 1, .string ⟨#[114, 115, 97, 45, 114, 99, 52, 45, 109, 100, 53]⟩, .agg #[.int .i64 10, .int .i64 0], .agg #[.int .i64 5, .int .i64 0], .agg #[.int .i64 14, .int .i64 128], .agg #[.int .i64 19, .int .i64 0], .int .i64 1, .int .i64 2] W (SuR 1 W) := suite70_any 1 (rowAt 1) W
theorem s70_2 (W : World) : Calls Tryd.prog 70 #[.int .i64 2, .string ⟨#[114, 115, 97, 45, 114, 99, 52, 45, 115, 104, 97]⟩, .agg #[.int .i64 10, .int .i64 0], .agg #[.int .i64 5, .int .i64 0], .agg #[.int .i64 14, .int .i64 128], .agg #[.int .i64 20, .int .i64 0], .int .i64 1, .int .i64 3] W (SuR 2 W) := suite70_any 2 (rowAt 2) W
theorem s70_3 (W : World) : Calls Tryd.prog 70 #[.int .i64 3, .string ⟨#[114, 115, 97, 45, 100, 101, 115, 51, 45, 115, 104, 97]⟩, .agg #[.int .i64 10, .int .i64 0], .agg #[.int .i64 5, .int .i64 0], .agg #[.int .i64 15, .int .i64 168], .agg #[.int .i64 20, .int .i64 0], .int .i64 1, .int .i64 3] W (SuR 3 W) := suite70_any 3 (rowAt 3) W
theorem s70_4 (W : World) : Calls Tryd.prog 70 #[.int .i64 4, .string ⟨#[100, 104, 101, 45, 100, 115, 97, 45, 100, 101, 115, 51, 45, 115, 104, 97]⟩, .agg #[.int .i64 11, .int .i64 1024], .agg #[.int .i64 6, .int .i64 0], .agg #[.int .i64 15, .int .i64 168], .agg #[.int .i64 20, .int .i64 0], .int .i64 1, .int .i64 3] W (SuR 4 W) := suite70_any 4 (rowAt 4) W
theorem s70_5 (W : World) : Calls Tryd.prog 70 #[.int .i64 5, .string ⟨#[100, 104, 101, 45, 114, 115, 97, 45, 100, 101, 115, 51, 45, 115, 104, 97]⟩, .agg #[.int .i64 11, .int .i64 1024], .agg #[.int .i64 5, .int .i64 0], .agg #[.int .i64 15, .int .i64 168], .agg #[.int .i64 20, .int .i64 0], .int .i64 1, .int .i64 3] W (SuR 5 W) := suite70_any 5 (rowAt 5) W
theorem s70_6 (W : World) : Calls Tryd.prog 70 #[.int .i64 6, .string ⟨#[114, 115, 97, 45, 97, 101, 115, 49, 50, 56, 45, 115, 104, 97]⟩, .agg #[.int .i64 10, .int .i64 0], .agg #[.int .i64 5, .int .i64 0], .agg #[.int .i64 16, .int .i64 128], .agg #[.int .i64 20, .int .i64 0], .int .i64 1, .int .i64 3] W (SuR 6 W) := suite70_any 6 (rowAt 6) W
theorem s70_7 (W : World) : Calls Tryd.prog 70 #[.int .i64 7, .string ⟨#[100, 104, 101, 45, 114, 115, 97, 45, 97, 101, 115, 49, 50, 56, 45, 115, 104, 97]⟩, .agg #[.int .i64 11, .int .i64 2048], .agg #[.int .i64 5, .int .i64 0], .agg #[.int .i64 16, .int .i64 128], .agg #[.int .i64 20, .int .i64 0], .int .i64 1, .int .i64 3] W (SuR 7 W) := suite70_any 7 (rowAt 7) W
theorem s70_8 (W : World) : Calls Tryd.prog 70 #[.int .i64 8, .string ⟨#[101, 99, 100, 104, 101, 45, 114, 115, 97, 45, 97, 101, 115, 49, 50, 56, 45, 115, 104, 97]⟩, .agg #[.int .i64 12, .int .i64 256], .agg #[.int .i64 5, .int .i64 0], .agg #[.int .i64 16, .int .i64 128], .agg #[.int .i64 20, .int .i64 0], .int .i64 1, .int .i64 3] W (SuR 8 W) := suite70_any 8 (rowAt 8) W
theorem s70_9 (W : World) : Calls Tryd.prog 70 #[.int .i64 9, .string ⟨#[101, 99, 100, 104, 101, 45, 101, 99, 100, 115, 97, 45, 97, 101, 115, 50, 53, 54, 45, 115, 104, 97, 50, 53, 54]⟩, .agg #[.int .i64 12, .int .i64 256], .agg #[.int .i64 7, .int .i64 0], .agg #[.int .i64 16, .int .i64 256], .agg #[.int .i64 21, .int .i64 0], .int .i64 3, .int .i64 3] W (SuR 9 W) := suite70_any 9 (rowAt 9) W
theorem s70_10 (W : World) : Calls Tryd.prog 70 #[.int .i64 10, .string ⟨#[101, 99, 100, 104, 101, 45, 114, 115, 97, 45, 97, 101, 115, 49, 50, 56, 45, 103, 99, 109]⟩, .agg #[.int .i64 12, .int .i64 256], .agg #[.int .i64 5, .int .i64 0], .agg #[.int .i64 17, .int .i64 128], .agg #[.int .i64 22, .int .i64 0], .int .i64 3, .int .i64 3] W (SuR 10 W) := suite70_any 10 (rowAt 10) W
theorem s70_11 (W : World) : Calls Tryd.prog 70 #[.int .i64 11, .string ⟨#[101, 99, 100, 104, 101, 45, 101, 99, 100, 115, 97, 45, 97, 101, 115, 50, 53, 54, 45, 103, 99, 109]⟩, .agg #[.int .i64 12, .int .i64 384], .agg #[.int .i64 7, .int .i64 0], .agg #[.int .i64 17, .int .i64 256], .agg #[.int .i64 22, .int .i64 0], .int .i64 3, .int .i64 3] W (SuR 11 W) := suite70_any 11 (rowAt 11) W
theorem s70_12 (W : World) : Calls Tryd.prog 70 #[.int .i64 12, .string ⟨#[101, 99, 100, 104, 101, 45, 114, 115, 97, 45, 99, 104, 97, 99, 104, 97]⟩, .agg #[.int .i64 12, .int .i64 256], .agg #[.int .i64 5, .int .i64 0], .agg #[.int .i64 18, .int .i64 0], .agg #[.int .i64 22, .int .i64 0], .int .i64 3, .int .i64 3] W (SuR 12 W) := suite70_any 12 (rowAt 12) W
theorem s70_13 (W : World) : Calls Tryd.prog 70 #[.int .i64 13, .string ⟨#[114, 115, 97, 45, 97, 101, 115, 50, 53, 54, 45, 103, 99, 109]⟩, .agg #[.int .i64 10, .int .i64 0], .agg #[.int .i64 5, .int .i64 0], .agg #[.int .i64 17, .int .i64 256], .agg #[.int .i64 22, .int .i64 0], .int .i64 3, .int .i64 3] W (SuR 13 W) := suite70_any 13 (rowAt 13) W
theorem s70_14 (W : World) : Calls Tryd.prog 70 #[.int .i64 14, .string ⟨#[97, 101, 115, 49, 50, 56, 45, 103, 99, 109]⟩, .agg #[.int .i64 12, .int .i64 256], .agg #[.int .i64 0, .int .i64 0], .agg #[.int .i64 17, .int .i64 128], .agg #[.int .i64 22, .int .i64 0], .int .i64 4, .int .i64 4] W (SuR 14 W) := suite70_any 14 (rowAt 14) W
theorem s70_15 (W : World) : Calls Tryd.prog 70 #[.int .i64 15, .string ⟨#[99, 104, 97, 99, 104, 97]⟩, .agg #[.int .i64 12, .int .i64 256], .agg #[.int .i64 0, .int .i64 0], .agg #[.int .i64 18, .int .i64 0], .agg #[.int .i64 22, .int .i64 0], .int .i64 4, .int .i64 4] W (SuR 15 W) := suite70_any 15 (rowAt 15) W
theorem s70_16 (W : World) : Calls Tryd.prog 70 #[.int .i64 16, .string ⟨#[109, 108, 107, 101, 109, 45, 97, 101, 115, 50, 53, 54, 45, 103, 99, 109]⟩, .agg #[.int .i64 13, .int .i64 768], .agg #[.int .i64 0, .int .i64 0], .agg #[.int .i64 17, .int .i64 256], .agg #[.int .i64 22, .int .i64 0], .int .i64 4, .int .i64 4] W (SuR 16 W) := suite70_any 16 (rowAt 16) W
end Go.Proofs.YtdhochjcigingaaDoor
