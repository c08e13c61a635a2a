/- awake of chapter 28. -/
import Derived.Test.YtcppmkimfoajaaaNdS
namespace Go.Proofs.Ytcppmkimfoajaaa
open Go.RowKit
set_option linter.all false

def ep0 : Value := .agg #[.string { data := #[] }, .int .i64 0, .int .i64 0, .slice none 0 0, .bool false, .slice none 0 0, .slice none 0 0, .slice none 0 0, .bool false]
set_option maxRecDepth 100000 in
set_option maxHeartbeats 4000000 in
theorem rank_5 (w : World) : Calls Try.prog 35 #[.agg #[.string { data := #[] }, .int .i64 0, .int .i64 0, .slice none 0 0, .bool false, .slice none 0 0, .slice none 0 0, .slice none 0 0, .bool false], .agg #[.int .i64 0, .int .i64 5, .int .i64 0, .int .i64 0, .int .i64 0, .int .i64 0, .int .i64 0, .slice none 0 0]] w (IntP 1 w) := by
  have hb0 := ((Below.refl w.heap.size w).alloc (Nat.le_refl _) (.cells #[.string { data := #[] }, .int .i64 0, .int .i64 0, .slice none 0 0, .bool false, .slice none 0 0, .slice none 0 0, .slice none 0 0, .bool false] 78)).alloc (by simp) (.cells #[.int .i64 0, .int .i64 5, .int .i64 0, .int .i64 0, .int .i64 0, .int .i64 0, .int .i64 0, .slice none 0 0] 85)
  have HB0 := Lib.hid hb0
  clear hb0
  go_enter Try.func35, Try.ntmps35
  go_wp2_with fail
  go_ret
  exact ⟨rfl, HB0.out⟩
set_option maxRecDepth 100000 in
set_option maxHeartbeats 4000000 in
theorem rank_2 (w : World) : Calls Try.prog 35 #[.agg #[.string { data := #[] }, .int .i64 0, .int .i64 0, .slice none 0 0, .bool false, .slice none 0 0, .slice none 0 0, .slice none 0 0, .bool false], .agg #[.int .i64 0, .int .i64 2, .int .i64 0, .int .i64 0, .int .i64 0, .int .i64 0, .int .i64 0, .slice none 0 0]] w (IntP 3 w) := by
  have hb0 := ((Below.refl w.heap.size w).alloc (Nat.le_refl _) (.cells #[.string { data := #[] }, .int .i64 0, .int .i64 0, .slice none 0 0, .bool false, .slice none 0 0, .slice none 0 0, .slice none 0 0, .bool false] 78)).alloc (by simp) (.cells #[.int .i64 0, .int .i64 2, .int .i64 0, .int .i64 0, .int .i64 0, .int .i64 0, .int .i64 0, .slice none 0 0] 85)
  have HB0 := Lib.hid hb0
  clear hb0
  go_enter Try.func35, Try.ntmps35
  go_wp2_with fail
  go_ret
  exact ⟨rfl, HB0.out⟩
set_option maxRecDepth 100000 in
set_option maxHeartbeats 4000000 in
theorem awake28_any (w : World) (CS : ∀ (a' : Option Addr) (c' : Nat) (L : List Rq) (w' : World), L.length ≤ 900 → ReqsAt w' a' L → Calls Try.prog 41 #[.slice a' L.length c'] w' (LstP (unionL L []) w')) : Calls Try.prog 13 #[] w (BoolP true w) := by
  have HCS := Lib.hid CS
  have C1 := Lib.hid (rank_5 w)
  clear CS
  go_enter Try.func13, Try.ntmps13
  go_wp2_with fail
  refine (C1.out).mono ?_
  rintro e w1 ⟨rfl, hb1⟩
  have C2 := Lib.hid (rank_2 w1)
  have HB1 := Lib.hid hb1
  clear hb1 C1
  go_wp2_with fail
  refine (C2.out).mono ?_
  rintro e w2 ⟨rfl, hb2⟩
  have HB2 := Lib.hid (HB1.out.trans (hb2.mono HB1.out.size))
  clear hb2 C2
  have hba := (HB2.out.alloc HB2.out.size (.cells #[.int .i64 2, .int .i64 0, .int .i64 1] 3))
  have hz : TeamsAt (w2.alloc (.cells #[.int .i64 2, .int .i64 0, .int .i64 1] 3)) (some ⟨w2.heap.size, 0, none⟩) [2, 0, 1] := fun j hj => by
    refine ⟨w2.heap.size, 0, rfl, ?_⟩
    rw [cell_of_row _ _ _ _ _ _ (heap_alloc_new _ _)]
    match j, hj with
    | 0, _ => rfl
    | 1, _ => rfl
    | 2, _ => rfl
  have cc := chain_any (some ⟨w2.heap.size, 0, none⟩) 3 [2, 0, 1] _ (by simp) hz HCS.out
  rw [show unionL (chainL [2, 0, 1] ([2, 0, 1] : List Int).length) [] = [(0, 1), (2, 0)] by decide, show ([2, 0, 1] : List Int).length = 3 from rfl] at cc
  have CC := Lib.hid cc; have HBA := Lib.hid hba
  clear cc hba hz HCS
  go_wp2_with fail
  refine (CC.out).mono ?_
  rintro e w3 ⟨a3, c3, rfl, hc3, hr3, hb3, hn3⟩
  have HB3 := Lib.hid (HBA.out.trans (hb3.mono (by have := HBA.out.size; exact this)))
  rw [show ([(0, 1), (2, 0)] : List Rq).length = 2 from rfl]
  clear hc3 hr3 hb3 hn3 CC
  go_wp2_with fail
  go_ret
  exact ⟨rfl, HB3.out⟩
end Go.Proofs.Ytcppmkimfoajaaa
