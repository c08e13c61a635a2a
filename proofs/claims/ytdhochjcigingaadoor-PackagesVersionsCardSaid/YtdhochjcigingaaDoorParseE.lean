/- catalog.Parse where it fails. -/
import Derived.Test.YtdhochjcigingaaDoorParse
namespace Go.Proofs.YtdhochjcigingaaDoor
open Go.RowKit
set_option linter.all false

set_option maxRecDepth 100000 in
set_option maxHeartbeats 4000000 in
theorem parse_bad {m : Int} (s : List UInt8) (hs : s.length ≤ 1000) (w : World) (h : Tabs m w) (h0 : s ≠ []) (hok : textS (parseA s) (parseB s) ≠ s) : Calls Tryd.prog 12 #[.string ⟨s.toArray⟩] w (ParseP 0 0 7 w) := by
  have hP0 : PW m w w.heap.size (w.alloc (.cells #[.int .i64 0, .int .i64 0] 23)) := ⟨heap_alloc_new _ _, h.alloc _, (Below.refl _ _).alloc (Nat.le_refl _) _, by simp⟩
  have cC := cut_any s hs _ hP0.tabs
  have hlB := cutB_len s
  have he : s.isEmpty = false := by simpa using h0
  unfold parseA parseB at *
  generalize cutA s = x at *
  generalize cutB s = y at *
  generalize cutC s = z at *
  have CC := Lib.hid cC; clear cC
  have HOK := Lib.hid hok
  go_enter Tryd.func12, Tryd.ntmps12
  go_wp2_with fail
  refine (CC.out).mono ?_
  rintro e w1 ⟨rfl, n, rfl⟩
  have hP1 := hP0.step (below_drewN (Below.refl _ _) n)
  generalize (w.alloc (.cells #[.int .i64 0, .int .i64 0] 23)).drewN n = W1 at *
  generalize hR : w.heap.size = R at *
  clear CC hP0 hok
  go_wp2_with fail
  refine (find_any x _ hP1.tabs).mono ?_
  rintro e w2 ⟨rfl, hb2⟩
  have hP2 := hP1.step hb2
  clear hb2 hP1
  go_wp2_with fail
  have hU3 : PU m w R w2.heap.size (findS x : Nat) 0 (w2.alloc (.cells #[.int .i64 (findS x : Nat), .int .i64 0] 23)) := by
    have hp := hP2.step ((Below.refl _ _).alloc (Nat.le_refl _) (.cells #[.int .i64 (findS x : Nat), .int .i64 0] 23))
    exact ⟨hp, heap_alloc_new _ _, by simp, by have := hP2.lt; omega, hP2.below.size⟩
  clear hP2
  generalize (w2.alloc (.cells #[.int .i64 (findS x : Nat), .int .i64 0] 23)) = W3 at *
  generalize w2.heap.size = B at *
  refine (atoi_any y (by omega) _ hU3.pw.tabs).mono ?_
  rintro e w3 ⟨ev, rfl, hb3⟩
  have hU4 := hU3.step hb3
  have hU5 := hU4.set h (atoiV y)
  obtain ⟨c0, c1, c2⟩ := hU4.cells
  obtain ⟨d0, d1, d2⟩ := hU5.cells
  clear hb3 hU3
  have cT := text_any (findS x : Nat) (atoiV y) _ hU5.pw.tabs
  have hok := HOK.out
  generalize textS (findS x : Nat) (atoiV y) = t at cT hok
  have hq : (t == s) = false := by simpa using hok
  clear hok
  have CT := Lib.hid cT; clear cT
  go_wp2_with fail
  refine (CT.out).mono ?_
  rintro e w4 ⟨rfl, hb4⟩
  have hU6 := hU5.step hb4
  obtain ⟨g0, g1, g2⟩ := hU6.cells
  obtain ⟨r0, r1, f0, f1⟩ := hU6.pw.cells
  clear hb4 c0 c1 c2 d0 d1 d2
  have hle : w.heap.size ≤ R := by omega
  go_wp2_with fail
  exact hU6.pw.out hle _ _ _ rfl rfl rfl

set_option maxRecDepth 100000 in
set_option maxHeartbeats 4000000 in
theorem parse_empty {m : Int} (w : World) (h : Tabs m w) : Calls Tryd.prog 12 #[.string ⟨#[]⟩] w (ParseP 0 0 7 w) := by
  have hP0 : PW m w w.heap.size (w.alloc (.cells #[.int .i64 0, .int .i64 0] 23)) := ⟨heap_alloc_new _ _, h.alloc _, (Below.refl _ _).alloc (Nat.le_refl _) _, by simp⟩
  have cC := cut_any [] (by simp) _ hP0.tabs
  have hlB := cutB_len []
  rw [List.length_nil] at hlB
  generalize cutA [] = x at *
  generalize cutB [] = y at *
  generalize cutC [] = z at *
  have CC := Lib.hid cC; clear cC
  go_enter Tryd.func12, Tryd.ntmps12
  go_wp2_with fail
  refine (CC.out).mono ?_
  rintro e w1 ⟨rfl, n, rfl⟩
  have hP1 := hP0.step (below_drewN (Below.refl _ _) n)
  generalize (w.alloc (.cells #[.int .i64 0, .int .i64 0] 23)).drewN n = W1 at *
  generalize hR : w.heap.size = R at *
  clear CC hP0
  go_wp2_with fail
  refine (find_any x _ hP1.tabs).mono ?_
  rintro e w2 ⟨rfl, hb2⟩
  have hP2 := hP1.step hb2
  clear hb2 hP1
  go_wp2_with fail
  have hU3 : PU m w R w2.heap.size (findS x : Nat) 0 (w2.alloc (.cells #[.int .i64 (findS x : Nat), .int .i64 0] 23)) := by
    have hp := hP2.step ((Below.refl _ _).alloc (Nat.le_refl _) (.cells #[.int .i64 (findS x : Nat), .int .i64 0] 23))
    exact ⟨hp, heap_alloc_new _ _, by simp, by have := hP2.lt; omega, hP2.below.size⟩
  clear hP2
  generalize (w2.alloc (.cells #[.int .i64 (findS x : Nat), .int .i64 0] 23)) = W3 at *
  generalize w2.heap.size = B at *
  refine (atoi_any y (by omega) _ hU3.pw.tabs).mono ?_
  rintro e w3 ⟨ev, rfl, hb3⟩
  have hU4 := hU3.step hb3
  have hU5 := hU4.set h (atoiV y)
  obtain ⟨c0, c1, c2⟩ := hU4.cells
  obtain ⟨d0, d1, d2⟩ := hU5.cells
  clear hb3 hU3
  obtain ⟨r0, r1, f0, f1⟩ := hU5.pw.cells
  have hle : w.heap.size ≤ R := by omega
  go_wp2_with fail
  exact hU5.pw.out hle _ _ _ rfl rfl rfl

/-- Parse of any text: use and error. -/
def pA (s : List UInt8) : Int := if s ≠ [] ∧ textS (parseA s) (parseB s) = s then parseA s else 0
def pB (s : List UInt8) : Int := if s ≠ [] ∧ textS (parseA s) (parseB s) = s then parseB s else 0
def pE (s : List UInt8) : Int := if s ≠ [] ∧ textS (parseA s) (parseB s) = s then 0 else 7
theorem parse_any {m : Int} (s : List UInt8) (hs : s.length ≤ 1000) (w : World) (h : Tabs m w) : Calls Tryd.prog 12 #[.string ⟨s.toArray⟩] w (ParseP (pA s) (pB s) (pE s) w) := by
  unfold pA pB pE
  by_cases h0 : s = []
  · subst h0
    exact parse_empty w h
  by_cases hok : textS (parseA s) (parseB s) = s
  · rw [if_pos ⟨h0, hok⟩, if_pos ⟨h0, hok⟩, if_pos ⟨h0, hok⟩]
    exact parse_good s hs w h h0 hok
  · rw [if_neg (fun e => hok e.2), if_neg (fun e => hok e.2), if_neg (fun e => hok e.2)]
    exact parse_bad s hs w h h0 hok
end Go.Proofs.YtdhochjcigingaaDoor
