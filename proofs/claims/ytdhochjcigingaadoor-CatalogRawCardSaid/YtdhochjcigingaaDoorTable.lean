/- CatalogTable. -/
import Derived.Test.YtdhochjcigingaaDoorSuV
import Derived.Test.YtdhochjcigingaaDoorRefSuites
namespace Go.Proofs.YtdhochjcigingaaDoor
open Go.RowKit
set_option linter.all false

theorem refsuites_v (w : World) : Calls Tryd.prog 35 #[] w (SuitesV w) :=
  (refsuites_any w).mono fun e w' ⟨R, he, hh, _, hb⟩ => ⟨R, 16, he, Nat.le_refl _, fun o hlt => by rw [cell_of_row _ R o _ _ _ hh]; simp, hb⟩

set_option maxHeartbeats 2000000 in
theorem refsuite0 (c : Int) (hc : c < 1 ∨ 17 ≤ c) (w : World) : Calls Tryd.prog 15 #[.int .i64 c] w (Suite0L w) := by
  by_cases h1 : c < 1
  · go_enter Tryd.func15, Tryd.ntmps15
    go_wp2_with fail
    refine bodyPost_ret (v := .tuple #[.agg stZ.toArray, .int .i64 8]) ?_ rfl ⟨rfl, (Below.refl _ _).alloc (Nat.le_refl _) _⟩
    simp [results, Tryd.results15, go_sem, stZ]
  · have h2 : 16 < c := by omega
    clear hc
    go_enter Tryd.func15, Tryd.ntmps15
    go_wp2_with fail
    refine bodyPost_ret (v := .tuple #[.agg stZ.toArray, .int .i64 8]) ?_ rfl ⟨rfl, (Below.refl _ _).alloc (Nat.le_refl _) _⟩
    simp [results, Tryd.results15, go_sem, stZ]

theorem suite15_out {w W : World} {R : Nat} {r : SRow} {c : Int} {x : Act} (hres : W.heap[R]? = some (.cells stZ.toArray 29 (0, 0))) (hb : Below w.heap.size w W) (hR : w.heap.size ≤ R) (ht : x.tmps.getD 2 undef = .pointer (some ⟨R, 0, none⟩)) (ht3 : x.tmps.getD 3 undef = .int .i64 0) (hd : x.defers = []) :
    bodyPost Tryd.prog Tryd.f15 (Suite1L c r w) .ret x (set12 W R (stC c r)) := by
  have h2 := set12_heap c r hres
  have hl := run_loadVar_row (set12 W R (stC c r)) R 29 29 _ (0, 0) _ h2 Tryd.underlying29 rfl (by kernel_rfl)
  refine bodyPost_ret (v := .tuple #[.agg (stC c r).toArray, .int .i64 0]) ?_ hd ⟨rfl, set12_below _ hb hR⟩
  have ht' : x.tmps[2]?.getD undef = .pointer (some ⟨R, 0, none⟩) := by simpa using ht
  have ht3' : x.tmps[3]?.getD undef = .int .i64 0 := by simpa using ht3
  simp [results, Tryd.results15, ht', ht3', asAddr, hl]

set_option maxRecDepth 100000 in
set_option maxHeartbeats 4000000 in
theorem refsuite1 (j : Nat) (hj : j < 16) (w : World) : Calls Tryd.prog 15 #[.int .i64 ((j : Int) + 1)] w (Suite1L ((j + 1 : Nat) : Int) (rowAt (j + 1)) w) := by
  have cS := refsuites_v (w.alloc (.cells stZ.toArray 29))
  have h1 : (0 : Int) ≤ (j : Int) := by omega
  have h2 : (j : Int) < 16 := by omega
  unfold stZ at cS
  have CS := Lib.hid cS; clear cS
  go_enter Tryd.func15, Tryd.ntmps15
  go_wp2_with fail
  refine (CS.out).mono ?_
  rintro e W1 ⟨b, cap, rfl, hcap, hv, hb1⟩
  have hres : W1.heap[w.heap.size]? = some (.cells stZ.toArray 29 (0, 0)) := (hb1.block _ (by simp)).trans (heap_alloc_new _ _)
  have hb := below_of_alloc hb1
  generalize hR : w.heap.size = R at *
  have fz := fun j => frozen_of_row W1 R j _ _ hres
  have k := fun j => cell_of_row W1 R j _ _ _ hres
  have z0 := k 0
  have z1 := k 1
  have z2 := k 2
  have z3 := k 3
  have z4 := k 4
  have z5 := k 5
  have z6 := k 6
  have z7 := k 7
  have z8 := k 8
  have z9 := k 9
  have z10 := k 10
  have z11 := k 11
  simp [stZ] at z0 z1 z2 z3 z4 z5 z6 z7 z8 z9 z10 z11
  obtain ⟨a0, a1, a2, a3, a4, a5, a6, a7, a8, a9, a10, a11⟩ := hv.at12 j hj
  generalize rowAt (j + 1) = r at *
  generalize ((j + 1 : Nat) : Int) = c at *
  have HRES := Lib.hid hres; have HB := Lib.hid hb; have HR := Lib.hid hR
  clear k hres hb hb1 hR hv
  go_wp2_with fail
  exact suite15_out HRES.out (by rw [HR.out]; exact HB.out) (Nat.le_of_eq HR.out) rfl rfl rfl

/-- Both tables, on the law's way. -/
structure TW (m : Int) (w : World) (a b : Nat) (W : World) : Prop where
  va : SuV W a
  vb : SuV W b
  tabs : Tabs m W
  below : Below w.heap.size w W
theorem TW.step {m : Int} {w : World} {a b : Nat} {W W' : World} (h : TW m w a b W) (hb : Below W.heap.size W W') : TW m w a b W' :=
  ⟨h.va.below hb, h.vb.below hb, h.tabs.step hb, h.below.trans (hb.mono h.below.size)⟩

def TRel (m : Int) (w : World) (a b : Nat) (iv : Value) (wr : World) : Prop := ∃ k : Nat, k ≤ 16 ∧ iv = .int .i64 (k : Int) ∧ TW m w a b wr

theorem code_cases (c : Int) : (c < 1 ∨ 17 ≤ c) ∨ ∃ j : Nat, j < 16 ∧ c = (j : Int) + 1 := by
  by_cases h : c < 1 ∨ 17 ≤ c
  · exact .inl h
  · exact .inr ⟨(c - 1).toNat, by omega, by omega⟩

/-- The two Suites at any code: one value, one error. -/
theorem both_suite {m : Int} (c : Int) : ∃ (z n : Int) (s : ByteArray) (x1 x2 x3 x4 x5 x6 x7 x8 x9 x10 : Int), (∀ W, Tabs m W → Calls Tryd.prog 14 #[.int .i64 c] W fun e w' => e = .returned (.tuple #[.agg #[.int .i64 z, .string s, .int .i64 x1, .int .i64 x2, .int .i64 x3, .int .i64 x4, .int .i64 x5, .int .i64 x6, .int .i64 x7, .int .i64 x8, .int .i64 x9, .int .i64 x10], .int .i64 n]) ∧ Below W.heap.size W w') ∧
    (∀ W, Calls Tryd.prog 15 #[.int .i64 c] W fun e w' => e = .returned (.tuple #[.agg #[.int .i64 z, .string s, .int .i64 x1, .int .i64 x2, .int .i64 x3, .int .i64 x4, .int .i64 x5, .int .i64 x6, .int .i64 x7, .int .i64 x8, .int .i64 x9, .int .i64 x10], .int .i64 n]) ∧ Below W.heap.size W w') := by
  rcases code_cases c with h | ⟨j, hj, rfl⟩
  · exact ⟨0, 8, ⟨#[]⟩, 0, 0, 0, 0, 0, 0, 0, 0, 0, 0, fun W _ => suite0_l c h W, fun W => refsuite0 c h W⟩
  · exact ⟨((j + 1 : Nat) : Int), 0, ⟨(rowAt (j + 1)).name.toArray⟩, (rowAt (j + 1)).xa, (rowAt (j + 1)).xb, (rowAt (j + 1)).sign, 0, (rowAt (j + 1)).ca, (rowAt (j + 1)).cb, (rowAt (j + 1)).mac, 0, (rowAt (j + 1)).least, (rowAt (j + 1)).most, fun W hT => suite1_l (j + 1) (by omega) (by omega) W hT, fun W => refsuite1 j hj W⟩

set_option maxRecDepth 100000 in
set_option maxHeartbeats 4000000 in
theorem table_any {m : Int} (c : Int) (w : World) (h : Tabs m w) : Calls Tryd.prog 7 #[.int .i64 c] w (BoolP true w) := by
  have cA := suites_v w h
  obtain ⟨z, n, s, x1, x2, x3, x4, x5, x6, x7, x8, x9, x10, c14, c15⟩ := both_suite (m := m) c
  have CA := Lib.hid cA; have C14 := Lib.hid c14; have C15 := Lib.hid c15; have HT := Lib.hid h
  clear cA c14 c15 h
  go_enter Tryd.func7, Tryd.ntmps7
  go_wp2_with fail
  refine (CA.out).mono ?_
  rintro e W1 ⟨a, ca, rfl, hca, hva, hb1⟩
  have hT1 := HT.out.step hb1
  go_wp2_with fail
  refine (refsuites_v _).mono ?_
  rintro e W2 ⟨b, cb, rfl, hcb, hvb, hb2⟩
  have hTW : TW m w a b W2 := ⟨hva.below hb2, hvb, hT1.step hb2, hb1.trans (hb2.mono hb1.size)⟩
  clear hva hvb hT1 hb1 hb2 CA HT
  go_wp2_with fail
  go_loopw [5] (fun iv wr => TRel m w a b iv wr) (fun iv _ => 16 - (intOf iv).toNat)
  case atStart => exact ⟨0, by omega, rfl, hTW⟩
  case round =>
    clear hTW
    obtain ⟨k, hk, rfl, hW⟩ := hrel
    by_cases hlt : k < 16
    · obtain ⟨a0, a1, a2, a3, a4, a5, a6, a7, a8, a9, a10, a11⟩ := hW.va.at12 k hlt
      obtain ⟨b0, b1, b2, b3, b4, b5, b6, b7, b8, b9, b10, b11⟩ := hW.vb.at12 k hlt
      generalize rowAt (k + 1) = r at *
      generalize ((k + 1 : Nat) : Int) = q at *
      have hi0 : (0 : Int) ≤ (k : Int) := by omega
      have hi1 : (k : Int) < 16 := by omega
      have HW := Lib.hid hW; clear hW
      go_wp2_with fail
      go_quiet (fail)
      go_wp2_with fail
      go_roundw
      case rel => exact ⟨k + 1, by omega, by go_num, HW.out.step (below_drewN (Below.refl _ _) _)⟩
      case measure => simp [intOf]; omega
    · have hk' : k = 16 := by omega
      subst hk'
      go_wp2_with fail
      refine (C14.out _ hW.tabs).mono ?_
      rintro e W3 ⟨rfl, hb3⟩
      have hW3 := hW.step hb3
      have hB := heap_alloc_new W3 (.cells #[.int .i64 z, .string s, .int .i64 x1, .int .i64 x2, .int .i64 x3, .int .i64 x4, .int .i64 x5, .int .i64 x6, .int .i64 x7, .int .i64 x8, .int .i64 x9, .int .i64 x10] 29)
      have hW3' := hW3.step ((Below.refl _ _).alloc (Nat.le_refl _) (.cells #[.int .i64 z, .string s, .int .i64 x1, .int .i64 x2, .int .i64 x3, .int .i64 x4, .int .i64 x5, .int .i64 x6, .int .i64 x7, .int .i64 x8, .int .i64 x9, .int .i64 x10] 29))
      have hlt3 : W3.heap.size < (W3.alloc (.cells #[.int .i64 z, .string s, .int .i64 x1, .int .i64 x2, .int .i64 x3, .int .i64 x4, .int .i64 x5, .int .i64 x6, .int .i64 x7, .int .i64 x8, .int .i64 x9, .int .i64 x10] 29)).heap.size := by simp
      have HB := Lib.hid hB
      clear hb3 hW hB hW3
      go_wp2_with fail
      refine (C15.out _).mono ?_
      rintro e W4 ⟨rfl, hb4⟩
      have hW4 := hW3'.step hb4
      have hB4 := (hb4.block _ hlt3).trans HB.out
      clear hb4 hW3' HB hlt3
      generalize W3.heap.size = B at *
      have y := fun j => cell_of_row W4 B j _ _ _ hB4
      have y0 := y 0
      have y1 := y 1
      have y2 := y 2
      have y3 := y 3
      have y4 := y 4
      have y5 := y 5
      have y6 := y 6
      have y7 := y 7
      have y8 := y 8
      have y9 := y 9
      have y10 := y 10
      have y11 := y 11
      simp at y0 y1 y2 y3 y4 y5 y6 y7 y8 y9 y10 y11
      have hlt4 : B < W4.heap.size := block_lt_of_cell y0
      have hW5 := hW4.step ((Below.refl _ _).alloc (Nat.le_refl _) (.cells #[.int .i64 z, .string s, .int .i64 x1, .int .i64 x2, .int .i64 x3, .int .i64 x4, .int .i64 x5, .int .i64 x6, .int .i64 x7, .int .i64 x8, .int .i64 x9, .int .i64 x10] 29))
      have HW5 := Lib.hid hW5
      clear y hB4 hW4 hW5
      go_wp2_with fail
      refine (awake_any _ HW5.out.tabs).mono ?_
      rintro e W6 ⟨rfl, hb6⟩
      have hW6 := HW5.out.step hb6
      clear hb6
      go_wp2_with fail
      go_ret
      exact ⟨rfl, hW6.below⟩
end Go.Proofs.YtdhochjcigingaaDoor
