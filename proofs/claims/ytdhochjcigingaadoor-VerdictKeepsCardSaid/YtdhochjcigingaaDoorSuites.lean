/- catalog.Suites and catalog.Suite. -/
import Derived.Test.YtdhochjcigingaaDoorSuite
import Derived.Laws.OwnMore
import Derived.OwnWalk
import Derived.Deep.AppendLies
namespace Go.Proofs.YtdhochjcigingaaDoor
open Go.RowKit
set_option linter.all false

theorem info29 : (Tryd.prog.info? 29).map (fun i => (i.zero, i.size, i.bytes)) = some (some (.agg stZ.toArray), 12, 104) := by kernel_rfl

theorem stZ_size : (Value.agg stZ.toArray).cells.size = 12 := by kernel_rfl

theorem own_below {W W' : World} {base : Nat} {e : TypeId} {size : Nat} {v : Value} {n : Nat} {xs : List Value} (h : W.ownsRow base e size v n xs) (hb : Below W.heap.size W W') : W'.ownsRow base e size v n xs :=
  h.kept (row := none) ⟨hb.os, hb.tape, hb.output, hb.size, fun k hk _ => hb.block k hk⟩ (by cases hv : v.ownBlock <;> simp)

/-- The suites 1 .. n, cell by cell. -/
def suitesC : Nat → List Value
  | 0 => []
  | n + 1 => suitesC n ++ stC ((n + 1 : Nat) : Int) (rowAt (n + 1))

theorem stC_one (c : Int) (r : SRow) : ∀ u ∈ stC c r, u.oneCell' = true := by
  intro u hu
  simp only [stC, List.mem_cons, List.not_mem_nil, or_false] at hu
  rcases hu with rfl | rfl | rfl | rfl | rfl | rfl | rfl | rfl | rfl | rfl | rfl | rfl <;> rfl

def SuitesP (w : World) (e : Ending) (w' : World) : Prop := ∃ v, e = .returned v ∧ w'.ownsRow w.heap.size 29 12 v 16 (suitesC 16) ∧ Below w.heap.size w w'

/-- suite, its result written out. -/
def SuiteL (c : Int) (r : SRow) (w : World) (e : Ending) (w' : World) : Prop := e = .returned (.agg #[.int .i64 c, .string ⟨r.name.toArray⟩, .int .i64 r.xa, .int .i64 r.xb, .int .i64 r.sign, .int .i64 0, .int .i64 r.ca, .int .i64 r.cb, .int .i64 r.mac, .int .i64 0, .int .i64 r.least, .int .i64 r.most]) ∧ Below w.heap.size w w'
theorem suite_lit {m : Int} (i : Nat) (hi : i < 17) (w : World) (h : Tabs m w) : Calls Tryd.prog 56 #[.int .i64 i] w (SuiteL i (rowAt i) w) := suite_any i hi w h

def SuRel (m : Int) (w : World) (vv iv : Value) (wr : World) : Prop :=
  ∃ (k : Nat) (v : Value), v = vv ∧ iv = .int .i64 (k : Int) ∧ k ≤ 17 ∧ wr.ownsRow w.heap.size 29 12 v (k - 1) (suitesC (k - 1)) ∧ Below w.heap.size w wr

set_option maxRecDepth 100000 in
set_option maxHeartbeats 4000000 in
theorem suites_any {m : Int} (w : World) (h : Tabs m w) : Calls Tryd.prog 34 #[] w (SuitesP w) := by
  obtain ⟨i0, hi, hz0, hz1, hz2⟩ := info_parts info29
  have HI := Lib.hid hi; have HZ0 := Lib.hid hz0; have HZ1 := Lib.hid hz1; have HZ2 := Lib.hid hz2
  clear hi hz0 hz1 hz2
  have h10 := h.size
  go_enter Tryd.func34, Tryd.ntmps34
  go_wp2_with fail
  go_loopw [1, 2, 3] (fun vv _ iv wr => SuRel m w vv iv wr) (fun _ _ iv _ => 17 - (intOf iv).toNat)
  case atStart => exact ⟨0, _, rfl, rfl, Nat.zero_le _, World.ownsRow_nil _ _ _ _, Below.refl _ _⟩
  case round =>
    obtain ⟨k, v, rfl, rfl, hk, hown, hb⟩ := hrel
    have hT : Tabs m wr := h.step hb
    by_cases hlt : k < 17
    · rcases Nat.eq_zero_or_pos k with h0 | h0
      · have hdec : decide (0 < k) = false := by simp; omega
        have H0 := Lib.hid h0
        have HO := Lib.hid hown; have HB := Lib.hid hb
        clear hown hb h0 hT h
        go_wp2_with fail
        go_roundw
        case rel => exact ⟨k + 1, _, rfl, by go_num, by omega, by have := H0.out; subst this; exact HO.out, HB.out⟩
        case measure => simp [intOf]; omega
      · have cS := suite_lit k hlt wr hT
        obtain ⟨r, hr⟩ : ∃ r, r = rowAt k := ⟨_, rfl⟩
        rw [← hr] at cS
        have hsc : suitesC k = suitesC (k - 1) ++ stC (k : Int) r := by
          obtain ⟨n, rfl⟩ : ∃ n, k = n + 1 := ⟨k - 1, by omega⟩
          rw [hr]; rfl
        have hdec : decide (0 < k) = true := by simpa using h0
        have CS := Lib.hid cS; have HO := Lib.hid hown; have HB := Lib.hid hb; have HSC := Lib.hid hsc
        clear cS hown hb hr hsc hT h
        go_wp2_with fail
        refine (CS.out).mono ?_
        rintro e W1 ⟨rfl, hb1⟩
        have ho1 := own_below HO.out hb1
        have hbw1 := HB.out.trans (hb1.mono HB.out.size)
        have H1 := Lib.hid (stC_one (k : Int) r)
        have HN := Lib.hid (World.news_of_block (cs := (stC (k : Int) r).toArray) (t := 29) (fr := (0, 0)) (heap_alloc_new W1 _))
        have HO3 := Lib.hid (ho1.alloc (.cells (stC (k : Int) r).toArray 29))
        have HB1 := Lib.hid hbw1
        have hsz : w.heap.size ≤ W1.heap.size := hbw1.size
        have tok1 : True := trivial
        clear ho1 hbw1 hb1 CS HO HB
        go_wp2_with (at_builtin; have _t := tok1; refine wpList_append_own _ rfl _ _ 47 rfl w.heap.size 29 i0 (.agg stZ.toArray) 12 104 Tryd.underlying47 HI.out HZ0.out HZ1.out HZ2.out stZ_size (by decide) _ _ _ rfl HO3.out ⟨W1.heap.size, 0, none⟩ 1 1 (stC (k : Int) r) rfl rfl HN.out H1.out (by unfold maxLen; omega) (by omega) (by simp; omega) ?_; intro v' W5 hown' hgrow _; have HOW := Lib.hid hown'; have HGR := Lib.hid hgrow; clear hown' hgrow)
        go_roundw
        case rel =>
          refine ⟨k + 1, v', rfl, by go_num, by omega, ?_, (HB1.out.alloc hsz _).grown HGR.out (by simp; omega) (fun q hq => ?_)⟩
          · have h := HOW.out
            rw [← HSC.out, show k - 1 + 1 = k from by omega] at h
            exact h
          · rcases HO3.out.2 with ⟨hv, _⟩ | ⟨g, cap, cur, hv, hg, _⟩
            · rw [hv] at hq; cases hq
            · rw [hv] at hq; cases hq; exact hg
        case measure => simp [intOf]; omega
    · have hk' : k = 17 := by omega
      subst hk'
      have HO := Lib.hid hown; have HB := Lib.hid hb
      clear hown hb hT
      go_wp2_with fail
      go_ret
      exact ⟨_, rfl, HO.out, HB.out⟩

def Suite0 (w : World) (e : Ending) (w' : World) : Prop := e = .returned (.tuple #[.agg stZ.toArray, .int .i64 8]) ∧ Below w.heap.size w w'
def Suite1 (c : Int) (r : SRow) (w : World) (e : Ending) (w' : World) : Prop := e = .returned (.tuple #[.agg (stC c r).toArray, .int .i64 0]) ∧ Below w.heap.size w w'

set_option maxHeartbeats 2000000 in
theorem suite_none (c : Int) (hc : c < 1 ∨ 17 ≤ c) (w : World) : Calls Tryd.prog 14 #[.int .i64 c] w (Suite0 w) := by
  by_cases h1 : c < 1
  · go_enter Tryd.func14, Tryd.ntmps14
    go_wp2_with fail
    refine bodyPost_ret (v := .tuple #[.agg stZ.toArray, .int .i64 8]) ?_ rfl ⟨rfl, (Below.refl _ _).alloc (Nat.le_refl _) _⟩
    simp [results, Tryd.results14, go_sem, stZ]
  · have h2 : 17 ≤ c := by omega
    clear hc
    go_enter Tryd.func14, Tryd.ntmps14
    go_wp2_with fail
    refine bodyPost_ret (v := .tuple #[.agg stZ.toArray, .int .i64 8]) ?_ rfl ⟨rfl, (Below.refl _ _).alloc (Nat.le_refl _) _⟩
    simp [results, Tryd.results14, go_sem, stZ]

theorem suite14_out {w W : World} {R : Nat} {r : SRow} {c : Int} {x : Act} (hres : W.heap[R]? = some (.cells stZ.toArray 29 (0, 0))) (hb : Below w.heap.size w W) (hR : w.heap.size ≤ R) (ht : x.tmps.getD 2 undef = .pointer (some ⟨R, 0, none⟩)) (ht3 : x.tmps.getD 3 undef = .int .i64 0) (hd : x.defers = []) :
    bodyPost Tryd.prog Tryd.f14 (Suite1 c r w) .ret x (set12 W R (stC c r)) := by
  have h2 := set12_heap c r hres
  have hl := run_loadVar_row (set12 W R (stC c r)) R 29 29 _ (0, 0) _ h2 Tryd.underlying29 rfl (by kernel_rfl)
  refine bodyPost_ret (v := .tuple #[.agg (stC c r).toArray, .int .i64 0]) ?_ hd ⟨rfl, set12_below _ hb hR⟩
  have ht' : x.tmps[2]?.getD undef = .pointer (some ⟨R, 0, none⟩) := by simpa using ht
  have ht3' : x.tmps[3]?.getD undef = .int .i64 0 := by simpa using ht3
  simp [results, Tryd.results14, ht', ht3', asAddr, hl]

set_option maxRecDepth 100000 in
set_option maxHeartbeats 4000000 in
theorem suite_some {m : Int} (i : Nat) (h0 : 0 < i) (hi : i < 17) (w : World) (h : Tabs m w) : Calls Tryd.prog 14 #[.int .i64 i] w (Suite1 i (rowAt i) w) := by
  have cS := suite_lit i hi _ (h.alloc (.cells stZ.toArray 29))
  have h1 : (1 : Int) ≤ (i : Int) := by omega
  have h2 : (i : Int) < 17 := by omega
  have h3 : ¬ ((i : Int) < 1) := by omega
  generalize rowAt i = r at *
  unfold stZ at cS
  have CS := Lib.hid cS; clear cS
  go_enter Tryd.func14, Tryd.ntmps14
  go_wp2_with fail
  refine (CS.out).mono ?_
  rintro e W1 ⟨rfl, hb1⟩
  have hres : W1.heap[w.heap.size]? = some (.cells stZ.toArray 29 (0, 0)) := (hb1.block _ (by simp)).trans (heap_alloc_new _ _)
  have hb := below_of_alloc hb1
  generalize hR : w.heap.size = R at *
  have fz := fun j => frozen_of_row W1 R j _ _ hres
  have k := fun j => cell_of_row W1 R j _ _ _ hres
  have z0 := k 0
  have z1 := k 1
  have z2 := k 2
  have z3 := k 3
  have z4 := k 4
  have z5 := k 5
  have z6 := k 6
  have z7 := k 7
  have z8 := k 8
  have z9 := k 9
  have z10 := k 10
  have z11 := k 11
  simp [stZ] at z0 z1 z2 z3 z4 z5 z6 z7 z8 z9 z10 z11
  have HRES := Lib.hid hres; have HB := Lib.hid hb; have HR := Lib.hid hR
  clear k hres hb hb1 hR
  go_wp2_with fail
  exact suite14_out HRES.out (by rw [HR.out]; exact HB.out) (Nat.le_of_eq HR.out) rfl rfl rfl
end Go.Proofs.YtdhochjcigingaaDoor
