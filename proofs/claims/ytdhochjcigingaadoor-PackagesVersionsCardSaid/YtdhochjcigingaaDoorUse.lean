/- Dice.Of, and the uses that the dice give. -/
import Derived.Test.YtdhochjcigingaaDoorDice
namespace Go.Proofs.YtdhochjcigingaaDoor
open Go.RowKit
set_option linter.all false

def OfP (w : World) (g : Nat) (zs : List Int) (e : Ending) (w' : World) : Prop := ∃ z ∈ zs, e = .returned (.int .i64 z) ∧ DiceAt w' g ∧ w.grownBy w' (some g)

set_option maxHeartbeats 1000000 in
theorem of_any (w : World) (g X : Nat) (zs : List Int) (h : DiceAt w g) (hX : X ≠ g) (h0 : 0 < zs.length) (h1 : zs.length ≤ 10) (hc : ∀ j (hj : j < zs.length), w.cell? ⟨X, j, none⟩ = some (.int .i64 zs[j])) (c : Nat) :
    Calls Tryd.prog 44 #[.pointer (some ⟨g, 0, none⟩), .slice (some ⟨X, 0, none⟩) zs.length c] w (OfP w g zs) := by
  have cN := next_any w g (zs.length : Int) (by omega) (by omega) h
  have HC := Lib.hid hc; clear hc
  have CN := Lib.hid cN; clear cN h
  go_enter Tryd.func44, Tryd.ntmps44
  go_wp2_with fail
  refine (CN.out).mono ?_
  rintro e w' ⟨r, rfl, hr0, hr1, hd, hg⟩
  obtain ⟨k, rfl⟩ : ∃ k : Nat, r = k := ⟨r.toNat, by omega⟩
  have hk : k < zs.length := by omega
  have hcell := HC.out k hk
  have hcell' : w'.cell? ⟨X, k, none⟩ = some (.int .i64 zs[k]) := hg.cell hcell (by simp; omega)
  have HD := Lib.hid hd; have HG := Lib.hid hg
  clear hd hg hcell
  go_wp2_with fail
  go_ret
  exact ⟨zs[k], List.getElem_mem _, rfl, HD.out, HG.out⟩

def sizesS (a : Int) : List Int :=
  if a = 5 ∨ a = 6 ∨ a = 10 ∨ a = 11 then [2048, 1024, 512, 3072, 1023, 4096, 16384]
  else if a = 7 ∨ a = 12 then [256, 160, 224, 384, 521]
  else if a = 9 then [65, 44, 87] else if a = 13 then [768, 512, 1024] else if a = 14 then [128, 40] else if a = 15 then [168, 112]
  else if a = 16 ∨ a = 17 then [128, 256] else [0]

def SizesP (w : World) (g : Nat) (zs : List Int) (e : Ending) (w' : World) : Prop := ∃ z ∈ zs, e = .returned (.int .i64 z) ∧ DiceAt w' g ∧ w.grownBy w' (some g)

theorem of_new (w : World) (g : Nat) (zs : List Int) (h : DiceAt w g) (h0 : 0 < zs.length) (h1 : zs.length ≤ 10) :
    Calls Tryd.prog 44 #[.pointer (some ⟨g, 0, none⟩), .slice (some ⟨w.heap.size, 0, none⟩) zs.length zs.length] (w.alloc (.cells (zs.map (Value.int .i64)).toArray 3)) (SizesP w g zs) := by
  have hlt := h.lt
  refine (of_any (w.alloc (.cells (zs.map (Value.int .i64)).toArray 3)) g w.heap.size zs (h.below ((Below.refl _ _).alloc (Nat.le_refl _) _)) (by omega) h0 h1 (fun j hj => ?_) zs.length).mono ?_
  · rw [cell_of_row _ _ j _ _ _ (heap_alloc_new _ _)]
    simp [hj]
  · rintro e w' ⟨z, hz, he, hd, hg⟩
    exact ⟨z, hz, he, hd, ⟨hg.os, hg.tape, hg.output, Nat.le_trans (by simp) hg.size, fun k hk hne => (hg.block k (by simp; omega) hne).trans (Below.heap_alloc _ _ _ hk)⟩⟩

set_option maxRecDepth 100000 in
set_option maxHeartbeats 4000000 in
theorem sizes_5 (w : World) (g : Nat) (h : DiceAt w g) (a : Int) (ha : a = 5 ∨ a = 6 ∨ a = 10 ∨ a = 11) : Calls Tryd.prog 68 #[.pointer (some ⟨g, 0, none⟩), .int .i64 a] w (SizesP w g [2048, 1024, 512, 3072, 1023, 4096, 16384]) := by
  have cO := of_new w g [2048, 1024, 512, 3072, 1023, 4096, 16384] h (by decide) (by decide)
  have CO := Lib.hid cO; clear cO h
  rcases ha with rfl | rfl | rfl | rfl
  all_goals
    go_enter Tryd.func68, Tryd.ntmps68
    go_wp2_with fail
    refine (CO.out).mono ?_
    rintro e w' ⟨z, hz, rfl, hd, hg⟩
    have HR := Lib.hid (And.intro hz (And.intro hd hg))
    clear hz hd hg
    go_wp2_with fail
    go_ret
    exact ⟨z, HR.out.1, rfl, HR.out.2.1, HR.out.2.2⟩

set_option maxRecDepth 100000 in
set_option maxHeartbeats 4000000 in
theorem sizes_7 (w : World) (g : Nat) (h : DiceAt w g) (a : Int) (ha : a = 7 ∨ a = 12) : Calls Tryd.prog 68 #[.pointer (some ⟨g, 0, none⟩), .int .i64 a] w (SizesP w g [256, 160, 224, 384, 521]) := by
  have cO := of_new w g [256, 160, 224, 384, 521] h (by decide) (by decide)
  have CO := Lib.hid cO; clear cO h
  rcases ha with rfl | rfl
  all_goals
    go_enter Tryd.func68, Tryd.ntmps68
    go_wp2_with fail
    refine (CO.out).mono ?_
    rintro e w' ⟨z, hz, rfl, hd, hg⟩
    have HR := Lib.hid (And.intro hz (And.intro hd hg))
    clear hz hd hg
    go_wp2_with fail
    go_ret
    exact ⟨z, HR.out.1, rfl, HR.out.2.1, HR.out.2.2⟩

set_option maxRecDepth 100000 in
set_option maxHeartbeats 4000000 in
theorem sizes_9 (w : World) (g : Nat) (h : DiceAt w g) (a : Int) (ha : a = 9) : Calls Tryd.prog 68 #[.pointer (some ⟨g, 0, none⟩), .int .i64 a] w (SizesP w g [65, 44, 87]) := by
  have cO := of_new w g [65, 44, 87] h (by decide) (by decide)
  have CO := Lib.hid cO; clear cO h
  rcases ha with rfl
  all_goals
    go_enter Tryd.func68, Tryd.ntmps68
    go_wp2_with fail
    refine (CO.out).mono ?_
    rintro e w' ⟨z, hz, rfl, hd, hg⟩
    have HR := Lib.hid (And.intro hz (And.intro hd hg))
    clear hz hd hg
    go_wp2_with fail
    go_ret
    exact ⟨z, HR.out.1, rfl, HR.out.2.1, HR.out.2.2⟩

set_option maxRecDepth 100000 in
set_option maxHeartbeats 4000000 in
theorem sizes_13 (w : World) (g : Nat) (h : DiceAt w g) (a : Int) (ha : a = 13) : Calls Tryd.prog 68 #[.pointer (some ⟨g, 0, none⟩), .int .i64 a] w (SizesP w g [768, 512, 1024]) := by
  have cO := of_new w g [768, 512, 1024] h (by decide) (by decide)
  have CO := Lib.hid cO; clear cO h
  rcases ha with rfl
  all_goals
    go_enter Tryd.func68, Tryd.ntmps68
    go_wp2_with fail
    refine (CO.out).mono ?_
    rintro e w' ⟨z, hz, rfl, hd, hg⟩
    have HR := Lib.hid (And.intro hz (And.intro hd hg))
    clear hz hd hg
    go_wp2_with fail
    go_ret
    exact ⟨z, HR.out.1, rfl, HR.out.2.1, HR.out.2.2⟩

set_option maxRecDepth 100000 in
set_option maxHeartbeats 4000000 in
theorem sizes_14 (w : World) (g : Nat) (h : DiceAt w g) (a : Int) (ha : a = 14) : Calls Tryd.prog 68 #[.pointer (some ⟨g, 0, none⟩), .int .i64 a] w (SizesP w g [128, 40]) := by
  have cO := of_new w g [128, 40] h (by decide) (by decide)
  have CO := Lib.hid cO; clear cO h
  rcases ha with rfl
  all_goals
    go_enter Tryd.func68, Tryd.ntmps68
    go_wp2_with fail
    refine (CO.out).mono ?_
    rintro e w' ⟨z, hz, rfl, hd, hg⟩
    have HR := Lib.hid (And.intro hz (And.intro hd hg))
    clear hz hd hg
    go_wp2_with fail
    go_ret
    exact ⟨z, HR.out.1, rfl, HR.out.2.1, HR.out.2.2⟩

set_option maxRecDepth 100000 in
set_option maxHeartbeats 4000000 in
theorem sizes_15 (w : World) (g : Nat) (h : DiceAt w g) (a : Int) (ha : a = 15) : Calls Tryd.prog 68 #[.pointer (some ⟨g, 0, none⟩), .int .i64 a] w (SizesP w g [168, 112]) := by
  have cO := of_new w g [168, 112] h (by decide) (by decide)
  have CO := Lib.hid cO; clear cO h
  rcases ha with rfl
  all_goals
    go_enter Tryd.func68, Tryd.ntmps68
    go_wp2_with fail
    refine (CO.out).mono ?_
    rintro e w' ⟨z, hz, rfl, hd, hg⟩
    have HR := Lib.hid (And.intro hz (And.intro hd hg))
    clear hz hd hg
    go_wp2_with fail
    go_ret
    exact ⟨z, HR.out.1, rfl, HR.out.2.1, HR.out.2.2⟩

set_option maxRecDepth 100000 in
set_option maxHeartbeats 4000000 in
theorem sizes_16 (w : World) (g : Nat) (h : DiceAt w g) (a : Int) (ha : a = 16 ∨ a = 17) : Calls Tryd.prog 68 #[.pointer (some ⟨g, 0, none⟩), .int .i64 a] w (SizesP w g [128, 256]) := by
  have cO := of_new w g [128, 256] h (by decide) (by decide)
  have CO := Lib.hid cO; clear cO h
  rcases ha with rfl | rfl
  all_goals
    go_enter Tryd.func68, Tryd.ntmps68
    go_wp2_with fail
    refine (CO.out).mono ?_
    rintro e w' ⟨z, hz, rfl, hd, hg⟩
    have HR := Lib.hid (And.intro hz (And.intro hd hg))
    clear hz hd hg
    go_wp2_with fail
    go_ret
    exact ⟨z, HR.out.1, rfl, HR.out.2.1, HR.out.2.2⟩

set_option maxRecDepth 100000 in
set_option maxHeartbeats 4000000 in
theorem sizes_0 (w : World) (g : Nat) (h : DiceAt w g) (a : Int) (h5 : ¬ (a = 5 ∨ a = 6 ∨ a = 10 ∨ a = 11)) (h7 : ¬ (a = 7 ∨ a = 12)) (h9 : ¬ a = 9) (h13 : ¬ a = 13) (h14 : ¬ a = 14) (h15 : ¬ a = 15) (h16 : ¬ (a = 16 ∨ a = 17)) : Calls Tryd.prog 68 #[.pointer (some ⟨g, 0, none⟩), .int .i64 a] w (SizesP w g [0]) := by
  have e5 : (a == 5) = false := by simp; omega
  have e6 : (a == 6) = false := by simp; omega
  have e10 : (a == 10) = false := by simp; omega
  have e11 : (a == 11) = false := by simp; omega
  have e7 : (a == 7) = false := by simp; omega
  have e12 : (a == 12) = false := by simp; omega
  have e9 : (a == 9) = false := by simp; omega
  have e13 : (a == 13) = false := by simp; omega
  have e14 : (a == 14) = false := by simp; omega
  have e15 : (a == 15) = false := by simp; omega
  have e16 : (a == 16) = false := by simp; omega
  have e17 : (a == 17) = false := by simp; omega
  have HD := Lib.hid h
  clear h h5 h7 h9 h13 h14 h15 h16
  go_enter Tryd.func68, Tryd.ntmps68
  go_wp2_with fail
  go_ret
  exact ⟨0, by simp, rfl, HD.out, World.grownBy.refl _ _⟩

theorem sizes_any (w : World) (g : Nat) (h : DiceAt w g) (a : Int) : Calls Tryd.prog 68 #[.pointer (some ⟨g, 0, none⟩), .int .i64 a] w (SizesP w g (sizesS a)) := by
  unfold sizesS
  by_cases h5 : a = 5 ∨ a = 6 ∨ a = 10 ∨ a = 11
  · rw [if_pos h5]; exact sizes_5 w g h a h5
  rw [if_neg h5]
  by_cases h7 : a = 7 ∨ a = 12
  · rw [if_pos h7]; exact sizes_7 w g h a h7
  rw [if_neg h7]
  by_cases h9 : a = 9
  · rw [if_pos h9]; exact sizes_9 w g h a h9
  rw [if_neg h9]
  by_cases h13 : a = 13
  · rw [if_pos h13]; exact sizes_13 w g h a h13
  rw [if_neg h13]
  by_cases h14 : a = 14
  · rw [if_pos h14]; exact sizes_14 w g h a h14
  rw [if_neg h14]
  by_cases h15 : a = 15
  · rw [if_pos h15]; exact sizes_15 w g h a h15
  rw [if_neg h15]
  by_cases h16 : a = 16 ∨ a = 17
  · rw [if_pos h16]; exact sizes_16 w g h a h16
  rw [if_neg h16]
  exact sizes_0 w g h a h5 h7 h9 h13 h14 h15 h16

def UseR (w : World) (g : Nat) (e : Ending) (w' : World) : Prop := ∃ a b : Int, 1 ≤ a ∧ a ≤ 22 ∧ b ∈ sizesS a ∧ e = .returned (.agg #[.int .i64 a, .int .i64 b]) ∧ DiceAt w' g ∧ w.grownBy w' (some g)

theorem grown_set_new {a w : World} {g b : Nat} (h : a.grownBy w (some g)) (hb : a.heap.size ≤ b) (o : Nat) (v : Value) : a.grownBy (w.setCell ⟨b, o, none⟩ v) (some g) :=
  ⟨h.os, h.tape, h.output, by simpa [World.setCell] using h.size, fun k hk hne => (heap_setCell_other w ⟨b, o, none⟩ k v (by simp only; omega)).trans (h.block k hk hne)⟩
theorem DiceAt.set {W : World} {g b : Nat} (h : DiceAt W g) (hb : g < b) (o : Nat) (v : Value) : DiceAt (W.setCell ⟨b, o, none⟩ v) g := by
  obtain ⟨a, n, c, k, h, h1, h2, h3⟩ := h
  refine ⟨a, n, c, k, (heap_setCell_other W ⟨b, o, none⟩ g v (by simp only; omega)).trans h, h1, h2, h3.keep fun b' o' v' hb' hv => ?_⟩
  rw [World.cell?_of_block (w := W) (heap_setCell_other W ⟨b, o, none⟩ b' v (by simp only; omega))]
  exact hv

theorem use_out {w W : World} {g R : Nat} {a b : Int} {x : Act} (hres : W.heap[R]? = some (.cells #[.int .i64 0, .int .i64 0] 23 (0, 0))) (hg : w.grownBy W (some g)) (hR : w.heap.size ≤ R) (hlt : g < w.heap.size) (hd : DiceAt W g) (ha : 1 ≤ a) (ha2 : a ≤ 22) (hb : b ∈ sizesS a) (ht : x.tmps.getD 2 undef = .pointer (some ⟨R, 0, none⟩)) (hdf : x.defers = []) :
    bodyPost Tryd.prog Tryd.f33 (UseR w g) .ret x ((W.setCell ⟨R, 0, none⟩ (.int .i64 a)).setCell ⟨R, 1, none⟩ (.int .i64 b)) := by
  have h1 := heap_setCell_same W R 0 _ _ (.int .i64 a) hres
  have h2 := heap_setCell_same _ R 1 _ _ (.int .i64 b) h1
  exact bodyPost_ret (v := .agg #[.int .i64 a, .int .i64 b]) (results_cell_row Tryd.results33 x.tmps _ R 23 _ (0, 0) _ ht h2 Tryd.underlying23 rfl (by kernel_rfl)) hdf
    ⟨a, b, ha, ha2, hb, rfl, (hd.set (by omega) _ _).set (by omega) _ _, grown_set_new (grown_set_new hg hR _ _) hR _ _⟩

set_option maxHeartbeats 2000000 in
theorem use_dice (w : World) (g : Nat) (h : DiceAt w g) : Calls Tryd.prog 33 #[.pointer (some ⟨g, 0, none⟩)] w (UseR w g) := by
  have hlt := h.lt
  have hb0 := (Below.refl w.heap.size w).alloc (Nat.le_refl _) (.cells #[.int .i64 0, .int .i64 0] 23)
  have cN := next_any _ g 22 (by omega) (by omega) (h.below hb0)
  have hne : g ≠ w.heap.size := by omega
  have CN := Lib.hid cN
  clear cN h hb0
  go_enter Tryd.func33, Tryd.ntmps33
  go_wp2_with fail
  refine (CN.out).mono ?_
  rintro e w1 ⟨r, rfl, hr0, hr1, hd, hg⟩
  have hres : w1.heap[w.heap.size]? = some (.cells #[.int .i64 0, .int .i64 0] 23 (0, 0)) := (hg.block _ (by simp) (by simp; omega)).trans (heap_alloc_new _ _)
  have cS := sizes_any w1 g hd (1 + r)
  have CS := Lib.hid cS; have HG := Lib.hid hg
  clear cS hd hg
  have HRES := Lib.hid hres; clear hres
  go_wp2_with fail
  refine (CS.out).mono ?_
  rintro e w2 ⟨z, hz, rfl, hd2, hg2⟩
  have hsz : w.heap.size < w1.heap.size := by have := HG.out.size; simp at this; omega
  have hres2 : w2.heap[w.heap.size]? = some (.cells #[.int .i64 0, .int .i64 0] 23 (0, 0)) := (hg2.block _ hsz (by simp; omega)).trans HRES.out
  have q0 := cell_of_row _ _ 0 _ _ _ hres2
  have q1 := cell_of_row _ _ 1 _ _ _ hres2
  have fz := fun j => frozen_of_row _ _ j _ _ hres2
  simp at q0 q1
  have HR := Lib.hid (And.intro hz (And.intro hd2 (And.intro hg2 hres2)))
  clear hz hd2 hg2 hres2
  have hgr : w.grownBy w2 (some g) := ((World.grownBy_alloc w (.cells #[.int .i64 0, .int .i64 0] 23) (some g)).trans HG.out).trans HR.out.2.2.1
  have HGR := Lib.hid hgr; clear hgr
  go_wp2_with fail
  exact use_out HR.out.2.2.2 HGR.out (Nat.le_refl _) hlt HR.out.2.1 (by omega) (by omega) HR.out.1 rfl rfl
end Go.Proofs.YtdhochjcigingaaDoor
