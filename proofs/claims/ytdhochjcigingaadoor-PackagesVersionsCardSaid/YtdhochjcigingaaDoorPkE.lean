/- law 12: a range out of the dice; One, Word. -/
import Derived.Test.YtdhochjcigingaaDoorPkX
namespace Go.Proofs.YtdhochjcigingaaDoor
open Go.RowKit
set_option linter.all false

def OneP (w : World) (g : Nat) (e : Ending) (w' : World) : Prop := ∃ q : Bool, e = .returned (.bool q) ∧ DiceAt w' g ∧ w.grownBy w' (some g)
set_option maxHeartbeats 1000000 in
theorem one_any (w : World) (g : Nat) (h : DiceAt w g) : Calls Tryd.prog 71 #[.pointer (some ⟨g, 0, none⟩), .int .i64 2] w (OneP w g) := by
  have cN := next_any w g 2 (by omega) (by omega) h
  have CN := Lib.hid cN; clear cN h
  go_enter Tryd.func71, Tryd.ntmps71
  go_wp2_with fail
  refine (CN.out).mono ?_
  rintro e w' ⟨r, rfl, hr0, hr1, hd, hg⟩
  have HD := Lib.hid hd; have HG := Lib.hid hg
  obtain ⟨q, hq⟩ : ∃ q, (r == 1) = q := ⟨_, rfl⟩
  clear hd hg
  go_wp2_with fail
  go_ret
  exact ⟨q, rfl, HD.out, HG.out⟩

/-- The range's boxes R (the result) and R + 1, and its two ends. -/
structure BW (w : World) (g : Nat) (lo hi : Value) (Lo Hi : List Int) (W : World) : Prop where
  res : W.heap[w.heap.size]? = some (.cells #[.slice none 0 0, .slice none 0 0] 53 (0, 0))
  box : W.heap[w.heap.size + 1]? = some (.cells #[lo, hi] 53 (0, 0))
  ol : W.ownsRow (w.heap.size + 2) 3 1 lo Lo.length (vi Lo)
  oh : W.ownsRow (w.heap.size + 2) 3 1 hi Hi.length (vi Hi)
  ll : Lo.length ≤ 3
  lh : Hi.length ≤ 3
  dice : DiceAt W g
  grown : w.grownBy W (some g)
  lt : g < w.heap.size
  sz : w.heap.size + 2 ≤ W.heap.size
theorem BW.call {w : World} {g : Nat} {lo hi : Value} {Lo Hi : List Int} {W W' : World} (h : BW w g lo hi Lo Hi W) (hg : W.grownBy W' (some g)) (hd : DiceAt W' g) : BW w g lo hi Lo Hi W' := by
  have hl := h.lt
  have hz := h.sz
  have hne : ∀ {v : Value} {n : Nat} {xs : List Value}, W.ownsRow (w.heap.size + 2) 3 1 v n xs → v.ownBlock = none ∨ v.ownBlock ≠ some g := fun {v n xs} ho => by
    cases hv : v.ownBlock with
    | none => exact .inl rfl
    | some k => exact .inr (fun e => by injection e with e; have := (ho.lt k hv).1; omega)
  exact ⟨(hg.block _ (by omega) (fun e => by injection e with e; omega)).trans h.res, (hg.block _ (by omega) (fun e => by injection e with e; omega)).trans h.box, h.ol.kept hg (hne h.ol), h.oh.kept hg (hne h.oh), h.ll, h.lh, hd, h.grown.trans hg, h.lt, Nat.le_trans hz hg.size⟩
theorem set_grown (w W : World) (g k o : Nat) (v : Value) (hg : w.grownBy W (some g)) (hk : w.heap.size ≤ k) : w.grownBy (W.setCell ⟨k, o, none⟩ v) (some g) :=
  grown_set_new hg hk o v
theorem own_set {W : World} {base k o : Nat} {v x : Value} {n : Nat} {xs : List Value} (h : W.ownsRow base 3 1 v n xs) (hk : k < base) : (W.setCell ⟨k, o, none⟩ x).ownsRow base 3 1 v n xs := by
  refine h.kept (row := some k) ⟨rfl, rfl, rfl, by simp [World.setCell], fun q hq hne => heap_setCell_other W ⟨k, o, none⟩ q x (fun e => hne (by rw [e]))⟩ ?_
  cases hv : v.ownBlock with
  | none => exact .inl rfl
  | some q => exact .inr (fun e => by injection e with e; have := (h.lt q hv).1; omega)
theorem dice_set {W : World} {g k o : Nat} {x : Value} (h : DiceAt W g) (hk : g < k) : DiceAt (W.setCell ⟨k, o, none⟩ x) g :=
  h.far (row := some k) ⟨rfl, rfl, rfl, by simp [World.setCell], fun q hq hne => heap_setCell_other W ⟨k, o, none⟩ q x (fun e => hne (by rw [e]))⟩ (fun q e => by injection e with e; omega)
theorem BW.setLo {w : World} {g : Nat} {lo hi v : Value} {Lo Hi L : List Int} {W : World} (h : BW w g lo hi Lo Hi W) (ho : W.ownsRow (w.heap.size + 2) 3 1 v L.length (vi L)) (hL : L.length ≤ 3) : BW w g v hi L Hi (W.setCell ⟨w.heap.size + 1, 0, none⟩ v) := by
  have hl := h.lt
  refine ⟨(heap_setCell_other W ⟨w.heap.size + 1, 0, none⟩ _ v (by simp)).trans h.res, ?_, own_set ho (by omega), own_set h.oh (by omega), hL, h.lh, dice_set h.dice (by omega), set_grown w W g _ 0 v h.grown (by omega), h.lt, by simp [World.setCell]; exact h.sz⟩
  rw [heap_setCell_same _ _ 0 _ _ _ h.box]; rfl
theorem BW.setHi {w : World} {g : Nat} {lo hi v : Value} {Lo Hi L : List Int} {W : World} (h : BW w g lo hi Lo Hi W) (ho : W.ownsRow (w.heap.size + 2) 3 1 v L.length (vi L)) (hL : L.length ≤ 3) : BW w g lo v Lo L (W.setCell ⟨w.heap.size + 1, 1, none⟩ v) := by
  have hl := h.lt
  refine ⟨(heap_setCell_other W ⟨w.heap.size + 1, 1, none⟩ _ v (by simp)).trans h.res, ?_, own_set h.ol (by omega), own_set ho (by omega), h.ll, hL, dice_set h.dice (by omega), set_grown w W g _ 1 v h.grown (by omega), h.lt, by simp [World.setCell]; exact h.sz⟩
  rw [heap_setCell_same _ _ 1 _ _ _ h.box]; rfl
theorem BW.cells {w : World} {g : Nat} {lo hi : Value} {Lo Hi : List Int} {W : World} (h : BW w g lo hi Lo Hi W) : W.cell? ⟨w.heap.size + 1, 0, none⟩ = some lo ∧ W.cell? ⟨w.heap.size + 1, 1, none⟩ = some hi ∧ W.frozen? ⟨w.heap.size + 1, 0, none⟩ = false ∧ W.frozen? ⟨w.heap.size + 1, 1, none⟩ = false ∧
    W.cell? ⟨w.heap.size, 0, none⟩ = some (.slice none 0 0) ∧ W.cell? ⟨w.heap.size, 1, none⟩ = some (.slice none 0 0) ∧ W.frozen? ⟨w.heap.size, 0, none⟩ = false ∧ W.frozen? ⟨w.heap.size, 1, none⟩ = false :=
  ⟨cell_of_row _ _ 0 _ _ _ h.box, cell_of_row _ _ 1 _ _ _ h.box, by simp [World.frozen?, h.box], by simp [World.frozen?, h.box], cell_of_row _ _ 0 _ _ _ h.res, cell_of_row _ _ 1 _ _ _ h.res, by simp [World.frozen?, h.res], by simp [World.frozen?, h.res]⟩

def BoundP (w : World) (g : Nat) (e : Ending) (w' : World) : Prop := ∃ (lo hi : Value) (Lo Hi : List Int), e = .returned (.agg #[lo, hi]) ∧ DW w g Lo lo w' ∧ DW w g Hi hi w' ∧ Lo.length ≤ 3 ∧ Hi.length ≤ 3
theorem BW.dw {w : World} {g : Nat} {lo hi : Value} {Lo Hi : List Int} {W : World} (h : BW w g lo hi Lo Hi W) : DW w g Lo lo W ∧ DW w g Hi hi W :=
  ⟨⟨own_mono h.ol (by omega), h.dice, h.grown, h.lt⟩, ⟨own_mono h.oh (by omega), h.dice, h.grown, h.lt⟩⟩
theorem BW.out {w : World} {g : Nat} {lo hi : Value} {Lo Hi : List Int} {W : World} (h : BW w g lo hi Lo Hi W) {x : Act} (ht : x.tmps.getD 2 undef = .pointer (some ⟨w.heap.size, 0, none⟩)) (hd : x.defers = []) :
    bodyPost Tryd.prog Tryd.f38 (BoundP w g) .ret x ((W.setCell ⟨w.heap.size, 0, none⟩ lo).setCell ⟨w.heap.size, 1, none⟩ hi) := by
  have h1 := heap_setCell_same W w.heap.size 0 _ _ lo h.res
  have h2 := heap_setCell_same _ w.heap.size 1 _ _ hi h1
  have e0 := cell_of_row _ w.heap.size 0 _ _ _ h2
  have e1 := cell_of_row _ w.heap.size 1 _ _ _ h2
  simp at e0 e1 ht
  have hl := h.lt
  have hdd : ∀ {L : List Int} {v : Value}, W.ownsRow (w.heap.size + 2) 3 1 v L.length (vi L) → DW w g L v ((W.setCell ⟨w.heap.size, 0, none⟩ lo).setCell ⟨w.heap.size, 1, none⟩ hi) := fun {L v} ho =>
    ⟨own_mono (own_set (own_set ho (by omega)) (by omega)) (by omega), dice_set (dice_set h.dice hl) hl, set_grown w _ g _ 1 hi (set_grown w W g _ 0 lo h.grown (Nat.le_refl _)) (Nat.le_refl _), hl⟩
  refine bodyPost_ret (v := .agg #[lo, hi]) ?_ hd ⟨lo, hi, Lo, Hi, rfl, hdd h.ol, hdd h.oh, h.ll, h.lh⟩
  simp [results, Tryd.results38, go_sem, ht, e0, e1]

set_option maxRecDepth 100000 in
set_option maxHeartbeats 4000000 in
theorem bound_dice (w : World) (g : Nat) (h : DiceAt w g) : Calls Tryd.prog 38 #[.pointer (some ⟨g, 0, none⟩)] w (BoundP w g) := by
  have hlt := h.lt
  have hb := ((Below.refl w.heap.size w).alloc (Nat.le_refl _) (.cells #[.slice none 0 0, .slice none 0 0] 53)).alloc (by simp) (.cells #[.slice none 0 0, .slice none 0 0] 53)
  have hB : BW w g (.slice none 0 0) (.slice none 0 0) [] [] ((w.alloc (.cells #[.slice none 0 0, .slice none 0 0] 53)).alloc (.cells #[.slice none 0 0, .slice none 0 0] 53)) :=
    ⟨by rw [Below.heap_alloc _ _ _ (by simp)]; exact heap_alloc_new _ _, heap_alloc2_new w _ _, World.ownsRow_nil _ _ _ _, World.ownsRow_nil _ _ _ _, by simp, by simp, h.below hb, (World.grownBy_alloc w _ _).trans (World.grownBy_alloc _ _ _), hlt, by simp⟩
  have HB0 := Lib.hid hB
  clear hB hb h
  go_enter Tryd.func38, Tryd.ntmps38
  go_wp2_with fail
  generalize ((w.alloc (.cells #[.slice none 0 0, .slice none 0 0] 53)).alloc (.cells #[.slice none 0 0, .slice none 0 0] 53)) = W0 at *
  have c1 := one_any W0 g HB0.out.dice
  have CO1 := Lib.hid c1; clear c1
  go_wp2_with fail
  refine (CO1.out).mono ?_
  rintro e W1 ⟨q1, rfl, hd1, hg1⟩
  have HB1 := Lib.hid (HB0.out.call hg1 hd1)
  clear hd1 hg1 CO1
  cases q1
  · -- no lower end
    have c2 := one_any W1 g HB1.out.dice
    have CO2 := Lib.hid c2; clear c2
    go_wp2_with fail
    refine (CO2.out).mono ?_
    rintro e W2 ⟨q2, rfl, hd2, hg2⟩
    have HB2 := Lib.hid (HB1.out.call hg2 hd2)
    clear hd2 hg2 CO2
    cases q2
    · obtain ⟨al, cl, hlo⟩ := own_slice HB2.out.ol
      obtain ⟨ah, ch, hhi⟩ := own_slice HB2.out.oh
      obtain ⟨k0, k1, f0, f1, k2, k3, f2, f3⟩ := HB2.out.cells
      go_wp2_with fail
      exact HB2.out.out rfl rfl
    · have c4 := version_dice W2 g HB2.out.dice
      have CV4 := Lib.hid c4; clear c4
      go_wp2_with fail
      refine (CV4.out).mono ?_
      rintro e W3 ⟨L4, v4, rfl, hG4, hD4⟩
      have HB3 := Lib.hid (HB2.out.call hD4.grown hD4.dice)
      have HO4 := Lib.hid (own_mono hD4.own HB2.out.sz)
      have HL4 : L4.length ≤ 3 := hG4.2.1
      obtain ⟨k0, k1, f0, f1, k2, k3, f2, f3⟩ := HB3.out.cells
      have HS4 := Lib.hid (HB3.out.setHi HO4.out HL4)
      clear hG4 hD4 CV4 k2 k3 f2 f3
      obtain ⟨pa4, pc4, hv4⟩ := own_slice HO4.out
      subst hv4
      obtain ⟨z0, z1, g0, g1, z2, z3, g2, g3⟩ := HS4.out.cells
      go_wp2_with fail
      exact HS4.out.out rfl rfl
  · have c5 := version_dice W1 g HB1.out.dice
    have CV5 := Lib.hid c5; clear c5
    go_wp2_with fail
    refine (CV5.out).mono ?_
    rintro e W4 ⟨L5, v5, rfl, hG5, hD5⟩
    have HB4 := Lib.hid (HB1.out.call hD5.grown hD5.dice)
    have HO5 := Lib.hid (own_mono hD5.own HB1.out.sz)
    have HL5 : L5.length ≤ 3 := hG5.2.1
    obtain ⟨k0, k1, f0, f1, k2, k3, f2, f3⟩ := HB4.out.cells
    have HS5 := Lib.hid (HB4.out.setLo HO5.out HL5)
    clear hG5 hD5 CV5 k2 k3 f2 f3
    obtain ⟨pa5, pc5, hv5⟩ := own_slice HO5.out
    subst hv5
    obtain ⟨y0, y1, y2, y3, y4, y5, y6, y7⟩ := HS5.out.cells
    have HS5' := Lib.hid HS5.out
    clear HS5
    have c6 := one_any _ g HS5'.out.dice
    have CO6 := Lib.hid c6; clear c6
    go_wp2_with fail
    refine (CO6.out).mono ?_
    rintro e W5 ⟨q6, rfl, hd6, hg6⟩
    have HB5 := Lib.hid (HS5'.out.call hg6 hd6)
    clear hd6 hg6 CO6 HS5' y0 y1 y2 y3 y4 y5 y6 y7 k0 k1 f0 f1
    cases q6
    · obtain ⟨z0, z1, g0, g1, z2, z3, g2, g3⟩ := HB5.out.cells
      go_wp2_with fail
      exact HB5.out.out rfl rfl
    · have c7 := version_dice W5 g HB5.out.dice
      have CV7 := Lib.hid c7; clear c7
      go_wp2_with fail
      refine (CV7.out).mono ?_
      rintro e W6 ⟨L7, v7, rfl, hG7, hD7⟩
      have HB6 := Lib.hid (HB5.out.call hD7.grown hD7.dice)
      have HO7 := Lib.hid (own_mono hD7.own HB5.out.sz)
      have HL7 : L7.length ≤ 3 := hG7.2.1
      obtain ⟨k0, k1, f0, f1, k2, k3, f2, f3⟩ := HB6.out.cells
      have HS7 := Lib.hid (HB6.out.setHi HO7.out HL7)
      clear hG7 hD7 CV7 k2 k3 f2 f3
      obtain ⟨pa7, pc7, hv7⟩ := own_slice HO7.out
      subst hv7
      obtain ⟨z0, z1, g0, g1, z2, z3, g2, g3⟩ := HS7.out.cells
      go_wp2_with fail
      exact HS7.out.out rfl rfl
end Go.Proofs.YtdhochjcigingaaDoor
