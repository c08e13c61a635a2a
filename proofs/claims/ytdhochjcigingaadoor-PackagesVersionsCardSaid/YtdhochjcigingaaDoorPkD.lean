/- law 12: a version out of the dice. -/
import Derived.Test.YtdhochjcigingaaDoorPkT
import Derived.Test.YtdhochjcigingaaDoorUse
import Derived.Maps.Range
namespace Go.Proofs.YtdhochjcigingaaDoor
open Go.RowKit
set_option linter.all false

theorem DiceAt.far {W W' : World} {g : Nat} (h : DiceAt W g) {row : Option Nat} (hg : W.grownBy W' row) (hr : ∀ k, row = some k → g < k) : DiceAt W' g := by
  have hlt := h.lt
  obtain ⟨a, n, c, k, h, h1, h2, h3⟩ := h
  have hne : ∀ q, q ≤ g → some q ≠ row := fun q hq e => by have := hr q e.symm; omega
  exact ⟨a, n, c, k, (hg.block g hlt (hne g (Nat.le_refl _))).trans h, h1, h2, h3.keep fun b o v hb hv => (hg.cell_far ⟨b, o, none⟩ (by simp only; omega) (hne b (by omega))).trans hv⟩

/-- A row of numbers of the call's own, beside the dice. -/
structure DW (w : World) (g : Nat) (L : List Int) (v : Value) (W : World) : Prop where
  own : W.ownsRow w.heap.size 3 1 v L.length (vi L)
  dice : DiceAt W g
  grown : w.grownBy W (some g)
  lt : g < w.heap.size
theorem DW.call {w : World} {g : Nat} {L : List Int} {v : Value} {W W' : World} (h : DW w g L v W) (hg : W.grownBy W' (some g)) (hd : DiceAt W' g) : DW w g L v W' := by
  have hl := h.lt
  refine ⟨h.own.kept hg ?_, hd, h.grown.trans hg, hl⟩
  cases hv : v.ownBlock with
  | none => exact .inl rfl
  | some k => exact .inr (fun e => by injection e with e; have := (h.own.lt k hv).1; omega)
theorem DW.appended {w : World} {g : Nat} {L : List Int} {v v' : Value} {W W' : World} {x : Int} (h : DW w g L v W) (hg : W.grownBy W' v.ownBlock) (ho : W'.ownsRow w.heap.size 3 1 v' (L.length + 1) (vi L ++ [.int .i64 x])) : DW w g (L ++ [x]) v' W' := by
  have hl := h.lt
  have hr : ∀ k, v.ownBlock = some k → w.heap.size ≤ k := fun k hk => (h.own.lt k hk).1
  refine ⟨?_, h.dice.far hg (fun k hk => by have := hr k hk; omega), h.grown.andThen hg (fun j hj => .inl (hr j hj)), hl⟩
  rw [List.length_append]
  unfold vi at ho ⊢
  rw [List.map_append]
  exact ho
theorem DW.alloc {w : World} {g : Nat} {L : List Int} {v : Value} {W : World} (h : DW w g L v W) (o : Obj) : DW w g L v (W.alloc o) :=
  ⟨h.own.alloc o, h.dice.below ((Below.refl _ _).alloc (Nat.le_refl _) o), h.grown.trans (World.grownBy_alloc W o _), h.lt⟩

def Good (L : List Int) (n : Nat) : Prop := 1 ≤ L.length ∧ L.length ≤ n ∧ L.all numB = true
theorem Good.snoc {L : List Int} {n : Nat} {x : Int} (h : Good L n) (hx : numB x = true) : Good (L ++ [x]) (n + 1) := by
  obtain ⟨h1, h2, h3⟩ := h
  refine ⟨by simp, by simp; omega, ?_⟩
  rw [List.all_append, h3, List.all_cons, hx]
  rfl
theorem Good.ver {L : List Int} {n : Nat} (h : Good L n) (hn : n ≤ 4) : verB L = true := by
  obtain ⟨h1, h2, h3⟩ := h
  unfold verB
  rw [h3, decide_eq_true ⟨h1, by omega⟩]
  rfl
/-- The version that the dice give. -/
def VersP (w : World) (g : Nat) (e : Ending) (w' : World) : Prop := ∃ (L : List Int) (v : Value), e = .returned v ∧ Good L 3 ∧ DW w g L v w'
def VsRel (w : World) (g : Nat) (vv iv : Value) (wr : World) : Prop := ∃ (k : Nat) (L : List Int) (v : Value), v = vv ∧ iv = .int .i64 (k : Int) ∧ k ≤ 2 ∧ Good L (3 - k) ∧ DW w g L v wr

def OfR (w : World) (g : Nat) (e : Ending) (w' : World) : Prop := ∃ z : Int, numB z = true ∧ e = .returned (.int .i64 z) ∧ DiceAt w' g ∧ w.grownBy w' (some g)
theorem of_nums (w : World) (g : Nat) (h : DiceAt w g) : Calls Tryd.prog 44 #[.pointer (some ⟨g, 0, none⟩), .slice (some ⟨w.heap.size, 0, none⟩) 5 5] (w.alloc (.cells #[.int .i64 0, .int .i64 1, .int .i64 2, .int .i64 10, .int .i64 99999] 3)) (OfR w g) :=
  (of_new w g [0, 1, 2, 10, 99999] h (by decide) (by decide)).mono fun e w' ⟨z, hz, he, hd, hg⟩ => ⟨z, by
    simp at hz
    rcases hz with rfl | rfl | rfl | rfl | rfl <;> decide, he, hd, hg⟩

set_option maxRecDepth 100000 in
set_option maxHeartbeats 4000000 in
theorem version_dice (w : World) (g : Nat) (h : DiceAt w g) : Calls Tryd.prog 37 #[.pointer (some ⟨g, 0, none⟩)] w (VersP w g) := by
  have hlt := h.lt
  have cN := next_any w g 4 (by omega) (by omega) h
  obtain ⟨i0, hi, hz0, hz1, hz2⟩ := info_parts info3
  have HI := Lib.hid hi; have HZ0 := Lib.hid hz0; have HZ1 := Lib.hid hz1; have HZ2 := Lib.hid hz2
  clear hi hz0 hz1 hz2
  have CN := Lib.hid cN; clear cN h
  go_enter Tryd.func37, Tryd.ntmps37
  go_wp2_with fail
  refine (CN.out).mono ?_
  rintro e w1 ⟨x, rfl, hx0, hx1, hd, hg⟩
  have hs1 := hg.size
  have hD : DW w g [x] (.slice (some ⟨w1.heap.size, 0, none⟩) 1 1) (w1.alloc (.cells #[.int .i64 x] 3)) :=
    ⟨World.ownsRow_lit w1 #[.int .i64 x] 1 hs1 (by simp [maxLen]) rfl, hd.below ((Below.refl _ _).alloc (Nat.le_refl _) _), hg.trans (World.grownBy_alloc _ _ _), hlt⟩
  have hG : Good [x] 1 := ⟨by simp, by simp, by simp [numB]; omega⟩
  have cN2 := next_any _ g 3 (by omega) (by omega) hD.dice
  have CN2 := Lib.hid cN2; have HD := Lib.hid hD; have HG := Lib.hid hG
  clear cN2 hD hG hd hg CN hx0 hx1
  go_wp2_with fail
  refine (CN2.out).mono ?_
  rintro e w2 ⟨r, rfl, hr0, hr1, hd2, hg2⟩
  have hD2 := HD.out.call hg2 hd2
  have HD2 := Lib.hid hD2
  clear hD2 hg2 hd2 CN2 HD
  obtain ⟨r, rfl⟩ : ∃ n : Nat, r = n := ⟨r.toNat, by omega⟩
  have hr2 : r ≤ 2 := by omega
  have hG2 : Good [x] (3 - r) := by
    obtain ⟨a, b, c⟩ := HG.out
    exact ⟨a, by omega, c⟩
  have HG2 := Lib.hid hG2
  clear hG2 HG hr0 hr1
  generalize (Value.slice (some ⟨w1.heap.size, 0, none⟩) 1 1) = v0 at *
  clear hs1
  go_wp2_with fail
  obtain ⟨wo, rfl⟩ : ∃ wo : World, wo = w := ⟨_, rfl⟩
  go_loopw [3, 4] (fun vv iv wr => VsRel wo g vv iv wr) (fun _ iv _ => (intOf iv).toNat)
  case atStart => exact ⟨r, [x], v0, rfl, rfl, hr2, HG2.out, HD2.out⟩
  case round =>
    clear HG2 HD2
    obtain ⟨k, L, v, rfl, rfl, hk, hG, hD⟩ := hrel
    by_cases hk0 : 0 < k
    · have hdk : decide ((0 : Int) < (k : Int)) = true := by rw [decide_eq_true_eq]; omega
      have hdk2 : decide (0 < k) = true := by rw [decide_eq_true_eq]; omega
      have cO := of_nums wr g hD.dice
      have CO := Lib.hid cO; have HG := Lib.hid hG; have HD := Lib.hid hD
      have hsz : wo.heap.size ≤ wr.heap.size := hD.grown.size
      clear cO hG hD
      go_wp2_with fail
      refine (CO.out).mono ?_
      rintro e w3 ⟨z, hz, rfl, hd3, hg3⟩
      have HD3 := Lib.hid (HD.out.call hg3 hd3)
      have HG3 := Lib.hid (HG.out.snoc hz)
      have hsz3 : wo.heap.size ≤ w3.heap.size := HD3.out.grown.size
      have HO3 := Lib.hid (HD3.out.own.alloc (.cells #[.int .i64 z] 3))
      have HB3 := Lib.hid (heap_alloc_new w3 (.cells #[.int .i64 z] 3))
      have HNW := Lib.hid (World.news_of_block (cs := #[.int .i64 z]) (t := 3) (fr := (0, 0)) HB3.out)
      have HA3 := Lib.hid (HD3.out.alloc (.cells #[.int .i64 z] 3))
      have HL1 := Lib.hid (vi_one [z])
      have hLl : L.length ≤ 3 := by have := HG.out.2.1; omega
      clear CO HD hd3 hg3 hz
      have tok1 : True := trivial
      go_wp2_with (at_builtin; have _t := tok1; refine wpList_append_own _ rfl _ _ 40 rfl wo.heap.size 3 i0 (.int .i64 0) 1 8 (by kernel_rfl) HI.out HZ0.out HZ1.out HZ2.out rfl (by decide) _ _ _ rfl HO3.out ⟨w3.heap.size, 0, none⟩ 1 1 [.int .i64 z] rfl rfl HNW.out HL1.out (by unfold maxLen; omega) (by omega) (by simp; omega) ?_; intro v' W5 hown' hgrow _; have HOW := Lib.hid hown'; have HGR := Lib.hid hgrow; clear hown' hgrow)
      go_roundw
      case rel => exact ⟨k - 1, L ++ [z], v', rfl, by go_num, by omega, by rw [show 3 - (k - 1) = 3 - k + 1 from by omega]; exact HG3.out, HA3.out.appended HGR.out HOW.out⟩
      case measure => simp [intOf]; omega
    · have hk1 : k = 0 := by omega
      subst hk1
      have HG := Lib.hid hG; have HD := Lib.hid hD
      clear hG hD
      go_wp2_with fail
      go_ret
      exact ⟨L, v, rfl, HG.out, HD.out⟩
end Go.Proofs.YtdhochjcigingaaDoor
