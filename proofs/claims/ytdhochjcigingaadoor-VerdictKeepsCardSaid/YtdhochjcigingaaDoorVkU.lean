/- verdict.turns of the sanity check's policy: the days 0 and 9. -/
import Derived.Test.YtdhochjcigingaaDoorVkT
namespace Go.Proofs.YtdhochjcigingaaDoor
open Go.RowKit Go.Sort
set_option linter.all false

theorem own_at3 {w : World} {base g cap : Nat} (h : w.ownsRow base 3 1 (.slice (some ⟨g, 0, none⟩) 3 cap) 3 (vj [0, 9, 40001])) : At3 w g 0 9 40001 ∧ 3 ≤ cap ∧ cap ≤ maxLen ∧ base ≤ g ∧ g < w.heap.size := by
  obtain ⟨g', cap', hv, h1, h2, h3, h4, _, hH⟩ := Lib.holds_of_ownsRow (enc := Value.int .i64) (zs := [0, 9, 40001]) h (by intro hh; cases hh)
  cases hv
  exact ⟨⟨⟨(hH 0 (by decide)).1, (hH 1 (by decide)).1, (hH 2 (by decide)).1⟩, (hH 2 (by decide)).2⟩, h3, h4, h1, h2⟩

theorem cut2 {w : World} {base g cap : Nat} (h : w.ownsRow base 3 1 (.slice (some ⟨g, 0, none⟩) 3 cap) 3 (vj [0, 9, 40001])) :
    OwnsP base g 2 cap [0, 9] w (w.setCell ⟨g, 2, none⟩ (.int .i64 0)) := by
  obtain ⟨g', cap', hv, _, _, _, _, _, hH⟩ := Lib.holds_of_ownsRow (enc := Value.int .i64) (zs := [0, 9, 40001]) h (by intro hh; cases hh)
  cases hv
  have e1 := putRow_set (Value.int .i64) w g 0 #[0, 9, 40001] 2 0 (by decide)
  rw [putRow_self (Value.int .i64) w g 0 #[0, 9, 40001] hH] at e1
  have e2 : w.setCell ⟨g, 2, none⟩ (.int .i64 0) = putRow (Value.int .i64) (Sort.ahead w 0) g 0 [0, 9, 0].toArray := e1
  rw [e2]
  refine ⟨?_, grown_put _⟩
  exact Lib.ownsRow_putRow (q := 0) (k := 2) (ys := [0, 9, 0]) (enc := Value.int .i64) (zs := [0, 9, 40001]) h rfl (by omega)

def dayL : Nat → List Int
  | 0 => [0]
  | 1 => [0, 0, 40001]
  | _ => [0, 0, 40001, 0, 9]

def URel (w : World) (vv iv : Value) (wr : World) : Prop :=
  ∃ (k : Nat) (g cap : Nat), vv = .slice (some ⟨g, 0, none⟩) (1 + 2 * k) cap ∧ iv = .int .i64 (k : Int) ∧ k ≤ 2 ∧ wr.ownsRow w.heap.size 3 1 (.slice (some ⟨g, 0, none⟩) (1 + 2 * k) cap) (1 + 2 * k) (vj (dayL k)) ∧ Below w.heap.size w wr

def TurnsP (w : World) (e : Ending) (w' : World) : Prop := ∃ g cap, e = .returned (.slice (some ⟨g, 0, none⟩) 2 cap) ∧ w'.ownsRow w.heap.size 3 1 (.slice (some ⟨g, 0, none⟩) 2 cap) 2 (vj [0, 9]) ∧ Below w.heap.size w w'

/-- The end: sorted, made one of each, the last one struck. -/
theorem turns_end {w w1 : World} {g cap : Nat} (ho : w1.ownsRow w.heap.size 3 1 (.slice (some ⟨g, 0, none⟩) 5 cap) 5 (vj [0, 0, 40001, 0, 9])) (hb : Below w.heap.size w w1) :
    Calls Tryd.prog 110 #[.slice (some ⟨g, 0, none⟩) 5 cap] w1 fun e w2 => e = .returned (.tuple #[]) ∧
      Calls Tryd.prog 111 #[.slice (some ⟨g, 0, none⟩) 5 cap] w2 fun e w3 => e = .returned (.slice (some ⟨g, 0, none⟩) 3 cap) ∧
        Calls Tryd.prog 112 #[.slice (some ⟨g, 0, none⟩) 3 cap, .func (.func 113) #[] #[]] w3 (TurnsP w) := by
  refine (sort_own w.heap.size g 5 cap _ _ w1 ho (by omega) sorted5).mono ?_
  rintro e w2 ⟨rfl, ho2, hg2⟩
  refine ⟨rfl, (compact_own w.heap.size g 5 cap _ _ w2 ho2 (by omega) compact5).mono ?_⟩
  rintro e w3 ⟨rfl, ho3, hg3⟩
  obtain ⟨h3, hc1, hc2, hbg, hgl⟩ := own_at3 ho3
  refine ⟨rfl, (delete3 g cap hc1 hc2 w3 h3).mono ?_⟩
  rintro e w4 ⟨rfl, rfl⟩
  obtain ⟨ho4, hg4⟩ := cut2 ho3
  have b2 := hb.grown hg2 hb.size (fun k hk => by cases hk; exact hbg)
  have b3 := b2.grown hg3 b2.size (fun k hk => by cases hk; exact hbg)
  have b4 := b3.grown hg4 b3.size (fun k hk => by cases hk; exact hbg)
  exact ⟨g, cap, rfl, ho4, b4⟩

set_option maxRecDepth 100000 in
set_option maxHeartbeats 4000000 in
theorem turns_md5 (b : Nat) (w : World) (hW : VW w b w) : Calls Tryd.prog 97 #[.agg #[.slice (some ⟨b, 0, none⟩) 2 2, .slice none 0 0]] w (TurnsP w) := by
  obtain ⟨i0, hi, hz0, hz1, hz2⟩ := info_parts infoI
  have HI := Lib.hid hi; have HZ0 := Lib.hid hz0; have HZ1 := Lib.hid hz1; have HZ2 := Lib.hid hz2
  have HW := Lib.hid hW
  have ob : Below w.heap.size w ((w.alloc (.cells #[.slice (some ⟨b, 0, none⟩) 2 2, .slice none 0 0] 70)).alloc (.cells #[.int .i64 0] 3)) := ((Below.refl _ _).alloc (Nat.le_refl _) _).alloc (by simp) _
  have o0 : ((w.alloc (.cells #[.slice (some ⟨b, 0, none⟩) 2 2, .slice none 0 0] 70)).alloc (.cells #[.int .i64 0] 3)).ownsRow w.heap.size 3 1 (.slice (some ⟨w.heap.size + 1, 0, none⟩) 1 1) 1 (vj [0]) := by
    have := World.ownsRow_lit (base := w.heap.size) (e := 3) (size := 1) (w.alloc (.cells #[.slice (some ⟨b, 0, none⟩) 2 2, .slice none 0 0] 70)) #[.int .i64 0] 1 (by simp) (by simp [maxLen]) rfl
    rwa [show (w.alloc (.cells #[.slice (some ⟨b, 0, none⟩) 2 2, .slice none 0 0] 70)).heap.size = w.heap.size + 1 from by simp] at this
  have OB := Lib.hid ob; have O0 := Lib.hid o0
  clear hi hz0 hz1 hz2 hW ob o0
  go_enter Tryd.func97, Tryd.ntmps97
  go_wp2_with fail
  generalize ((w.alloc (.cells #[.slice (some ⟨b, 0, none⟩) 2 2, .slice none 0 0] 70)).alloc (.cells #[.int .i64 0] 3)) = W0 at *
  obtain ⟨wo, rfl⟩ : ∃ wo : World, wo = w := ⟨_, rfl⟩
  go_loopw [3, 5, 10] (fun vv _ iv wr => URel wo vv iv wr) (fun _ _ iv _ => 2 - (intOf iv).toNat)
  case atStart => exact ⟨0, _, 1, rfl, rfl, by omega, O0.out, OB.out⟩
  case round =>
    clear O0 OB
    obtain ⟨k, g, cap, rfl, rfl, hk, ho, hb⟩ := hrel
    obtain ⟨⟨a0, a1, a2, a3, a4, a5⟩, b0, b1, b2, b3, b4, b5⟩ := (HW.out.step hb).rules
    have hsz : wo.heap.size ≤ wr.heap.size := hb.size
    have hk3 : k = 0 ∨ k = 1 ∨ k = 2 := by omega
    rcases hk3 with rfl | rfl | rfl
    · have HO := Lib.hid ((ho.alloc (.cells #[.bool false, .int .i64 1, .int .i64 0, .int .i64 0, .int .i64 0, .int .i64 40001] 111)).alloc (.cells #[.int .i64 0, .int .i64 40001] 3))
      have HB := Lib.hid ((hb.alloc hsz (.cells #[.bool false, .int .i64 1, .int .i64 0, .int .i64 0, .int .i64 0, .int .i64 40001] 111)).alloc (by simp; omega) (.cells #[.int .i64 0, .int .i64 40001] 3))
      have hn := heap_alloc_new (wr.alloc (.cells #[.bool false, .int .i64 1, .int .i64 0, .int .i64 0, .int .i64 0, .int .i64 40001] 111)) (.cells #[.int .i64 0, .int .i64 40001] 3)
      rw [show (wr.alloc (.cells #[.bool false, .int .i64 1, .int .i64 0, .int .i64 0, .int .i64 0, .int .i64 40001] 111)).heap.size = wr.heap.size + 1 from by simp] at hn
      have HNW := Lib.hid (World.news_of_block (cs := #[.int .i64 0, .int .i64 40001]) (t := 3) (fr := (0, 0)) hn)
      have HL1 := Lib.hid (vj_one [0, 40001])
      clear ho hb hn hk
      have tok1 : True := trivial
      go_wp2_with (at_builtin; have _t := tok1; refine wpList_append_own _ rfl _ _ 40 rfl wo.heap.size 3 i0 (.int .i64 0) 1 8 (by kernel_rfl) HI.out HZ0.out HZ1.out HZ2.out rfl (by decide) _ _ _ rfl HO.out ⟨wr.heap.size + 1, 0, none⟩ 2 2 [.int .i64 0, .int .i64 40001] rfl rfl HNW.out HL1.out (by unfold maxLen; omega) (by omega) (by simp; omega) ?_; intro v' W5 hown' hgrow _; have HOW := Lib.hid hown'; have HGR := Lib.hid hgrow; clear hown' hgrow)
      obtain ⟨g5, cap5, hv5, hbg5⟩ : ∃ g5 cap5, v' = .slice (some ⟨g5, 0, none⟩) 3 cap5 ∧ wo.heap.size ≤ g := by
        obtain ⟨g', c', h1, h2, h3⟩ := HOW.out.form (by omega)
        exact ⟨g', c', h1, (HO.out.lt g rfl).1⟩
      subst hv5
      go_roundw
      case rel => exact ⟨1, g5, cap5, rfl, by go_num, by omega, HOW.out, HB.out.grown HGR.out HB.out.size (fun q hq => by cases hq; exact hbg5)⟩
      case measure => simp [intOf]
    · have HO := Lib.hid ((ho.alloc (.cells #[.bool true, .int .i64 1, .int .i64 0, .int .i64 0, .int .i64 0, .int .i64 9] 111)).alloc (.cells #[.int .i64 0, .int .i64 9] 3))
      have HB := Lib.hid ((hb.alloc hsz (.cells #[.bool true, .int .i64 1, .int .i64 0, .int .i64 0, .int .i64 0, .int .i64 9] 111)).alloc (by simp; omega) (.cells #[.int .i64 0, .int .i64 9] 3))
      have hn := heap_alloc_new (wr.alloc (.cells #[.bool true, .int .i64 1, .int .i64 0, .int .i64 0, .int .i64 0, .int .i64 9] 111)) (.cells #[.int .i64 0, .int .i64 9] 3)
      rw [show (wr.alloc (.cells #[.bool true, .int .i64 1, .int .i64 0, .int .i64 0, .int .i64 0, .int .i64 9] 111)).heap.size = wr.heap.size + 1 from by simp] at hn
      have HNW := Lib.hid (World.news_of_block (cs := #[.int .i64 0, .int .i64 9]) (t := 3) (fr := (0, 0)) hn)
      have HL1 := Lib.hid (vj_one [0, 9])
      clear ho hb hn hk
      have tok1 : True := trivial
      go_wp2_with (at_builtin; have _t := tok1; refine wpList_append_own _ rfl _ _ 40 rfl wo.heap.size 3 i0 (.int .i64 0) 1 8 (by kernel_rfl) HI.out HZ0.out HZ1.out HZ2.out rfl (by decide) _ _ _ rfl HO.out ⟨wr.heap.size + 1, 0, none⟩ 2 2 [.int .i64 0, .int .i64 9] rfl rfl HNW.out HL1.out (by unfold maxLen; omega) (by omega) (by simp; omega) ?_; intro v' W5 hown' hgrow _; have HOW := Lib.hid hown'; have HGR := Lib.hid hgrow; clear hown' hgrow)
      obtain ⟨g5, cap5, hv5, hbg5⟩ : ∃ g5 cap5, v' = .slice (some ⟨g5, 0, none⟩) 5 cap5 ∧ wo.heap.size ≤ g := by
        obtain ⟨g', c', h1, h2, h3⟩ := HOW.out.form (by omega)
        exact ⟨g', c', h1, (HO.out.lt g rfl).1⟩
      subst hv5
      go_roundw
      case rel => exact ⟨2, g5, cap5, rfl, by go_num, by omega, HOW.out, HB.out.grown HGR.out HB.out.size (fun q hq => by cases hq; exact hbg5)⟩
      case measure => simp [intOf]
    · have CE := Lib.hid (turns_end ho hb)
      clear ho hb hk
      go_wp2_with fail
      refine (CE.out).mono ?_
      rintro e w2 ⟨rfl, hc⟩
      have CE2 := Lib.hid hc; clear hc
      go_wp2_with fail
      refine (CE2.out).mono ?_
      rintro e w3 ⟨rfl, hc⟩
      have CE3 := Lib.hid hc; clear hc
      go_wp2_with fail
      refine (CE3.out).mono ?_
      rintro e w4 ⟨g4, cap4, rfl, ho4, hb4⟩
      go_wp2_with fail
      go_ret
      exact ⟨g4, cap4, rfl, ho4, hb4⟩
end Go.Proofs.YtdhochjcigingaaDoor
