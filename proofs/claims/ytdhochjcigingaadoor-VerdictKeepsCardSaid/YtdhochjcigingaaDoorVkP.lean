/- verdict.Spans of the sanity check's policy: one span, 0 to 9. -/
import Derived.Test.YtdhochjcigingaaDoorVkU
import Derived.BigQuiet
namespace Go.Proofs.YtdhochjcigingaaDoor
open Go.RowKit Go.Sort
set_option linter.all false

theorem infoS : (Tryd.prog.info? 118).map (fun i => (i.zero, i.size, i.bytes)) = some (some (.agg #[.int .i64 0, .int .i64 0]), 2, 16) := by kernel_rfl

/-- What Spans' loop holds: the rules, the two boxes, the three days. -/
structure SpW (w : World) (B b d : Nat) (W : World) : Prop where
  vw : VW w b W
  box : (W.cell? ⟨B, 0, none⟩ = some (.slice (some ⟨b, 0, none⟩) 2 2) ∧ W.cell? ⟨B, 1, none⟩ = some (.slice none 0 0)) ∧ W.cell? ⟨B + 1, 0, none⟩ = some (.int .i64 1) ∧ W.cell? ⟨B + 1, 1, none⟩ = some (.int .i64 0)
  days : W.cell? ⟨d, 0, none⟩ = some (.int .i64 0) ∧ W.cell? ⟨d, 1, none⟩ = some (.int .i64 9) ∧ W.cell? ⟨d, 2, none⟩ = some (.int .i64 40001)
theorem SpW.step {w W W' : World} {B b d : Nat} (h : SpW w B b d W) (hb : Below W.heap.size W W') : SpW w B b d W' :=
  ⟨h.vw.step hb, ⟨⟨cell_later' hb h.box.1.1, cell_later' hb h.box.1.2⟩, cell_later' hb h.box.2.1, cell_later' hb h.box.2.2⟩, cell_later' hb h.days.1, cell_later' hb h.days.2.1, cell_later' hb h.days.2.2⟩

def SRel (w : World) (B b d : Nat) (lv iv : Value) (wr : World) : Prop :=
  SpW w B b d wr ∧ ((lv = .slice none 0 0 ∧ iv = .int .i64 0) ∨ ∃ (g cap k : Nat), lv = .slice (some ⟨g, 0, none⟩) 1 cap ∧ iv = .int .i64 (k : Int) ∧ (k = 1 ∨ k = 2) ∧ wr.ownsRow w.heap.size 118 2 (.slice (some ⟨g, 0, none⟩) 1 cap) 1 [.int .i64 0, .int .i64 9])

def SpansP (w : World) (e : Ending) (w' : World) : Prop := ∃ g cap, e = .returned (.tuple #[.slice (some ⟨g, 0, none⟩) 1 cap, .int .i64 0]) ∧ w'.ownsRow w.heap.size 118 2 (.slice (some ⟨g, 0, none⟩) 1 cap) 1 [.int .i64 0, .int .i64 9] ∧ Below w.heap.size w w'

theorem own_slice1 {W : World} {base : Nat} {v : Value} {xs : List Value} (h : W.ownsRow base 118 2 v 1 xs) : ∃ g c, v = .slice (some ⟨g, 0, none⟩) 1 c := by
  obtain ⟨g, c, h1, _, _⟩ := h.form (by omega)
  exact ⟨g, c, h1⟩
theorem own_slice3 {W : World} {base : Nat} {v : Value} {xs : List Value} (h : W.ownsRow base 3 1 v 3 xs) : ∃ g c, v = .slice (some ⟨g, 0, none⟩) 3 c := by
  obtain ⟨g, c, h1, _, _⟩ := h.form (by omega)
  exact ⟨g, c, h1⟩

set_option maxRecDepth 100000 in
set_option maxHeartbeats 4000000 in
theorem spans_md5 (b : Nat) (w : World) (hW : VW w b w) : Calls Tryd.prog 81 #[.agg #[.slice (some ⟨b, 0, none⟩) 2 2, .slice none 0 0], .agg #[.int .i64 1, .int .i64 0], .int .i64 1] w (SpansP w) := by
  obtain ⟨i0, hi, hz0, hz1, hz2⟩ := info_parts infoI
  obtain ⟨i1, hi1, hy0, hy1, hy2⟩ := info_parts infoS
  have HI := Lib.hid hi; have HZ0 := Lib.hid hz0; have HZ1 := Lib.hid hz1; have HZ2 := Lib.hid hz2
  have HJ := Lib.hid hi1; have HY0 := Lib.hid hy0; have HY1 := Lib.hid hy1; have HY2 := Lib.hid hy2
  have HW := Lib.hid ((hW.al (.cells #[.slice (some ⟨b, 0, none⟩) 2 2, .slice none 0 0] 70)).al (.cells #[.int .i64 1, .int .i64 0] 23))
  have c0 : ((w.alloc (.cells #[.slice (some ⟨b, 0, none⟩) 2 2, .slice none 0 0] 70)).alloc (.cells #[.int .i64 1, .int .i64 0] 23)).cell? ⟨w.heap.size, 0, none⟩ = some (.slice (some ⟨b, 0, none⟩) 2 2) := by simp
  have c1 : ((w.alloc (.cells #[.slice (some ⟨b, 0, none⟩) 2 2, .slice none 0 0] 70)).alloc (.cells #[.int .i64 1, .int .i64 0] 23)).cell? ⟨w.heap.size, 1, none⟩ = some (.slice none 0 0) := by simp
  have c2 : ((w.alloc (.cells #[.slice (some ⟨b, 0, none⟩) 2 2, .slice none 0 0] 70)).alloc (.cells #[.int .i64 1, .int .i64 0] 23)).cell? ⟨w.heap.size + 1, 0, none⟩ = some (.int .i64 1) := by simp
  have c3 : ((w.alloc (.cells #[.slice (some ⟨b, 0, none⟩) 2 2, .slice none 0 0] 70)).alloc (.cells #[.int .i64 1, .int .i64 0] 23)).cell? ⟨w.heap.size + 1, 1, none⟩ = some (.int .i64 0) := by simp
  have C0 := Lib.hid c0; have C1 := Lib.hid c1; have C2 := Lib.hid c2; have C3 := Lib.hid c3
  have CC := Lib.hid (fun W (h : VW w b W) => check_md5 b W ⟨h.rules, h.tab, Below.refl _ _⟩)
  have CT := Lib.hid (fun W (h : VW w b W) => turns_md5 b W ⟨h.rules, h.tab, Below.refl _ _⟩)
  have CD := Lib.hid (fun W d x hd (h : VW w b W) => decisive_md5 b d x hd W ⟨h.rules, h.tab, Below.refl _ _⟩)
  clear hW c0 c1 c2 c3 hi hz0 hz1 hz2 hi1 hy0 hy1 hy2
  go_enter Tryd.func81, Tryd.ntmps81
  go_wp2_with fail
  generalize ((w.alloc (.cells #[.slice (some ⟨b, 0, none⟩) 2 2, .slice none 0 0] 70)).alloc (.cells #[.int .i64 1, .int .i64 0] 23)) = W0 at *
  refine (CC.out _ HW.out).mono ?_
  rintro e w1 ⟨rfl, hb1⟩
  have c0 := cell_later' hb1 C0.out
  have c1 := cell_later' hb1 C1.out
  have c2 := cell_later' hb1 C2.out
  have c3 := cell_later' hb1 C3.out
  have HW1 := Lib.hid (HW.out.step hb1)
  have C0' := Lib.hid c0; have C1' := Lib.hid c1; have C2' := Lib.hid c2; have C3' := Lib.hid c3
  clear hb1 HW C0 C1 C2 C3 CC
  go_wp2_with fail
  refine (CT.out _ HW1.out).mono ?_
  rintro e w2 ⟨g2, cap2, rfl, ho2, hb2⟩
  have HW2 := Lib.hid (HW1.out.step hb2)
  clear c0 c1 c2 c3
  have hw1 : w1.heap.size ≤ w2.heap.size := hb2.size
  have HO := Lib.hid (ho2.alloc (.cells #[.int .i64 40001] 3))
  have HNW := Lib.hid (World.news_of_block (cs := #[.int .i64 40001]) (t := 3) (fr := (0, 0)) (heap_alloc_new w2 (.cells #[.int .i64 40001] 3)))
  have HL1 := Lib.hid (vj_one [40001])
  have HB2 := Lib.hid hb2
  clear hb2 ho2
  have tok1 : True := trivial
  go_wp2_with (at_builtin; have _t := tok1; refine wpList_append_own _ rfl _ _ 40 rfl w1.heap.size 3 i0 (.int .i64 0) 1 8 (by kernel_rfl) HI.out HZ0.out HZ1.out HZ2.out rfl (by decide) _ _ _ rfl HO.out ⟨w2.heap.size, 0, none⟩ 1 1 [.int .i64 40001] rfl rfl HNW.out HL1.out (by unfold maxLen; omega) (by omega) (by simp; omega) ?_; intro v' W5 hown' hgrow hni; clear hni; obtain ⟨g3, cap3, hv3⟩ := own_slice3 hown'; subst hv3; have HOW := Lib.hid hown'; have HGR := Lib.hid hgrow; clear hown' hgrow tok1)
  have hb5 : Below w1.heap.size w1 W5 := (HB2.out.alloc hw1 _).grown HGR.out (by simp; omega) (fun q hq => by cases hq; exact (HO.out.lt g2 rfl).1)
  obtain ⟨hd0, hd1, hd2⟩ : W5.cell? ⟨g3, 0, none⟩ = some (.int .i64 0) ∧ W5.cell? ⟨g3, 1, none⟩ = some (.int .i64 9) ∧ W5.cell? ⟨g3, 2, none⟩ = some (.int .i64 40001) := by
    have ho := HOW.out
    exact ⟨by rw [ho.cellAt 0 (by omega)]; rfl, by rw [ho.cellAt 1 (by omega)]; rfl, by rw [ho.cellAt 2 (by omega)]; rfl⟩
  have hS : SpW w w.heap.size b g3 W5 := ⟨HW1.out.step hb5, ⟨⟨cell_later' hb5 C0'.out, cell_later' hb5 C1'.out⟩, cell_later' hb5 C2'.out, cell_later' hb5 C3'.out⟩, hd0, hd1, hd2⟩
  have HS := Lib.hid hS
  clear hS hd0 hd1 hd2 hb5 HOW HGR HO HNW HL1 HB2 hw1 C0' C1' C2' C3' HW1 HW2 CT
  go_wp2_with fail
  generalize hB : w.heap.size = B at *
  have HB := Lib.hid hB; clear hB
  go_loopw [9, 11, 12, 13, 14, 29] (fun lv _ _ _ _ iv wr => SRel w B b g3 lv iv wr) (fun _ _ _ _ _ iv _ => 2 - (intOf iv).toNat)
  case atStart => exact ⟨HS.out, .inl ⟨rfl, rfl⟩⟩
  case round =>
    clear HS
    obtain ⟨hS, hR⟩ := hrel
    obtain ⟨⟨a0, a1, a2, a3, a4, a5⟩, b0, b1, b2, b3, b4, b5⟩ := hS.vw.rules
    obtain ⟨⟨p0, p1⟩, p2, p3⟩ := hS.box
    obtain ⟨d0, d1, d2⟩ := hS.days
    have hal : Below wr.heap.size wr (wr.alloc (.cells #[.int .i64 0, .int .i64 0] 118)) := (Below.refl _ _).alloc (Nat.le_refl _) _
    obtain ⟨e0, e1, e2⟩ := (hS.step hal).days
    have hal2 := ((Below.refl wr.heap.size wr).alloc (Nat.le_refl _) (.cells #[.int .i64 0, .int .i64 0] 118)).drew
    obtain ⟨f0, f1, f2⟩ := (hS.step hal2).days
    clear hal hal2
    have HS := Lib.hid hS
    clear hS
    rcases hR with ⟨rfl, rfl⟩ | ⟨g, cap, k, rfl, rfl, rfl | rfl, ho⟩
    · go_wp2_with fail
      go_region
      have hb6 := ((Below.refl wr.heap.size wr).alloc (Nat.le_refl _) (.cells #[.int .i64 0, .int .i64 9] 118)).drew
      have hS6 := HS.out.step hb6
      have q0 : (wr.alloc (.cells #[.int .i64 0, .int .i64 9] 118)).drew.cell? ⟨wr.heap.size, 0, none⟩ = some (.int .i64 0) := by simp
      have q1 : (wr.alloc (.cells #[.int .i64 0, .int .i64 9] 118)).drew.cell? ⟨wr.heap.size, 1, none⟩ = some (.int .i64 9) := by simp
      generalize (wr.alloc (.cells #[.int .i64 0, .int .i64 9] 118)).drew = W6 at *
      generalize wr.heap.size = S at *
      clear a0 a1 a2 a3 a4 a5 b0 b1 b2 b3 b4 b5 p0 p1 p2 p3 d0 d1 d2 e0 e1 e2 f0 f1 f2 HS hb6
      obtain ⟨⟨p0, p1⟩, p2, p3⟩ := hS6.box
      have HS6 := Lib.hid hS6; clear hS6
      have HQ0 := Lib.hid q0; have HQ1 := Lib.hid q1
      go_wp2_with fail
      refine (CD.out _ 0 1 (.inl ⟨rfl, rfl⟩) HS6.out.vw).mono ?_
      rintro e w7 ⟨rfl, hb7⟩
      have hS7 := HS6.out.step hb7
      have q0 := cell_later' hb7 HQ0.out
      have q1 := cell_later' hb7 HQ1.out
      obtain ⟨⟨a0, a1, a2, a3, a4, a5⟩, b0, b1, b2, b3, b4, b5⟩ := hS7.vw.rules
      clear p0 p1 p2 p3
      obtain ⟨⟨p0, p1⟩, p2, p3⟩ := hS7.box
      have HS7 := Lib.hid hS7
      clear hS7 hb7 HQ0 HQ1 HS6
      go_wp2_with fail
      go_quiet (fail)
      have hb8 := below_drewN (Below.refl w7.heap.size w7) nq
      have hS8 := HS7.out.step hb8
      have r0 := cell_later' hb8 q0
      have r1 := cell_later' hb8 q1
      have R0 := Lib.hid r0; have R1 := Lib.hid r1; have HS8 := Lib.hid hS8
      clear hb8 r0 r1 hS8 q0 q1
      generalize w7.drewN nq = w8 at *
      have q0 := R0.out
      have q1 := R1.out
      clear a0 a1 a2 a3 a4 a5 b0 b1 b2 b3 b4 b5 p0 p1 p2 p3 HS7
      have HO := Lib.hid ((World.ownsRow_nil w8 B 118 2).alloc (.cells #[.int .i64 0, .int .i64 9] 118))
      have HNW := Lib.hid (World.news_of_block (cs := #[.int .i64 0, .int .i64 9]) (t := 118) (fr := (0, 0)) (heap_alloc_new w8 (.cells #[.int .i64 0, .int .i64 9] 118)))
      have HL1 := Lib.hid (vj_one [0, 9])
      have hsz : B ≤ w8.heap.size := by have := HS8.out.vw.below.size; rw [HB.out] at this; exact this
      have tok1 : True := trivial
      go_wp2_with (at_builtin; have _t := tok1; refine wpList_append_own _ rfl _ _ 112 rfl B 118 i1 (.agg #[.int .i64 0, .int .i64 0]) 2 16 (by kernel_rfl) HJ.out HY0.out HY1.out HY2.out rfl (by decide) _ _ _ rfl HO.out ⟨w8.heap.size, 0, none⟩ 1 1 [.int .i64 0, .int .i64 9] rfl rfl HNW.out HL1.out (by unfold maxLen; omega) (by omega) (by simp; omega) ?_; intro v' W9 hown' hgrow hni; clear hni; obtain ⟨g9, cap9, hv9⟩ := own_slice1 hown'; subst hv9; have HOW := Lib.hid hown'; have HGR := Lib.hid hgrow; clear hown' hgrow tok1)
      go_roundw
      case rel =>
        have hb9 : Below w8.heap.size w8 W9 := ((Below.refl _ _).alloc (Nat.le_refl _) _).grown HGR.out (by simp) (fun q hq => by cases hq)
        exact ⟨HS8.out.step hb9, .inr ⟨g9, cap9, 1, rfl, by go_num, .inl rfl, by rw [HB.out]; exact HOW.out⟩⟩
      case measure => simp [intOf]
    · have HO := Lib.hid ho; clear ho
      go_wp2_with fail
      go_region
      have hb6 := ((Below.refl wr.heap.size wr).alloc (Nat.le_refl _) (.cells #[.int .i64 9, .int .i64 40001] 118)).drew
      have hS6 := HS.out.step hb6
      have ho6 := own_below HO.out hb6
      have q0 : (wr.alloc (.cells #[.int .i64 9, .int .i64 40001] 118)).drew.cell? ⟨wr.heap.size, 0, none⟩ = some (.int .i64 9) := by simp
      have q1 : (wr.alloc (.cells #[.int .i64 9, .int .i64 40001] 118)).drew.cell? ⟨wr.heap.size, 1, none⟩ = some (.int .i64 40001) := by simp
      have HO6 := Lib.hid ho6
      clear ho6 HO
      generalize (wr.alloc (.cells #[.int .i64 9, .int .i64 40001] 118)).drew = W6 at *
      generalize wr.heap.size = S at *
      clear a0 a1 a2 a3 a4 a5 b0 b1 b2 b3 b4 b5 p0 p1 p2 p3 d0 d1 d2 e0 e1 e2 f0 f1 f2 HS hb6
      obtain ⟨⟨p0, p1⟩, p2, p3⟩ := hS6.box
      have HS6 := Lib.hid hS6; clear hS6
      have HQ0 := Lib.hid q0; have HQ1 := Lib.hid q1
      go_wp2_with fail
      refine (CD.out _ 9 0 (.inr ⟨rfl, rfl⟩) HS6.out.vw).mono ?_
      rintro e w7 ⟨rfl, hb7⟩
      have hS7 := HS6.out.step hb7
      have ho7 := own_below HO6.out hb7
      have q0 := cell_later' hb7 HQ0.out
      have q1 := cell_later' hb7 HQ1.out
      obtain ⟨⟨a0, a1, a2, a3, a4, a5⟩, b0, b1, b2, b3, b4, b5⟩ := hS7.vw.rules
      clear p0 p1 p2 p3
      obtain ⟨⟨p0, p1⟩, p2, p3⟩ := hS7.box
      have HS7 := Lib.hid hS7; have HO7 := Lib.hid ho7
      clear hS7 hb7 HQ0 HQ1 HS6 ho7 HO6
      go_wp2_with fail
      go_roundw
      case rel => exact ⟨HS7.out, .inr ⟨g, cap, 2, rfl, by go_num, .inr rfl, HO7.out⟩⟩
      case measure => simp [intOf]
    · have HO := Lib.hid ho; clear ho
      go_wp2_with fail
      exact bodyPost_ret (v := .tuple #[.slice (some ⟨g, 0, none⟩) 1 cap, .int .i64 0]) (by simp [results, Tryd.results81, go_sem]) rfl ⟨g, cap, rfl, by have := HO.out; rwa [HB.out] at *, HS.out.vw.below⟩
end Go.Proofs.YtdhochjcigingaaDoor
