/- verdict.matches and decisive at the sanity check's two rules; rule.Check of them. -/
import Derived.Test.YtdhochjcigingaaDoorVkV
namespace Go.Proofs.YtdhochjcigingaaDoor
open Go.RowKit
set_option linter.all false

/-- A rule's cells. -/
def ruC (al : Bool) (al1 be pu fr to : Int) : List Value := [.bool al, .int .i64 al1, .int .i64 be, .int .i64 pu, .int .i64 fr, .int .i64 to]

set_option maxRecDepth 100000 in
set_option maxHeartbeats 1000000 in
theorem matches_md5 (al : Bool) (to d : Int) (w : World) : Calls Tryd.prog 114 #[.agg #[.bool al, .int .i64 1, .int .i64 0, .int .i64 0, .int .i64 0, .int .i64 to], .agg #[.int .i64 1, .int .i64 0], .int .i64 1, .int .i64 d] w (BoolP (decide (0 ≤ d) && decide (d < to)) w) := by
  have hb : Below w.heap.size w ((w.alloc (.cells #[.bool al, .int .i64 1, .int .i64 0, .int .i64 0, .int .i64 0, .int .i64 to] 111)).alloc (.cells #[.int .i64 1, .int .i64 0] 23)) := ((Below.refl _ _).alloc (Nat.le_refl _) _).alloc (by simp) _
  have HB := Lib.hid hb; clear hb
  by_cases h0 : 0 ≤ d
  · by_cases h1 : d < to
    · have d0 : decide (0 ≤ d) = true := decide_eq_true h0
      have d1 : decide (d < to) = true := decide_eq_true h1
      rw [show (decide (0 ≤ d) && decide (d < to)) = true from by rw [d0, d1]; rfl]
      go_enter Tryd.func114, Tryd.ntmps114
      go_wp2_with fail
      go_ret
      exact ⟨rfl, HB.out⟩
    · have d0 : decide (0 ≤ d) = true := decide_eq_true h0
      have d1 : decide (d < to) = false := decide_eq_false h1
      rw [show (decide (0 ≤ d) && decide (d < to)) = false from by rw [d0, d1]; rfl]
      go_enter Tryd.func114, Tryd.ntmps114
      go_wp2_with fail
      go_ret
      exact ⟨rfl, HB.out⟩
  · have d0 : decide (0 ≤ d) = false := decide_eq_false h0
    go_enter Tryd.func114, Tryd.ntmps114
    go_wp2_with fail
    go_ret
    exact ⟨rfl, HB.out⟩

set_option maxRecDepth 100000 in
set_option maxHeartbeats 1000000 in
theorem norule_md5 (al : Bool) (to : Int) (h0 : 0 < to) (h1 : to ≤ 40001) (w : World) : Calls Tryd.prog 130 #[.agg #[.bool al, .int .i64 1, .int .i64 0, .int .i64 0, .int .i64 0, .int .i64 to]] w (BoolP false w) := by
  have hb : Below w.heap.size w (w.alloc (.cells #[.bool al, .int .i64 1, .int .i64 0, .int .i64 0, .int .i64 0, .int .i64 to] 111)) := ((Below.refl _ _).alloc (Nat.le_refl _) _)
  have HB := Lib.hid hb; clear hb
  have n0 : ¬ to ≤ 0 := by omega
  have n1 : ¬ 40001 < to := by omega
  go_enter Tryd.func130, Tryd.ntmps130
  go_wp2_with fail
  go_ret
  exact ⟨rfl, HB.out⟩

/-- The two rules' cells. -/
def RulesAt (W : World) (b : Nat) : Prop :=
  (W.cell? ⟨b, 0, none⟩ = some (.bool false) ∧ W.cell? ⟨b, 1, none⟩ = some (.int .i64 1) ∧ W.cell? ⟨b, 2, none⟩ = some (.int .i64 0) ∧ W.cell? ⟨b, 3, none⟩ = some (.int .i64 0) ∧ W.cell? ⟨b, 4, none⟩ = some (.int .i64 0) ∧ W.cell? ⟨b, 5, none⟩ = some (.int .i64 40001)) ∧
  (W.cell? ⟨b, 6, none⟩ = some (.bool true) ∧ W.cell? ⟨b, 7, none⟩ = some (.int .i64 1) ∧ W.cell? ⟨b, 8, none⟩ = some (.int .i64 0) ∧ W.cell? ⟨b, 9, none⟩ = some (.int .i64 0) ∧ W.cell? ⟨b, 10, none⟩ = some (.int .i64 0) ∧ W.cell? ⟨b, 11, none⟩ = some (.int .i64 9))
theorem RulesAt.step {W W' : World} {b : Nat} (h : RulesAt W b) (hb : Below W.heap.size W W') : RulesAt W' b := by
  obtain ⟨⟨a0, a1, a2, a3, a4, a5⟩, b0, b1, b2, b3, b4, b5⟩ := h
  exact ⟨⟨cell_later' hb a0, cell_later' hb a1, cell_later' hb a2, cell_later' hb a3, cell_later' hb a4, cell_later' hb a5⟩, cell_later' hb b0, cell_later' hb b1, cell_later' hb b2, cell_later' hb b3, cell_later' hb b4, cell_later' hb b5⟩
theorem RulesAt.al {W : World} {b : Nat} (h : RulesAt W b) (o : Obj) : RulesAt (W.alloc o) b := h.step ((Below.refl _ _).alloc (Nat.le_refl _) _)

/-- The check's world: the table, the rules at b. -/
structure VW (w : World) (b : Nat) (W : World) : Prop where
  rules : RulesAt W b
  tab : TabA W
  below : Below w.heap.size w W
theorem VW.step {w W W' : World} {b : Nat} (h : VW w b W) (hb : Below W.heap.size W W') : VW w b W' := ⟨h.rules.step hb, h.tab.step hb, h.below.trans (hb.mono h.below.size)⟩
theorem VW.al {w W : World} {b : Nat} (h : VW w b W) (o : Obj) : VW w b (W.alloc o) := h.step ((Below.refl _ _).alloc (Nat.le_refl _) _)

def DRel (w : World) (B b : Nat) (d : Int) (iv : Value) (wr : World) : Prop := ∃ k : Nat, iv = .int .i64 (k : Int) ∧ k ≤ 1 ∧ (k = 0 → d = 9) ∧ VW w b wr ∧ wr.cell? ⟨B, 0, none⟩ = some (.slice (some ⟨b, 0, none⟩) 2 2) ∧ wr.cell? ⟨B + 1, 0, none⟩ = some (.int .i64 1) ∧ wr.cell? ⟨B + 1, 1, none⟩ = some (.int .i64 0)

set_option maxRecDepth 100000 in
set_option maxHeartbeats 2000000 in
theorem decisive_md5 (b : Nat) (d x : Int) (hd : (d = 0 ∧ x = 1) ∨ (d = 9 ∧ x = 0)) (w : World) (hW : VW w b w) : Calls Tryd.prog 98 #[.agg #[.slice (some ⟨b, 0, none⟩) 2 2, .slice none 0 0], .agg #[.int .i64 1, .int .i64 0], .int .i64 1, .int .i64 d] w (IntP x w) := by
  have HW := Lib.hid ((hW.al (.cells #[.slice (some ⟨b, 0, none⟩) 2 2, .slice none 0 0] 70)).al (.cells #[.int .i64 1, .int .i64 0] 23))
  have c0 : ((w.alloc (.cells #[.slice (some ⟨b, 0, none⟩) 2 2, .slice none 0 0] 70)).alloc (.cells #[.int .i64 1, .int .i64 0] 23)).cell? ⟨w.heap.size, 0, none⟩ = some (.slice (some ⟨b, 0, none⟩) 2 2) := by simp
  have c1 : ((w.alloc (.cells #[.slice (some ⟨b, 0, none⟩) 2 2, .slice none 0 0] 70)).alloc (.cells #[.int .i64 1, .int .i64 0] 23)).cell? ⟨w.heap.size + 1, 0, none⟩ = some (.int .i64 1) := by simp
  have c2 : ((w.alloc (.cells #[.slice (some ⟨b, 0, none⟩) 2 2, .slice none 0 0] 70)).alloc (.cells #[.int .i64 1, .int .i64 0] 23)).cell? ⟨w.heap.size + 1, 1, none⟩ = some (.int .i64 0) := by simp
  have C0 := Lib.hid c0; have C1 := Lib.hid c1; have C2 := Lib.hid c2; have HD := Lib.hid hd
  clear hW c0 c1 c2 hd
  go_enter Tryd.func98, Tryd.ntmps98
  go_wp2_with fail
  generalize ((w.alloc (.cells #[.slice (some ⟨b, 0, none⟩) 2 2, .slice none 0 0] 70)).alloc (.cells #[.int .i64 1, .int .i64 0] 23)) = W0 at *
  generalize hB : w.heap.size = B at *
  have HB := Lib.hid hB; clear hB
  go_loopw [9] (fun iv wr => DRel w B b d iv wr) (fun iv _ => (intOf iv).toNat)
  case atStart => exact ⟨1, rfl, Nat.le_refl _, by omega, HW.out, C0.out, C1.out, C2.out⟩
  case round =>
    clear HW C0 C1 C2
    obtain ⟨k, rfl, hk, hk0, hV, p0, p1, p2⟩ := hrel
    obtain ⟨⟨a0, a1, a2, a3, a4, a5⟩, b0, b1, b2, b3, b4, b5⟩ := hV.rules
    have HV := Lib.hid hV
    have P0 := Lib.hid p0; have P1 := Lib.hid p1; have P2 := Lib.hid p2
    clear hV
    rcases Nat.eq_zero_or_pos k with h0 | h0
    · subst h0
      obtain rfl := hk0 rfl
      obtain rfl : x = 0 := by have := HD.out; omega
      have cM := fun W => matches_md5 false 40001 9 W
      rw [show (decide ((0 : Int) ≤ 9) && decide ((9 : Int) < 40001)) = true from by decide] at cM
      have CM := Lib.hid cM; clear cM hk hk0
      go_wp2_with fail
      go_region_with (go_at_call 114; refine (CM.out _).mono ?_; rintro e w1 ⟨rfl, hb1⟩; have HB1 := Lib.hid (((Below.refl wr.heap.size wr).drew).trans hb1); clear hb1)
      all_goals go_wp2_with fail
      all_goals go_ret
      all_goals exact ⟨rfl, HV.out.below.trans (HB1.out.mono HV.out.below.size)⟩
    · obtain rfl : k = 1 := by omega
      rcases HD.out with ⟨rfl, rfl⟩ | ⟨rfl, rfl⟩
      · have cM := fun W => matches_md5 true 9 0 W
        rw [show (decide ((0 : Int) ≤ 0) && decide ((0 : Int) < 9)) = true from by decide] at cM
        have CM := Lib.hid cM; clear cM hk hk0 h0
        go_wp2_with fail
        go_region_with (go_at_call 114; refine (CM.out _).mono ?_; rintro e w1 ⟨rfl, hb1⟩; have HB1 := Lib.hid (((Below.refl wr.heap.size wr).drew).trans hb1); clear hb1)
        all_goals go_wp2_with fail
        all_goals go_ret
        all_goals exact ⟨rfl, HV.out.below.trans (HB1.out.mono HV.out.below.size)⟩
      · have cM := fun W => matches_md5 true 9 9 W
        rw [show (decide ((0 : Int) ≤ 9) && decide ((9 : Int) < 9)) = false from by decide] at cM
        have CM := Lib.hid cM; clear cM hk hk0 h0
        go_wp2_with fail
        go_region_with (go_at_call 114; refine (CM.out _).mono ?_; rintro e w1 ⟨rfl, hb1⟩; have HB1 := Lib.hid (((Below.refl wr.heap.size wr).drew).trans hb1); clear hb1)
        all_goals go_wp2_with fail
        all_goals go_roundw
        all_goals first
          | exact ⟨0, by go_num, by omega, fun _ => rfl, HV.out.step HB1.out, cell_later' HB1.out P0.out, cell_later' HB1.out P1.out, cell_later' HB1.out P2.out⟩
          | (simp [intOf]; done)
end Go.Proofs.YtdhochjcigingaaDoor
