/- window: isTeam, hasNoDays. -/
import Derived.Test.YtnconhbambhhgaaDice
namespace Go.Proofs.Ytnconhbambhhgaa
open Go.RowKit
set_option linter.all false

/-- A calendar: windows, teams, rooms. -/
def isT (n : Nat) (t : Int) : Bool := decide (0 ≤ t) && decide (t < (n : Int))

set_option maxRecDepth 100000 in
set_option maxHeartbeats 1000000 in
theorem isTeam_any (p q r : Option Addr) (n1 c1 n2 c2 n c : Nat) (t : Int) (w : World) : Calls Try.prog 65 #[.agg #[.slice p n1 c1, .slice q n2 c2, .slice r n c], .int .i64 t] w (BoolP (isT n t) w) := by
  have hb := (Below.refl w.heap.size w).alloc (Nat.le_refl _) (.cells #[.slice p n1 c1, .slice q n2 c2, .slice r n c] 38)
  have HB := Lib.hid hb; clear hb
  by_cases h0 : 0 ≤ t
  · by_cases h1 : t < (n : Int)
    · rw [show isT n t = true from by unfold isT; rw [decide_eq_true h0, decide_eq_true h1]; rfl]
      go_enter Try.func65, Try.ntmps65
      go_wp2_with fail
      go_ret
      exact ⟨rfl, HB.out⟩
    · rw [show isT n t = false from by unfold isT; rw [decide_eq_true h0, decide_eq_false h1]; rfl]
      go_enter Try.func65, Try.ntmps65
      go_wp2_with fail
      go_ret
      exact ⟨rfl, HB.out⟩
  · rw [show isT n t = false from by unfold isT; rw [decide_eq_false h0]; rfl]
    go_enter Try.func65, Try.ntmps65
    go_wp2_with fail
    go_ret
    exact ⟨rfl, HB.out⟩

/-- A window's days are days. -/
def noDays (f t : Int) : Bool := decide (f < 0) || decide (t ≤ f) || decide (40001 < t)
set_option maxRecDepth 100000 in
set_option maxHeartbeats 1000000 in
theorem noDays_any (p : Option Addr) (n c : Nat) (f t : Int) (w : World) : Calls Try.prog 52 #[.agg #[.int .i64 f, .int .i64 t, .slice p n c]] w (BoolP (noDays f t) w) := by
  have hb := (Below.refl w.heap.size w).alloc (Nat.le_refl _) (.cells #[.int .i64 f, .int .i64 t, .slice p n c] 77)
  have HB := Lib.hid hb; clear hb
  by_cases h0 : f < 0
  · rw [show noDays f t = true from by unfold noDays; rw [decide_eq_true h0]; rfl]
    go_enter Try.func52, Try.ntmps52
    go_wp2_with fail
    go_ret
    exact ⟨rfl, HB.out⟩
  · by_cases h1 : t ≤ f
    · rw [show noDays f t = true from by unfold noDays; rw [decide_eq_false h0, decide_eq_true h1]; rfl]
      go_enter Try.func52, Try.ntmps52
      go_wp2_with fail
      go_ret
      exact ⟨rfl, HB.out⟩
    · by_cases h2 : 40001 < t
      · rw [show noDays f t = true from by unfold noDays; rw [decide_eq_false h0, decide_eq_false h1, decide_eq_true h2]; rfl]
        go_enter Try.func52, Try.ntmps52
        go_wp2_with fail
        go_ret
        exact ⟨rfl, HB.out⟩
      · rw [show noDays f t = false from by unfold noDays; rw [decide_eq_false h0, decide_eq_false h1, decide_eq_false h2]; rfl]
        go_enter Try.func52, Try.ntmps52
        go_wp2_with fail
        go_ret
        exact ⟨rfl, HB.out⟩

/-- A row of numbers whose cells lie below, read by the closure of areTeams: the calendar's box at g. -/
def TeamsAt (W : World) (p : Option Addr) (L : List Int) : Prop := ∀ j, j < L.length → ∃ b o, p = some ⟨b, o, none⟩ ∧ W.cell? ⟨b, o + j, none⟩ = some (.int .i64 (L.getD j 0))
theorem TeamsAt.step {W W' : World} {p : Option Addr} {L : List Int} (h : TeamsAt W p L) (hb : Below W.heap.size W W') : TeamsAt W' p L := fun j hj => by
  obtain ⟨b, o, hp, hc⟩ := h j hj
  exact ⟨b, o, hp, cell_later' hb hc⟩
/-- A calendar in its box. -/
structure CalBox (g : Nat) (p q r : Option Addr) (n1 c1 n2 c2 n c : Nat) (W : World) : Prop where
  c0 : W.cell? ⟨g, 0, none⟩ = some (.slice p n1 c1)
  c1 : W.cell? ⟨g, 1, none⟩ = some (.slice q n2 c2)
  c2 : W.cell? ⟨g, 2, none⟩ = some (.slice r n c)
theorem CalBox.step {g : Nat} {p q r : Option Addr} {n1 c1 n2 c2 n c : Nat} {W W' : World} (h : CalBox g p q r n1 c1 n2 c2 n c W) (hb : Below W.heap.size W W') : CalBox g p q r n1 c1 n2 c2 n c W' :=
  ⟨cell_later' hb h.c0, cell_later' hb h.c1, cell_later' hb h.c2⟩

theorem notTeam_any (g : Nat) (p q r : Option Addr) (n1 c1 n2 c2 n c : Nat) (t : Int) (w : World) (h : CalBox g p q r n1 c1 n2 c2 n c w) : Calls Try.prog 64 #[.int .i64 t, .pointer (some ⟨g, 0, none⟩)] w (BoolP (!isT n t) w) := by
  obtain ⟨h0, h1, h2⟩ := h
  have cT := isTeam_any p q r n1 c1 n2 c2 n c t w
  generalize isT n t = x at *
  have CT := Lib.hid cT; clear cT
  go_enter Try.func64, Try.ntmps64
  go_wp2_with fail
  refine (CT.out).mono ?_
  rintro e w1 ⟨rfl, hb1⟩
  go_wp2_with fail
  go_ret
  exact ⟨rfl, hb1⟩

def NtRel (w : World) (m : Nat) (L : List Int) (iv : Value) (wr : World) : Prop := ∃ k : Nat, iv = .int .i64 (k : Int) ∧ k ≤ L.length ∧ (∀ j, j < k → isT m (L.getD j 0) = true) ∧ Below w.heap.size w wr

set_option maxRecDepth 100000 in
set_option maxHeartbeats 2000000 in
theorem noTeams_index (g : Nat) (p q r a : Option Addr) (n1 c1 n2 c2 n c cc : Nat) (L : List Int) (w : World) (hl : L.length ≤ 1000) (h : CalBox g p q r n1 c1 n2 c2 n c w) (hL : TeamsAt w a L) (hall : L.all (isT n) = true) :
    Calls Try.prog 66 #[.slice a L.length cc, .func (.func 64) #[] #[.pointer (some ⟨g, 0, none⟩)]] w (IntP (-1) w) := by
  have CN := Lib.hid (fun t W (h : CalBox g p q r n1 c1 n2 c2 n c W) => notTeam_any g p q r n1 c1 n2 c2 n c t W h)
  have HB := Lib.hid h; have HL := Lib.hid hL
  have hal : ∀ j, j < L.length → isT n (L.getD j 0) = true := fun j hj => by
    rw [List.getD, List.getElem?_eq_getElem hj]
    exact List.all_eq_true.1 hall _ (List.getElem_mem hj)
  have HA := Lib.hid hal
  obtain ⟨N, hN⟩ : ∃ N, L.length = N := ⟨_, rfl⟩
  have HN := Lib.hid hN
  rw [hN] at hl ⊢
  clear h hL hall hal hN
  go_enter Try.func66, Try.ntmps66
  go_wp2_with fail
  go_loopw [5, 8] (fun _ iv wr => NtRel w n L iv wr) (fun _ iv _ => N - (intOf iv).toNat)
  case atStart => exact ⟨0, rfl, Nat.zero_le _, fun j hj => absurd hj (by omega), Below.refl _ _⟩
  case round =>
    obtain ⟨k, rfl, hk, hj, hb⟩ := hrel
    rw [HN.out] at hk
    by_cases hlt : k < N
    · obtain ⟨b, o, hp, hc⟩ := HL.out k (by rw [HN.out]; exact hlt)
      subst hp
      have hc := cell_later' hb hc
      have hi0 : (0 : Int) ≤ (k : Int) := by omega
      have hi2 : (k : Int) < (N : Int) := by omega
      have hd : decide (k < N) = true := decide_eq_true hlt
      have cN := CN.out (L.getD k 0) wr (HB.out.step hb)
      have hx := HA.out k (by rw [HN.out]; exact hlt)
      rw [hx] at cN
      generalize L.getD k 0 = x at *
      have CX := Lib.hid cN; have HBE := Lib.hid hb; have HJ := Lib.hid hj
      clear cN hb hj hx
      go_wp2_with fail
      refine (CX.out).mono ?_
      rintro e w1 ⟨rfl, hb1⟩
      have HB1 := Lib.hid (HBE.out.trans (hb1.mono HBE.out.size))
      clear hb1
      go_wp2_with fail
      go_roundw
      case rel => exact ⟨k + 1, by go_num, by rw [HN.out]; omega, fun j hj => HA.out j (by rw [HN.out]; omega), HB1.out⟩
      case measure => simp [intOf]; omega
    · have hk2 : k = N := by omega
      subst hk2
      have HBE := Lib.hid hb; clear hb hj
      go_wp2_with fail
      go_ret
      exact ⟨rfl, HBE.out⟩

theorem noTeams_has (g : Nat) (p q r a : Option Addr) (n1 c1 n2 c2 n c cc : Nat) (L : List Int) (w : World) (hl : L.length ≤ 1000) (h : CalBox g p q r n1 c1 n2 c2 n c w) (hL : TeamsAt w a L) (hall : L.all (isT n) = true) :
    Calls Try.prog 49 #[.slice a L.length cc, .func (.func 64) #[] #[.pointer (some ⟨g, 0, none⟩)]] w (BoolP false w) := by
  have CI := Lib.hid (noTeams_index g p q r a n1 c1 n2 c2 n c cc L w hl h hL hall)
  clear h hL hall hl
  go_enter Try.func49, Try.ntmps49
  go_wp2_with fail
  refine (CI.out).mono ?_
  rintro e w1 ⟨rfl, hb1⟩
  go_wp2_with fail
  go_ret
  exact ⟨rfl, hb1⟩

set_option maxHeartbeats 1000000 in
theorem areTeams_any (p q r a : Option Addr) (n1 c1 n2 c2 n c cc : Nat) (L : List Int) (w : World) (hl : L.length ≤ 1000) (hL : TeamsAt w a L) (hall : L.all (isT n) = true) :
    Calls Try.prog 47 #[.agg #[.slice p n1 c1, .slice q n2 c2, .slice r n c], .slice a L.length cc] w (BoolP true w) := by
  have hb0 := (Below.refl w.heap.size w).alloc (Nat.le_refl _) (.cells #[.slice p n1 c1, .slice q n2 c2, .slice r n c] 38)
  have hbox : CalBox w.heap.size p q r n1 c1 n2 c2 n c (w.alloc (.cells #[.slice p n1 c1, .slice q n2 c2, .slice r n c] 38)) := ⟨by simp, by simp, by simp⟩
  have CH := Lib.hid (noTeams_has w.heap.size p q r a n1 c1 n2 c2 n c cc L _ hl hbox (hL.step hb0) hall)
  clear hb0 hbox hL hall hl
  go_enter Try.func47, Try.ntmps47
  go_wp2_with fail
  refine (CH.out).mono ?_
  rintro e w1 ⟨rfl, hb1⟩
  go_wp2_with fail
  go_ret
  exact ⟨rfl, ((Below.refl _ _).alloc (Nat.le_refl _) _).trans (hb1.mono (by simp))⟩
end Go.Proofs.Ytnconhbambhhgaa
