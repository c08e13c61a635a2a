/- window: the tests of Check over rooms and windows, where all are good. -/
import Derived.Test.YtnconhbambhhgaaWnC
namespace Go.Proofs.Ytnconhbambhhgaa
open Go.RowKit
set_option linter.all false

def roomB (n : Int) : Bool := !(decide (n < 0) || decide (24 < n))
theorem noRoom_any (n : Int) (w : World) : Calls Try.prog 50 #[.int .i64 n] w (BoolP (!roomB n) w) := by
  by_cases h0 : n < 0
  · rw [show (!roomB n) = true from by unfold roomB; rw [decide_eq_true h0]; rfl]
    go_enter Try.func50, Try.ntmps50
    go_wp2_with fail
    go_ret
    exact ⟨rfl, Below.refl _ _⟩
  · by_cases h1 : 24 < n
    · rw [show (!roomB n) = true from by unfold roomB; rw [decide_eq_false h0, decide_eq_true h1]; rfl]
      go_enter Try.func50, Try.ntmps50
      go_wp2_with fail
      go_ret
      exact ⟨rfl, Below.refl _ _⟩
    · rw [show (!roomB n) = false from by unfold roomB; rw [decide_eq_false h0, decide_eq_false h1]; rfl]
      go_enter Try.func50, Try.ntmps50
      go_wp2_with fail
      go_ret
      exact ⟨rfl, Below.refl _ _⟩

def RmRel (w : World) (L : List Int) (iv : Value) (wr : World) : Prop := ∃ k : Nat, iv = .int .i64 (k : Int) ∧ k ≤ L.length ∧ (∀ j, j < k → roomB (L.getD j 0) = true) ∧ Below w.heap.size w wr

set_option maxRecDepth 100000 in
set_option maxHeartbeats 2000000 in
theorem rooms_index (a : Option Addr) (cc : Nat) (L : List Int) (w : World) (hl : L.length ≤ 1000) (hL : TeamsAt w a L) (hall : L.all roomB = true) :
    Calls Try.prog 66 #[.slice a L.length cc, .func (.func 50) #[] #[]] w (IntP (-1) w) := by
  have CN := Lib.hid (fun t W => noRoom_any t W)
  have HL := Lib.hid hL
  have hal : ∀ j, j < L.length → roomB (L.getD j 0) = true := fun j hj => by
    rw [List.getD, List.getElem?_eq_getElem hj]
    exact List.all_eq_true.1 hall _ (List.getElem_mem hj)
  have HA := Lib.hid hal
  obtain ⟨N, hN⟩ : ∃ N, L.length = N := ⟨_, rfl⟩
  have HN := Lib.hid hN
  rw [hN] at hl ⊢
  clear hL hall hal hN
  go_enter Try.func66, Try.ntmps66
  go_wp2_with fail
  go_loopw [5, 8] (fun _ iv wr => RmRel w L iv wr) (fun _ iv _ => N - (intOf iv).toNat)
  case atStart => exact ⟨0, rfl, Nat.zero_le _, fun j hj => absurd hj (by omega), Below.refl _ _⟩
  case round =>
    obtain ⟨k, rfl, hk, hj, hb⟩ := hrel
    rw [HN.out] at hk
    by_cases hlt : k < N
    · obtain ⟨b, o, hp, hc⟩ := HL.out k (by rw [HN.out]; exact hlt)
      subst hp
      have hc := cell_later' hb hc
      have hi0 : (0 : Int) ≤ (k : Int) := by omega
      have hi2 : (k : Int) < (N : Int) := by omega
      have hd : decide (k < N) = true := decide_eq_true hlt
      have cN := CN.out (L.getD k 0) wr
      have hx := HA.out k (by rw [HN.out]; exact hlt)
      rw [hx] at cN
      generalize L.getD k 0 = x at *
      have CX := Lib.hid cN; have HBE := Lib.hid hb; have HJ := Lib.hid hj
      clear cN hb hj hx
      go_wp2_with fail
      refine (CX.out).mono ?_
      rintro e w1 ⟨rfl, hb1⟩
      have HB1 := Lib.hid (HBE.out.trans (hb1.mono HBE.out.size))
      clear hb1
      go_wp2_with fail
      go_roundw
      case rel => exact ⟨k + 1, by go_num, by rw [HN.out]; omega, fun j hj => HA.out j (by rw [HN.out]; omega), HB1.out⟩
      case measure => simp [intOf]; omega
    · have hk2 : k = N := by omega
      subst hk2
      have HBE := Lib.hid hb; clear hb hj
      go_wp2_with fail
      go_ret
      exact ⟨rfl, HBE.out⟩

theorem rooms_has (a : Option Addr) (cc : Nat) (L : List Int) (w : World) (hl : L.length ≤ 1000) (hL : TeamsAt w a L) (hall : L.all roomB = true) :
    Calls Try.prog 49 #[.slice a L.length cc, .func (.func 50) #[] #[]] w (BoolP false w) := by
  have CI := Lib.hid (rooms_index a cc L w hl hL hall)
  clear hL hall hl
  go_enter Try.func49, Try.ntmps49
  go_wp2_with fail
  refine (CI.out).mono ?_
  rintro e w1 ⟨rfl, hb1⟩
  go_wp2_with fail
  go_ret
  exact ⟨rfl, hb1⟩


def WdRel (w : World) (L : List Win) (iv : Value) (wr : World) : Prop := ∃ k : Nat, iv = .int .i64 (k : Int) ∧ k ≤ L.length ∧ Below w.heap.size w wr

set_option maxRecDepth 100000 in
set_option maxHeartbeats 2000000 in
theorem noDaysIx (a : Option Addr) (cc : Nat) (L : List Win) (w : World) (hl : L.length ≤ 1000) (hL : WinsAt w a L) (hall : ∀ j, j < L.length → noDays (L.getD j win0).from_ (L.getD j win0).to_ = false) :
    Calls Try.prog 55 #[.slice a L.length cc, .func (.func 52) #[] #[]] w (IntP (-1) w) := by
  have HL := Lib.hid hL; have HALL := Lib.hid hall
  obtain ⟨N, hN⟩ : ∃ N, L.length = N := ⟨_, rfl⟩
  have HN := Lib.hid hN
  rw [hN] at hl ⊢
  clear hL hN hall
  go_enter Try.func55, Try.ntmps55
  go_wp2_with fail
  go_loopw [5, 8] (fun _ iv wr => WdRel w L iv wr) (fun _ iv _ => N - (intOf iv).toNat)
  case atStart => exact ⟨0, rfl, Nat.zero_le _, Below.refl _ _⟩
  case round =>
    obtain ⟨k, rfl, hk, hb⟩ := hrel
    rw [HN.out] at hk
    by_cases hlt : k < N
    · obtain ⟨b, o, hp, c0, c1, c2⟩ := HL.out k (by rw [HN.out]; exact hlt)
      subst hp
      have c0 := cell_later' hb c0
      have c1 := cell_later' hb c1
      have c2 := cell_later' hb c2
      have hi0 : (0 : Int) ≤ (k : Int) := by omega
      have hi2 : (k : Int) < (N : Int) := by omega
      have hdd : decide (k < N) = true := decide_eq_true hlt
      have cN := noDays_any (L.getD k win0).a (L.getD k win0).n (L.getD k win0).c (L.getD k win0).from_ (L.getD k win0).to_ wr
      have hx := HALL.out k (by rw [HN.out]; exact hlt)
      rw [hx] at cN
      clear hx
      generalize (L.getD k win0).from_ = f at *
      generalize (L.getD k win0).to_ = t at *
      generalize (L.getD k win0).a = a' at *
      generalize (L.getD k win0).n = n' at *
      generalize (L.getD k win0).c = c' at *
      have CX := Lib.hid cN; have HBE := Lib.hid hb
      clear cN hb
      go_wp2_with fail
      refine (CX.out).mono ?_
      rintro e w1 ⟨rfl, hb1⟩
      have HB1 := Lib.hid (HBE.out.trans (hb1.mono HBE.out.size))
      clear hb1
      go_wp2_with fail
      go_roundw
      case rel => exact ⟨k + 1, by go_num, by rw [HN.out]; omega, HB1.out⟩
      case measure => simp [intOf]; omega
    · have hk2 : k = N := by omega
      subst hk2
      have HBE := Lib.hid hb
      clear hb
      go_wp2_with fail
      go_ret
      exact ⟨rfl, HBE.out⟩

theorem noDaysHas (a : Option Addr) (cc : Nat) (L : List Win) (w : World) (hl : L.length ≤ 1000) (hL : WinsAt w a L) (hall : ∀ j, j < L.length → noDays (L.getD j win0).from_ (L.getD j win0).to_ = false) :
    Calls Try.prog 51 #[.slice a L.length cc, .func (.func 52) #[] #[]] w (BoolP false w) := by
  have CI := Lib.hid (noDaysIx a cc L w hl hL hall)
  clear hL hall hl
  go_enter Try.func51, Try.ntmps51
  go_wp2_with fail
  refine (CI.out).mono ?_
  rintro e w1 ⟨rfl, hb1⟩
  go_wp2_with fail
  go_ret
  exact ⟨rfl, hb1⟩
end Go.Proofs.Ytnconhbambhhgaa
