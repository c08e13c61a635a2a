/- packages: In; isVersion. -/
import Derived.Test.YtdhochjcigingaaDoorPkA
namespace Go.Proofs.YtdhochjcigingaaDoor
open Go.RowKit
set_option linter.all false

def inV (Lo Hi A : List Int) : Bool := (decide (Lo.length = 0) || decide (0 ≤ cmpV A Lo)) && (decide (Hi.length = 0) || decide (cmpV A Hi < 0))

def CmpB (v : Int) (w : World) (e : Ending) (w' : World) : Prop := e = .returned (.int .i64 v) ∧ w = w'

set_option maxHeartbeats 4000000 in
theorem in_any (pl ph p : Option Addr) (cl ch c : Nat) (Lo Hi A : List Int) (w : World) (hl : Lo.length ≤ 500) (hh : Hi.length ≤ 500) (ha : A.length ≤ 500) (hL : NumsAt w pl Lo) (hH : NumsAt w ph Hi) (hA : NumsAt w p A) :
    Calls Tryd.prog 41 #[.agg #[.slice pl Lo.length cl, .slice ph Hi.length ch], .slice p A.length c] w (BoolP (inV Lo Hi A) w) := by
  have hb := (Below.refl w.heap.size w).alloc (Nat.le_refl _) (.cells #[.slice pl Lo.length cl, .slice ph Hi.length ch] 53)
  have cL : ∀ W, Below w.heap.size w W → Calls Tryd.prog 39 #[.slice p A.length c, .slice pl Lo.length cl] W (CmpB (cmpV A Lo) W) := fun W hW => compare_q p pl c cl A Lo W ha hl (hA.step hW) (hL.step hW)
  have cH : ∀ W, Below w.heap.size w W → Calls Tryd.prog 39 #[.slice p A.length c, .slice ph Hi.length ch] W (CmpB (cmpV A Hi) W) := fun W hW => compare_q p ph c ch A Hi W ha hh (hA.step hW) (hH.step hW)
  unfold inV
  generalize cmpV A Lo = x at *
  generalize cmpV A Hi = y at *
  clear hL hH hA
  generalize A.length = a at *
  generalize Lo.length = l at *
  generalize Hi.length = h at *
  have CL := Lib.hid cL; have CH := Lib.hid cH; have HB := Lib.hid hb
  clear cL cH hb
  by_cases hl0 : l = 0
  · subst hl0
    by_cases hh0 : h = 0
    · subst hh0
      go_enter Tryd.func41, Tryd.ntmps41
      go_wp2_with fail
      go_ret
      exact ⟨rfl, HB.out⟩
    · have h1 : ((h : Int) == 0) = false := beq_eq_false_iff_ne.2 (by omega)
      rw [decide_eq_false hh0]
      obtain ⟨z, hz⟩ : ∃ z, decide (y < 0) = z := ⟨_, rfl⟩
      rw [hz]
      go_enter Tryd.func41, Tryd.ntmps41
      go_wp2_with fail
      refine (CH.out _ HB.out).mono ?_
      rintro e w' ⟨rfl, rfl⟩
      go_wp2_with fail
      go_ret
      exact ⟨rfl, HB.out⟩
  · have h1 : ((l : Int) == 0) = false := beq_eq_false_iff_ne.2 (by omega)
    rw [decide_eq_false hl0]
    by_cases hx : 0 ≤ x
    · have hd : decide (0 ≤ x) = true := decide_eq_true hx
      rw [hd]
      by_cases hh0 : h = 0
      · subst hh0
        go_enter Tryd.func41, Tryd.ntmps41
        go_wp2_with fail
        refine (CL.out _ HB.out).mono ?_
        rintro e w' ⟨rfl, rfl⟩
        go_wp2_with fail
        go_ret
        exact ⟨rfl, HB.out⟩
      · have h2 : ((h : Int) == 0) = false := beq_eq_false_iff_ne.2 (by omega)
        rw [decide_eq_false hh0]
        obtain ⟨z, hz⟩ : ∃ z, decide (y < 0) = z := ⟨_, rfl⟩
        rw [hz]
        go_enter Tryd.func41, Tryd.ntmps41
        go_wp2_with fail
        refine (CL.out _ HB.out).mono ?_
        rintro e w' ⟨rfl, rfl⟩
        go_wp2_with fail
        refine (CH.out _ HB.out).mono ?_
        rintro e w' ⟨rfl, rfl⟩
        go_wp2_with fail
        go_ret
        exact ⟨rfl, HB.out⟩
    · have hd : decide (0 ≤ x) = false := decide_eq_false hx
      rw [hd]
      go_enter Tryd.func41, Tryd.ntmps41
      go_wp2_with fail
      refine (CL.out _ HB.out).mono ?_
      rintro e w' ⟨rfl, rfl⟩
      go_wp2_with fail
      go_ret
      exact ⟨rfl, HB.out⟩

/-- The numbers of a version. -/
def numB (n : Int) : Bool := decide (0 ≤ n ∧ n ≤ 99999)
def verB (L : List Int) : Bool := L.all numB && decide (1 ≤ L.length ∧ L.length ≤ 4)

set_option maxHeartbeats 2000000 in
theorem isver_any (p : Option Addr) (c : Nat) (L : List Int) (w : World) (hl : L.length ≤ 500) (h : NumsAt w p L) :
    Calls Tryd.prog 79 #[.slice p L.length c] w fun e w' => e = .returned (.bool (verB L)) ∧ w = w' := by
  obtain ⟨N, hN⟩ : ∃ N, L.length = N := ⟨_, rfl⟩
  obtain ⟨f, hf⟩ : ∃ f : Nat → Int, f = fun j => L.getD j 0 := ⟨_, rfl⟩
  have HA := Lib.hid (show ∀ j, j < N → ∃ b o, p = some ⟨b, o, none⟩ ∧ w.cell? ⟨b, o + j, none⟩ = some (.int .i64 (f j)) from fun j hj => by rw [hf]; exact h j (by omega))
  have HT := Lib.hid (show (∀ j, j < N → numB (f j) = true) → verB L = decide (1 ≤ N ∧ N ≤ 4) from fun hall => by
    unfold verB
    rw [hN, List.all_eq_true.2 (fun x hx => by
      obtain ⟨j, hj, rfl⟩ := List.getElem_of_mem hx
      have := hall j (by omega)
      rw [hf] at this
      simpa [List.getD, hj] using this)]
    rfl)
  have HF := Lib.hid (show ∀ j, j < N → numB (f j) = false → verB L = false from fun j hj hb => by
    unfold verB
    have : L.all numB = false := by
      rw [Bool.eq_false_iff]
      intro hall
      have := List.all_eq_true.1 hall (L[j]'(by omega)) (List.getElem_mem _)
      rw [hf] at hb
      simp [List.getD, show j < L.length by omega] at hb
      rw [hb] at this; cases this
    rw [this]; rfl)
  generalize verB L = D at *
  rw [hN]
  have hN5 : N ≤ 500 := by omega
  clear h hf hN hl
  go_enter Tryd.func79, Tryd.ntmps79
  go_wp2_with fail
  go_loop [4, 7] (fun _ iv => ∃ k : Nat, k ≤ N ∧ iv = .int .i64 (k : Int) ∧ ∀ j, j < k → numB (f j) = true) (fun _ iv => N - (intOf iv).toNat)
  case atStart => exact ⟨0, by omega, rfl, fun j hj => by omega⟩
  case round =>
    obtain ⟨k, hk, rfl, hall⟩ := hrel
    have HALL := Lib.hid hall
    clear hall
    by_cases hlt : k < N
    · obtain ⟨b, o, rfl, hc⟩ := HA.out k hlt
      have hi0 : (0 : Int) ≤ (k : Int) := by omega
      have hi1 : (k : Int) < (N : Int) := by omega
      have hd : decide ((k : Int) < (N : Int)) = true := by rw [decide_eq_true_eq]; omega
      have HK := Lib.hid (HF.out k hlt)
      obtain ⟨x, hx⟩ : ∃ x, f k = x := ⟨_, rfl⟩
      have HX := Lib.hid hx
      rw [hx] at hc
      clear hx
      by_cases hn : 0 ≤ x ∧ x ≤ 99999
      · obtain ⟨h0, h1⟩ := hn
        have d1 : decide (x < 0) = false := decide_eq_false (by omega)
        have d2 : decide (99999 < x) = false := decide_eq_false (by omega)
        have HB := Lib.hid (show numB x = true from decide_eq_true ⟨h0, h1⟩)
        go_wp2_with fail
        go_round
        case rel => exact ⟨k + 1, by omega, by go_num, fun j hj => by
          rcases Nat.lt_succ_iff_lt_or_eq.1 hj with h | h
          · exact HALL.out j h
          · rw [h, HX.out]; exact HB.out⟩
        case measure => simp [intOf]; omega
      · have HD := Lib.hid (HK.out (by rw [HX.out]; exact decide_eq_false hn))
        by_cases hx0 : x < 0
        · have d1 : decide (x < 0) = true := decide_eq_true hx0
          go_wp2_with fail
          go_ret
          exact ⟨by rw [HD.out]; rfl, rfl⟩
        · have d1 : decide (x < 0) = false := decide_eq_false hx0
          have d2 : decide (99999 < x) = true := decide_eq_true (by omega)
          go_wp2_with fail
          go_ret
          exact ⟨by rw [HD.out]; rfl, rfl⟩
    · have hk2 : k = N := by omega
      subst hk2
      have HD := Lib.hid (HT.out HALL.out)
      by_cases h1 : 1 ≤ k
      · have d1 : decide ((1 : Int) ≤ (k : Int)) = true := by rw [decide_eq_true_eq]; omega
        by_cases h4 : k ≤ 4
        · have d2 : decide ((k : Int) ≤ 4) = true := by rw [decide_eq_true_eq]; omega
          go_wp2_with fail
          go_ret
          exact ⟨by rw [HD.out, decide_eq_true ⟨h1, h4⟩]; rfl, rfl⟩
        · have d2 : decide ((k : Int) ≤ 4) = false := by rw [decide_eq_false_iff_not]; omega
          go_wp2_with fail
          go_ret
          exact ⟨by rw [HD.out, decide_eq_false (fun e => h4 e.2)]; rfl, rfl⟩
      · have d1 : decide ((1 : Int) ≤ (k : Int)) = false := by rw [decide_eq_false_iff_not]; omega
        go_wp2_with fail
        go_ret
        exact ⟨by rw [HD.out, decide_eq_false (fun e => h1 e.1)]; rfl, rfl⟩
end Go.Proofs.YtdhochjcigingaaDoor
