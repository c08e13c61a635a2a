/- verdict.Keep. -/
import Derived.Test.YtdhochjcigingaaDoorSuites
import Derived.Test.YtdhochjcigingaaDoorDice
import Derived.Test.YtdhochjcigingaaDoorAwake
namespace Go.Proofs.YtdhochjcigingaaDoor
open Go.RowKit
set_option linter.all false

/-- The days of the last keep of purpose n. -/
def lastK (n : Int) (L : List (Int × Int)) : Int := L.foldl (fun d x => if x.1 = n then x.2 else d) 0
theorem lastK_snoc (n : Int) (L : List (Int × Int)) (x : Int × Int) : lastK n (L ++ [x]) = if x.1 = n then x.2 else lastK n L := by
  unfold lastK; rw [List.foldl_append]; rfl
theorem take_snoc {α : Type} (L : List α) (k : Nat) (h : k < L.length) : L.take (k + 1) = L.take k ++ [L[k]] := by
  rw [List.take_append_getElem]

def KeepsAt (W : World) (p : Option Addr) (L : List (Int × Int)) : Prop := ∀ j, j < L.length → ∃ b o, p = some ⟨b, o, none⟩ ∧ W.cell? ⟨b, o + j * 2, none⟩ = some (.int .i64 (L.getD j (0, 0)).1) ∧ W.cell? ⟨b, o + j * 2 + 1, none⟩ = some (.int .i64 (L.getD j (0, 0)).2)
theorem KeepsAt.step {W W' : World} {p : Option Addr} {L : List (Int × Int)} (h : KeepsAt W p L) (hb : Below W.heap.size W W') : KeepsAt W' p L := fun j hj => by
  obtain ⟨b, o, hp, h1, h2⟩ := h j hj
  exact ⟨b, o, hp, cell_later' hb h1, cell_later' hb h2⟩

def KRel (w : World) (n : Int) (L : List (Int × Int)) (dv iv : Value) (wr : World) : Prop :=
  ∃ k : Nat, dv = .int .i64 (lastK n (L.take k)) ∧ iv = .int .i64 (k : Int) ∧ k ≤ L.length ∧ Below w.heap.size w wr

set_option maxRecDepth 100000 in
set_option maxHeartbeats 4000000 in
theorem keep_q (q : Option Addr) (rn rc : Nat) (p : Option Addr) (c : Nat) (L : List (Int × Int)) (n : Int) (w : World) (hl : L.length ≤ 60) (h : KeepsAt w p L) :
    Calls Tryd.prog 52 #[.agg #[.slice q rn rc, .slice p L.length c], .int .i64 n] w (IntP (lastK n L) w) := by
  obtain ⟨N, hN⟩ : ∃ N, L.length = N := ⟨_, rfl⟩
  have hfull : lastK n (L.take N) = lastK n L := by rw [← hN, List.take_length]
  have HA := Lib.hid h
  have HN := Lib.hid hN
  have HF := Lib.hid hfull
  rw [hN] at hl ⊢
  clear h hN hfull
  have hb0 := (Below.refl w.heap.size w).alloc (Nat.le_refl _) (.cells #[.slice q rn rc, .slice p N c] 70)
  have HB0 := Lib.hid hb0; clear hb0
  go_enter Tryd.func52, Tryd.ntmps52
  go_wp2_with fail
  go_loopw [5, 7, 11] (fun dv _ iv wr => KRel w n L dv iv wr) (fun _ _ iv _ => N - (intOf iv).toNat)
  case atStart => exact ⟨0, by rfl, rfl, Nat.zero_le _, HB0.out⟩
  case round =>
    clear HB0
    obtain ⟨k, rfl, rfl, hk, hb⟩ := hrel
    rw [HN.out] at hk
    by_cases hlt : k < N
    · obtain ⟨b, o, hp, c1, c2⟩ := HA.out k (by rw [HN.out]; exact hlt)
      subst hp
      have c1 := cell_later' hb c1
      have c2 := cell_later' hb c2
      have hi0 : (0 : Int) ≤ (k : Int) := by omega
      have hi2 : (k : Int) < (N : Int) := by omega
      have hd : decide (k < N) = true := decide_eq_true hlt
      have hsn : lastK n (L.take (k + 1)) = if (L.getD k (0, 0)).1 = n then (L.getD k (0, 0)).2 else lastK n (L.take k) := by
        have hkl : k < L.length := by rw [HN.out]; exact hlt
        rw [take_snoc L k hkl, lastK_snoc, List.getD, List.getElem?_eq_getElem hkl]
        rfl
      generalize lastK n (L.take k) = d at *
      generalize (L.getD k (0, 0)).1 = x at *
      generalize (L.getD k (0, 0)).2 = y at *
      have HSN := Lib.hid hsn
      have HB := Lib.hid hb
      clear hsn hb
      by_cases hx : x = n
      · subst hx
        go_wp2_with fail
        go_roundw
        case rel => exact ⟨k + 1, by have := HSN.out; rw [if_pos rfl] at this; rw [this], by go_num, by rw [HN.out]; omega, (HB.out.alloc HB.out.size _).trans (Below.refl _ _)⟩
        case measure => simp [intOf]; omega
      · go_wp2_with fail
        go_roundw
        case rel => exact ⟨k + 1, by have := HSN.out; rw [if_neg hx] at this; rw [this], by go_num, by rw [HN.out]; omega, (HB.out.alloc HB.out.size _).trans (Below.refl _ _)⟩
        case measure => simp [intOf]; omega
    · have hk2 : k = N := by omega
      subst hk2
      rw [HF.out]
      have HB := Lib.hid hb
      clear hb
      go_wp2_with fail
      go_ret
      exact ⟨rfl, HB.out⟩
end Go.Proofs.YtdhochjcigingaaDoor
