/- move.Set. -/
import Derived.Test.YtgeldpkopolnfaaDoorOmF
import Derived.Test.YtgeldpkopolnfaaDoorNdF
namespace Go.Proofs.YtgeldpkopolnfaaDoor
open Go.RowKit
set_option linter.all false

theorem grown_row {w W W' : World} {g : Nat} {row : Option Nat} (h : w.grownBy W (some g)) (hg : W.grownBy W' row) (hr : ∀ b, row = some b → w.heap.size ≤ b) : w.grownBy W' (some g) :=
  ⟨hg.os.trans h.os, hg.tape.trans h.tape, hg.output.trans h.output, Nat.le_trans h.size hg.size, fun k hk hne => (hg.block k (Nat.lt_of_lt_of_le hk h.size) (fun e => by have := hr k e.symm; omega)).trans (h.block k hk hne)⟩
theorem DiceAt.other {W W' : World} {g : Nat} {row : Option Nat} (h : DiceAt W g) (hg : W.grownBy W' row) (hr : ∀ b, row = some b → g < b) : DiceAt W' g := by
  obtain ⟨a, n, c, k, h1, h2, h3, h4⟩ := h
  have hlt := lt_of_heap h1
  refine ⟨a, n, c, k, (hg.block g hlt (fun e => by have := hr g e.symm; omega)).trans h1, h2, h3, h4.keep fun b o v hb hv => hg.cell hv ?_⟩
  intro e
  have := hr b e.symm
  omega
theorem cellsN_snoc' (L : List Nat) (i : Nat) : cellsN (L ++ [i]) = cellsN L ++ [.int .i64 ((i : Nat) : Int)] := by unfold cellsN; simp
theorem SetOk.snoc {l : List Nat} {i : Nat} (h : SetOk i l) : SetOk (i + 1) (l ++ [i]) := by
  refine ⟨?_, fun x hx => ?_⟩
  · rw [List.pairwise_append]
    refine ⟨h.asc, by simp, fun a ha b hb => ?_⟩
    rw [List.mem_singleton] at hb
    subst hb
    exact h.low a ha
  · rcases List.mem_append.1 hx with h1 | h1
    · have := h.low x h1; omega
    · rw [List.mem_singleton] at h1; omega
theorem SetOk.up {l : List Nat} {i j : Nat} (h : SetOk i l) (hij : i ≤ j) : SetOk j l := ⟨h.asc, fun x hx => Nat.lt_of_lt_of_le (h.low x hx) hij⟩

set_option maxRecDepth 100000 in
set_option maxHeartbeats 4000000 in
theorem set_any (w : World) (g n : Nat) (hn : n ≤ 24) (h : DiceAt w g) :
    Calls Tryd.prog 18 #[.pointer (some ⟨g, 0, none⟩), .int .i64 (n : Int)] w fun e w' => ∃ v l, e = .returned v ∧ SetOk n l ∧ w'.ownsRow w.heap.size 3 1 v l.length (cellsN l) ∧ w.grownBy w' (some g) := by
  obtain ⟨i0, hi0, hz0, hz1, hz2⟩ := info_parts info3
  have HD0 := Lib.hid h
  have hgw := h.lt
  obtain ⟨S, hS⟩ : ∃ S, w.heap.size = S := ⟨_, rfl⟩
  have HS := Lib.hid hS
  rw [hS] at hgw
  clear h hS
  go_enter Tryd.func18, Tryd.ntmps18
  go_wp2_with fail
  go_loopw [5, 6] (fun sv iv wr => ∃ (i : Nat) (l : List Nat), iv = .int .i64 (i : Int) ∧ i ≤ n ∧ SetOk i l ∧ wr.ownsRow S 3 1 sv l.length (cellsN l) ∧ DiceAt wr g ∧ w.grownBy wr (some g)) (fun _ iv _ => n - (intOf iv).toNat)
  case atStart => exact ⟨0, [], rfl, Nat.zero_le _, ⟨List.Pairwise.nil, fun i hi => by cases hi⟩, World.ownsRow_nil _ _ _ _, HD0.out, World.grownBy.refl _ _⟩
  case round =>
    obtain ⟨i, l, rfl, hi, hl, hown, hd, hg⟩ := hrel
    obtain ⟨p, c, rfl⟩ := own_slice hown
    by_cases hlt : i < n
    · have hm0 : (0 : Int) ≤ (i : Int) := by omega
      have hm1 : (i : Int) < (n : Int) := by omega
      have hdm : decide (i < n) = true := decide_eq_true hlt
      have C1 := Lib.hid (next_any wr g 2 (by decide) (by decide) hd)
      have hll := hl.length
      obtain ⟨ln, hln⟩ : ∃ ln, l.length = ln := ⟨_, rfl⟩
      have HLN := Lib.hid hln
      rw [hln] at hown hll ⊢
      have HL := Lib.hid hl; have HO := Lib.hid hown; have HG := Lib.hid hg
      clear hl hown hd hg hln
      go_wp2_with fail
      refine (C1.out).mono ?_
      clear C1
      rintro e w2 ⟨x, rfl, hx0, hx1, hd2, hg2⟩
      have HD2 := Lib.hid hd2
      have HO2 := Lib.hid (HO.out.kept hg2 (by
        cases hv : (Value.slice p ln c).ownBlock with
        | none => exact .inl rfl
        | some b =>
          right
          intro e
          injection e with e
          have := (HO.out.lt b hv).1
          omega))
      have HG2 := Lib.hid (HG.out.trans hg2)
      have hsz : S ≤ w2.heap.size := by have := HG2.out.size; have := HS.out; omega
      clear hd2 hg2
      by_cases hx : x = 0
      · subst hx
        clear hx0 hx1
        go_wp2_with (at_builtin; refine wpList_append_own _ rfl _ _ 33 rfl S 3 i0 (.int .i64 0) 1 8 Tryd.underlying33 hi0 hz0 hz1 hz2 rfl (by decide) _ _ _ rfl (HO2.out.alloc _) ⟨w2.heap.size, 0, none⟩ 1 1 [.int .i64 (i : Int)] rfl rfl (cell_one_new _ _ _) (by simp [Value.oneCell']) (by unfold maxLen; omega) (by omega) (by simp; omega) ?_; intro v' w4 hown' hgrow _; obtain ⟨p', c', rfl⟩ := own_slice hown'; have HO4 := Lib.hid hown'; have HGW := Lib.hid hgrow; clear hown' hgrow)
        have hlow : ∀ b, (Value.slice p ln c).ownBlock = some b → S ≤ b := fun b e => (HO2.out.lt b e).1
        have hg4 := grown_row (grown_row HG2.out (World.grownBy_alloc w2 (.cells #[.int .i64 (i : Int)] 3) none) (fun b e => by cases e)) HGW.out (fun b e => by rw [HS.out]; exact hlow b e)
        have hd4 := (HD2.out.other (World.grownBy_alloc w2 (.cells #[.int .i64 (i : Int)] 3) none) (fun b e => by cases e)).other HGW.out (fun b e => by have := hlow b e; omega)
        have HG4 := Lib.hid hg4; have HD4 := Lib.hid hd4
        clear hlow hg4 hd4
        go_roundw
        case rel => exact ⟨i + 1, l ++ [i], by go_num, by omega, HL.out.snoc, by rw [List.length_append, HLN.out, cellsN_snoc']; exact HO4.out, HD4.out, HG4.out⟩
        case measure => simp [intOf]; omega
      · have g2 : (x == 0) = false := by simpa using hx
        clear hx0 hx1
        go_wp2_with fail
        go_roundw
        case rel => exact ⟨i + 1, l, by go_num, by omega, HL.out.up (by omega), by rw [HLN.out]; exact HO2.out, HD2.out, HG2.out⟩
        case measure => simp [intOf]; omega
    · have hin : i = n := by omega
      subst hin
      have hdm : decide (i < i) = false := by simp
      have hnm : ¬ (i : Int) < (i : Int) := by omega
      obtain ⟨ln, hln⟩ : ∃ ln, l.length = ln := ⟨_, rfl⟩
      have HLN := Lib.hid hln
      rw [hln] at hown ⊢
      have HL := Lib.hid hl; have HO := Lib.hid hown; have HG := Lib.hid hg
      clear hl hown hd hg hln
      go_wp2_with fail
      go_ret
      exact ⟨_, rfl, l, HL.out, by rw [HLN.out, HS.out]; exact HO.out, HG.out⟩
end Go.Proofs.YtgeldpkopolnfaaDoor
