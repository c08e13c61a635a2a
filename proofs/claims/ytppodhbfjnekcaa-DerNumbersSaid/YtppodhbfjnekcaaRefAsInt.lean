/- The specification's AsInt. -/
import Derived.Test.YtppodhbfjnekcaaAsInt
namespace Go.Proofs.Ytppodhbfjnekcaa
open Go.RowKit

theorem fld1 (a x b c : Value) (W : World) : (Instr.field 30 (.agg #[a, x, b, c]) 1).run Try.prog W = .ok x W := by kernel_rfl

theorem isInt_eq (t : Int) (nb : Bool) (l : List UInt8) (k : Nat) : isInt t nb l k = (decide (t = 2) && (nb == false) && (l == intB (numOf l)) && decide (k = 0)) := rfl

theorem isInt_short {t : Int} {nb : Bool} {l : List UInt8} {k : Nat} (h : l.length < 1 ∨ 8 < l.length) : isInt t nb l k = false := by
  have h8 := intB_len8 (numOf l) (numOf_range l).1 (numOf_range l).2
  have h0 := intB_ne (numOf l)
  have : (l == intB (numOf l)) = false := by
    rw [beq_eq_false_iff_ne]
    intro e
    rw [← e] at h8 h0
    omega
  rw [isInt_eq, this]
  simp

set_option maxHeartbeats 1000000 in
theorem asInt_ref_bad {t : Int} {nb : Bool} {n k c c' : Nat} {p p' : Option Addr} (w : World)
    (hbad : (t != 2) = true ∨ ((t != 2) = false ∧ nb = true) ∨ ((t != 2) = false ∧ nb = false ∧ (0 : Int) < (k : Int)) ∨ ((t != 2) = false ∧ nb = false ∧ decide ((0 : Int) < (k : Int)) = false ∧ n = 0) ∨ ((t != 2) = false ∧ nb = false ∧ decide ((0 : Int) < (k : Int)) = false ∧ decide ((n : Int) < 1) = false ∧ decide ((8 : Int) < (n : Int)) = true)) :
    Calls Try.prog 48 #[.agg #[.int .i64 t, .slice p' n c', .bool nb, .slice p k c]] w fun e w' => e = .returned (.tuple #[.int .i64 0, .int .i64 1]) ∧ Below w.heap.size w w' := by
  rcases hbad with h1 | ⟨h1, rfl⟩ | ⟨h1, rfl, h3⟩ | ⟨h1, rfl, h3, rfl⟩ | ⟨h1, rfl, h3, h4, h5⟩
  all_goals
    go_enter Try.func48, Try.ntmps48
    go_wp2
    all_goals
      go_ret2
      exact ⟨rfl, (Below.refl _ _).alloc (Nat.le_refl _) _⟩


set_option maxRecDepth 100000 in
set_option maxHeartbeats 2000000 in
theorem asInt_ref_good {l : List UInt8} {n c c' b o : Nat} {p : Option Addr} (w : World) (q : Bool) (rn re : Int) (hq : (intB (numOf l) == l) = q) (hres : Hid (q = true ∧ rn = numOf l ∧ re = 0 ∨ q = false ∧ rn = 0 ∧ re = 1)) (hl : l.length = n) (h1 : 1 ≤ n) (h8 : n ≤ 8) (hc : ∀ j, j < n → w.cell? ⟨b, o + j, none⟩ = some (.int .u8 (l.getD j 0).toNat)) :
    Calls Try.prog 48 #[.agg #[.int .i64 2, .slice (some ⟨b, o, none⟩) n c', .bool false, .slice p 0 c]] w fun e w' => e = .returned (.tuple #[.int .i64 rn, .int .i64 re]) ∧ Below w.heap.size w w' := by
  have hr := numOf_range l
  have hint := fun (W : World) => int_ref (numOf l) W hr.1 hr.2
  have lA := World.block_lt_of_cell? _ _ (hc 0 (by omega))
  simp only at lA
  obtain ⟨x0, hx0⟩ : ∃ x, x = l.getD 0 0 := ⟨_, rfl⟩
  have c0 := hc 0 (by omega)
  rw [← hx0, Nat.add_zero] at c0
  have HQ := Lib.hid hq; clear hq
  have HX := Lib.hid hx0; clear hx0
  have HC := Lib.hid hc; clear hc
  have HL := Lib.hid hl; clear hl
  by_cases h128 : (128 : Int) ≤ (x0.toNat : Int)
  all_goals
    go_enter Try.func48, Try.ntmps48
    go_wp2_with fail
    go_loopw [4, 5] (fun a i wr => ∃ (k : Nat) (r : Int), k ≤ n ∧ i = .int .i64 k ∧ a = .int .i64 r ∧ Hid (r = (l.take k).foldl numStep (if 128 ≤ (l.getD 0 0).toNat then -1 else 0)) ∧ wr = w.alloc (.cells #[.int .i64 2, .slice (some ⟨b, o, none⟩) n c', .bool false, .slice p 0 c] 30)) (fun _ i _ => n - (intOf i).toNat)
    case atStart => 
      refine ⟨0, _, by omega, rfl, rfl, ?_, rfl⟩
      apply Lib.hid
      rw [← HX.out]
      simp; omega
    case round =>
      obtain ⟨k, r, hk, rfl, rfl, HR, rfl⟩ := hrel
      by_cases hlt : k < n
      · obtain ⟨x, hx⟩ : ∃ x, x = l.getD k 0 := ⟨_, rfl⟩
        have ck := HC.out k hlt
        rw [← hx] at ck
        have HX2 := Lib.hid hx; clear hx
        go_wp2
        go_roundw
        case rel => 
          refine ⟨k + 1, _, by omega, by go_num, rfl, ?_, by first | trivial | rfl⟩
          apply Lib.hid
          rw [take_snoc l k (by rw [HL.out]; exact hlt), foldl_snoc, ← HR.out, ← HX2.out]
          rfl
        case measure => simp [intOf]; omega
      · have hrl : r = numOf l := by
          rw [HR.out, List.take_of_length_le (by rw [HL.out]; omega)]
          rfl
        subst hrl
        have hconv : ∀ {W : World}, Below w.heap.size w W → (Go.convert 27 9 (.slice (some ⟨b, o, none⟩) n c')).run Try.prog W = .ok (.string ⟨l.toArray⟩) W := fun hW => 
          (Bts.convert (P := Try.prog) (l := l) ⟨some ⟨b, o, none⟩, c', by rw [HL.out], by rw [HL.out]; omega, .inr ⟨b, o, rfl, fun j hj => cell_later hW (HC.out j (by rw [← HL.out]; exact hj))⟩⟩ 27 5 9 (by kernel_rfl) (by kernel_rfl) (by kernel_rfl))
        have hcv0 := hconv ((Below.refl w.heap.size w).alloc (Nat.le_refl _) (.cells #[.int .i64 2, .slice (some ⟨b, o, none⟩) n c', .bool false, .slice p 0 c] 30)).drew
        have hcv1 := fun {W : World} (h : Below (w.alloc (.cells #[.int .i64 2, .slice (some ⟨b, o, none⟩) n c', .bool false, .slice p 0 c] 30)).drew.heap.size (w.alloc (.cells #[.int .i64 2, .slice (some ⟨b, o, none⟩) n c', .bool false, .slice p 0 c] 30)).drew W) => hconv (below_step ((Below.refl w.heap.size w).alloc (Nat.le_refl _) (.cells #[.int .i64 2, .slice (some ⟨b, o, none⟩) n c', .bool false, .slice p 0 c] 30)).drew h)
        clear hconv
        have hfld := fld1
        have hq := HQ.out
        cases q
        · obtain ⟨rfl, rfl⟩ : rn = 0 ∧ re = 1 := by have := hres.out; simpa using this
          go_wp2_with fail
          go_region_with (go_at_call 28; refine (hint _).mono ?_; rintro e w1 ⟨v1, rfl, hv1, hb1⟩; obtain ⟨hc1, hf1⟩ := bcell hb1; have hcw := hcv1 hb1; have hcx := hv1.convert (P := Try.prog) 27 5 9 (by kernel_rfl) (by kernel_rfl) (by kernel_rfl))
          go_wp2
          all_goals
            go_ret2
            exact ⟨rfl, below_step ((Below.refl _ _).alloc (Nat.le_refl _) _).drew hb1⟩
        · obtain ⟨rfl, rfl⟩ : rn = numOf l ∧ re = 0 := by have := hres.out; simpa using this
          go_wp2_with fail
          go_region_with (go_at_call 28; refine (hint _).mono ?_; rintro e w1 ⟨v1, rfl, hv1, hb1⟩; obtain ⟨hc1, hf1⟩ := bcell hb1; have hcw := hcv1 hb1; have hcx := hv1.convert (P := Try.prog) 27 5 9 (by kernel_rfl) (by kernel_rfl) (by kernel_rfl))
          go_wp2
          all_goals
            go_ret2
            exact ⟨rfl, below_step ((Below.refl _ _).alloc (Nat.le_refl _) _).drew hb1⟩

/-- The specification's AsInt: as der's. -/
theorem asInt_ref {t : Int} {nb : Bool} {sv : Value} {l : List UInt8} {p : Option Addr} {k c : Nat} (w : World) (h : Bts w sv l) :
    Calls Try.prog 48 #[.agg #[.int .i64 t, sv, .bool nb, .slice p k c]] w fun e w' => e = .returned (.tuple #[.int .i64 (if isInt t nb l k then numOf l else 0), .int .i64 (if isInt t nb l k then 0 else 1)]) ∧ Below w.heap.size w w' := by
  obtain ⟨p', c', rfl, hm, h⟩ := h
  by_cases hbad : t ≠ 2 ∨ nb = true ∨ 0 < k ∨ l.length < 1 ∨ 8 < l.length
  · have hf : isInt t nb l k = false := by
      by_cases hlen : l.length < 1 ∨ 8 < l.length
      · exact isInt_short hlen
      · rw [isInt_eq]
        have h3 : t ≠ 2 ∨ nb = true ∨ 0 < k := by
          rcases hbad with h | h | h | h | h
          · exact .inl h
          · exact .inr (.inl h)
          · exact .inr (.inr h)
          · exact absurd (.inl h) hlen
          · exact absurd (.inr h) hlen
        rcases h3 with h | h | h
        · simp [h]
        · simp [h]
        · simp; omega
    rw [hf]
    refine asInt_ref_bad w ?_
    by_cases h1 : t = 2
    · cases nb
      · by_cases h3 : 0 < k
        · exact .inr (.inr (.inl ⟨by simp [h1], rfl, by omega⟩))
        · by_cases h4 : l.length = 0
          · exact .inr (.inr (.inr (.inl ⟨by simp [h1], rfl, by simp; omega, h4⟩)))
          · have h5 : 8 < l.length := by
              rcases hbad with h | h | h | h | h
              · exact absurd h1 h
              · cases h
              · exact absurd h h3
              · omega
              · exact h
            exact .inr (.inr (.inr (.inr ⟨by simp [h1], rfl, by simp; omega, by simp; omega, by simp; omega⟩)))
      · exact .inr (.inl ⟨by simp [h1], rfl⟩)
    · exact .inl (by simp [h1])
  · have h1 : t = 2 := by by_cases h : t = 2; exact h; exact absurd (.inl h) hbad
    have h2 : nb = false := by cases nb; rfl; exact absurd (.inr (.inl rfl)) hbad
    have h3 : k = 0 := by by_cases h : k = 0; exact h; exact absurd (.inr (.inr (.inl (by omega)))) hbad
    have h4 : 1 ≤ l.length := by by_cases h : 1 ≤ l.length; exact h; exact absurd (.inr (.inr (.inr (.inl (by omega))))) hbad
    have h5 : l.length ≤ 8 := by by_cases h : l.length ≤ 8; exact h; exact absurd (.inr (.inr (.inr (.inr (by omega))))) hbad
    subst h1; subst h2; subst h3
    rcases h with h | ⟨b, o, rfl, h⟩
    · subst h; simp at h4
    · have e : isInt 2 false l 0 = (intB (numOf l) == l) := by
        rw [isInt_eq, Bool.eq_iff_iff]; simp; exact eq_comm
      rw [e]
      refine asInt_ref_good w (intB (numOf l) == l) _ _ rfl ?_ rfl h4 h5 h
      apply Lib.hid
      cases (intB (numOf l) == l)
      · exact .inr ⟨rfl, rfl, rfl⟩
      · exact .inl ⟨rfl, rfl, rfl⟩
end Go.Proofs.Ytppodhbfjnekcaa
