/- The specification's AsBool. -/
import Derived.Test.YtppodhbfjnekcaaAsBool
namespace Go.Proofs.Ytppodhbfjnekcaa
open Go.RowKit

set_option maxRecDepth 100000 in
set_option maxHeartbeats 1000000 in
theorem asBool_ref_bad {t : Int} {nb : Bool} {n k c c' : Nat} {p p' : Option Addr} (w : World)
    (hbad : (t != 1) = true ∨ ((t != 1) = false ∧ nb = true) ∨ ((t != 1) = false ∧ nb = false ∧ 0 < k) ∨ ((t != 1) = false ∧ nb = false ∧ k = 0 ∧ ((n : Int) != 1) = true)) :
    Calls Try.prog 49 #[.agg #[.int .i64 t, .slice p' n c', .bool nb, .slice p k c]] w fun e w' => e = .returned (.tuple #[.bool false, .int .i64 1]) ∧ Below w.heap.size w w' := by
  rcases hbad with h1 | ⟨h1, rfl⟩ | ⟨h1, rfl, h3⟩ | ⟨h1, rfl, rfl, h4⟩
  all_goals
    go_enter Try.func49, Try.ntmps49
    go_wp2
    all_goals
      go_ret2
      exact ⟨rfl, (Below.refl _ _).alloc (Nat.le_refl _) _⟩

set_option maxRecDepth 100000 in
set_option maxHeartbeats 1000000 in
theorem asBool_ref_good {x : UInt8} {c c' b o : Nat} {p : Option Addr} (w : World) (rb : Bool) (re : Int) (hres : Hid ((x.toNat : Int) = 0 ∧ rb = false ∧ re = 0 ∨ (x.toNat : Int) = 255 ∧ rb = true ∧ re = 0 ∨ (x.toNat : Int) ≠ 0 ∧ (x.toNat : Int) ≠ 255 ∧ rb = false ∧ re = 1)) (hc : w.cell? ⟨b, o, none⟩ = some (.int .u8 (x.toNat : Int))) :
    Calls Try.prog 49 #[.agg #[.int .i64 1, .slice (some ⟨b, o, none⟩) 1 c', .bool false, .slice p 0 c]] w fun e w' => e = .returned (.tuple #[.bool rb, .int .i64 re]) ∧ Below w.heap.size w w' := by
  have lA := World.block_lt_of_cell? _ _ hc
  simp only at lA
  obtain ⟨i, hi⟩ : ∃ i, i = (x.toNat : Int) := ⟨_, rfl⟩
  rw [← hi] at hc hres
  clear hi
  rcases hres.out with ⟨h, rfl, rfl⟩ | ⟨h, rfl, rfl⟩ | ⟨h, h', rfl, rfl⟩
  · subst h
    clear hres
    go_enter Try.func49, Try.ntmps49
    go_wp2
    go_ret2
    exact ⟨rfl, (Below.refl _ _).alloc (Nat.le_refl _) _⟩
  · subst h
    clear hres
    go_enter Try.func49, Try.ntmps49
    go_wp2
    go_ret2
    exact ⟨rfl, (Below.refl _ _).alloc (Nat.le_refl _) _⟩
  · have g1 : (i != 0) = true := by simp [h]
    have g2 : (i != 255) = true := by simp [h']
    clear hres h h'
    go_enter Try.func49, Try.ntmps49
    go_wp2
    go_ret2
    exact ⟨rfl, (Below.refl _ _).alloc (Nat.le_refl _) _⟩

theorem isBool_eq (b : Bool) (t : Int) (nb : Bool) (l : List UInt8) (k : Nat) : isBool b t nb l k = (decide (t = 1) && (nb == false) && (l == boolB b) && decide (k = 0)) := rfl

theorem asBool_ref {t : Int} {nb : Bool} {sv : Value} {l : List UInt8} {p : Option Addr} {k c : Nat} (w : World) (h : Bts w sv l) :
    Calls Try.prog 49 #[.agg #[.int .i64 t, sv, .bool nb, .slice p k c]] w fun e w' => e = .returned (.tuple #[.bool (boolRes t nb l k).1, .int .i64 (boolRes t nb l k).2]) ∧ Below w.heap.size w w' := by
  obtain ⟨p', c', rfl, hm, h⟩ := h
  by_cases hbad : t ≠ 1 ∨ nb = true ∨ 0 < k ∨ l.length ≠ 1
  · have hno : ∀ b, isBool b t nb l k = false := by
      intro b
      rw [isBool_eq]
      rcases hbad with h | h | h | h
      · simp [h]
      · simp [h]
      · simp; omega
      · have : (l == boolB b) = false := by
          rw [beq_eq_false_iff_ne]; intro e; apply h; rw [e]; cases b <;> rfl
        simp [this]
    have e : boolRes t nb l k = (false, 1) := by simp [boolRes, hno]
    rw [e]
    refine asBool_ref_bad w ?_
    by_cases h1 : t = 1
    · cases nb
      · by_cases h3 : 0 < k
        · exact .inr (.inr (.inl ⟨by simp [h1], rfl, h3⟩))
        · refine .inr (.inr (.inr ⟨by simp [h1], rfl, by omega, ?_⟩))
          rcases hbad with h | h | h | h
          · exact absurd h1 h
          · cases h
          · exact absurd h h3
          · simp; omega
      · exact .inr (.inl ⟨by simp [h1], rfl⟩)
    · exact .inl (by simp [h1])
  · have h1 : t = 1 := by by_cases h : t = 1; exact h; exact absurd (.inl h) hbad
    have h2 : nb = false := by cases nb; rfl; exact absurd (.inr (.inl rfl)) hbad
    have h3 : k = 0 := by by_cases h : k = 0; exact h; exact absurd (.inr (.inr (.inl (by omega)))) hbad
    have h4 : l.length = 1 := by by_cases h : l.length = 1; exact h; exact absurd (.inr (.inr (.inr h))) hbad
    subst h1; subst h2; subst h3
    match l, h4, h with
    | [x], _, hx =>
      rcases hx with hx | ⟨b, o, rfl, hx⟩
      · cases hx
      · have hc := hx 0 (by simp)
        rw [Nat.add_zero] at hc
        refine asBool_ref_good (x := x) w _ _ (Lib.hid ?_) hc
        by_cases e0 : x = 0
        · subst e0; exact .inl ⟨rfl, by decide, by decide⟩
        · by_cases e1 : x = 255
          · subst e1; exact .inr (.inl ⟨rfl, by decide, by decide⟩)
          · refine .inr (.inr ⟨?_, ?_, ?_, ?_⟩)
            · intro hh; apply e0; apply UInt8.toNat_inj.1; have : x.toNat = 0 := by omega
              exact this
            · intro hh; apply e1; apply UInt8.toNat_inj.1; have : x.toNat = 255 := by omega
              exact this
            all_goals simp [boolRes, isBool_eq, boolB, e0, e1]
end Go.Proofs.Ytppodhbfjnekcaa
