/- The law WindowEarliest: the region that tries one more change: what its operations leave. -/
import Derived.Test.YtnconhbambhhgaaEaD
import Derived.Test.YtnconhbambhhgaaFlD
import Derived.Test.YtnconhbambhhgaaRegD
namespace Go.Proofs.Ytnconhbambhhgaa
open Go.RowKit
set_option linter.all false

/-- A slice of one number. -/
def OneAt (W : World) (S : Nat) (v : Value) (x : Int) : Prop := ∃ b, v = .slice (some ⟨b, 0, none⟩) 1 1 ∧ S ≤ b ∧ W.heap[b]? = some (.cells #[.int .i64 x] 3 (0, 0))
def RowAt (W : World) (S : Nat) (v : Value) (L : List Int) : Prop := ∃ q cap, v = .slice (some ⟨q, 0, none⟩) L.length cap ∧ q < W.heap.size ∧ TeamsAt W (some ⟨q, 0, none⟩) L
def G12 (cal tv dv : Value) (S : Nat) (TS DS : List Int) (tm kk : Int) (good : Bool) (l : Array Bool) (k : Nat) (v : Value) (W : World) : Prop := match k with
  | 0 => v = cal
  | 1 => v = tv
  | 2 => (∀ b, v.ownBlock = some b → b < W.heap.size) ∧ (l.getD 5 false = false → W.ownsRow S 3 1 v TS.length (vi TS))
  | 3 => v = .int .i64 tm
  | 4 => l.getD 5 false = false → OneAt W S v tm
  | 5 => l.getD 11 false = false → RowAt W S v (TS ++ [tm])
  | 6 => v = dv
  | 7 => l.getD 5 false = true ∧ (l.getD 10 false = false → W.ownsRow S 3 1 v DS.length (vi DS))
  | 8 => v = .int .i64 kk
  | 9 => l.getD 10 false = false → OneAt W S v kk
  | 10 => l.getD 11 false = false → RowAt W S v (DS ++ [kk])
  | 11 => ∃ x : Int, v = .int .i64 x ∧ decide (x = 0) = good
  | 12 => v = .bool good
  | 13 => v = .bool good
  | _ => True
/-- Rows of two operations lie in different blocks. -/
def X12 (k1 k2 : Nat) (u1 u2 : Value) : Prop := (k1 = 2 ∧ k2 = 9 ∨ k1 = 9 ∧ k2 = 2 ∨ k1 = 5 ∧ k2 = 7 ∨ k1 = 7 ∧ k2 = 5) → ∀ b, u1.ownBlock = some b → u2.ownBlock ≠ some b
theorem X12.other {k1 k2 : Nat} {u1 u2 : Value} (h : ¬ (k1 = 2 ∧ k2 = 9 ∨ k1 = 9 ∧ k2 = 2 ∨ k1 = 5 ∧ k2 = 7 ∨ k1 = 7 ∧ k2 = 5)) : X12 k1 k2 u1 u2 := fun e => absurd e h

theorem vi_length (L : List Int) : (vi L).length = L.length := by unfold vi; rw [List.length_map]
theorem vi_one {L : List Int} {u : Value} (h : u ∈ vi L) : u.oneCell' = true := by
  unfold vi at h
  rw [List.mem_map] at h
  obtain ⟨x, _, rfl⟩ := h
  rfl
theorem Addr.add_lit (p q j : Nat) : (⟨p, q, none⟩ : Addr).add j = ⟨p, q + j, none⟩ := by unfold Addr.add; split <;> simp_all
section
variable {cal tv dv : Value} {S : Nat} {TS DS : List Int} {tm kk : Int} {good : Bool} {l : Array Bool} {W W' : World}
theorem G12.mono {k : Nat} {u : Value} (h : G12 cal tv dv S TS DS tm kk good l k u W) (i : Nat) : G12 cal tv dv S TS DS tm kk good (l.setIfInBounds i true) k u W := by
  match k with
  | 0 => exact h
  | 1 => exact h
  | 2 => exact ⟨h.1, fun hl => h.2 (set_false hl)⟩
  | 3 => exact h
  | 4 => exact fun hl => h (set_false hl)
  | 5 => exact fun hl => h (set_false hl)
  | 6 => exact h
  | 7 => exact ⟨getD_set_true h.1, fun hl => h.2 (set_false hl)⟩
  | 8 => exact h
  | 9 => exact fun hl => h (set_false hl)
  | 10 => exact fun hl => h (set_false hl)
  | 11 => exact h
  | 12 => exact h
  | 13 => exact h
  | _ + 14 => exact h
theorem OneAt.grow {v : Value} {x : Int} {row : Option Nat} (h : OneAt W S v x) (hg : W.grownBy W' row) (hr : ∀ b, v.ownBlock = some b → row ≠ some b) : OneAt W' S v x := by
  obtain ⟨b, rfl, hb, hh⟩ := h
  exact ⟨b, rfl, hb, (hg.block b (lt_of_heap hh) (fun e => hr b rfl e.symm)).trans hh⟩
theorem RowAt.grow {v : Value} {L : List Int} {row : Option Nat} (h : RowAt W S v L) (hg : W.grownBy W' row) (hr : ∀ b, v.ownBlock = some b → row ≠ some b) : RowAt W' S v L := by
  obtain ⟨q, cap, rfl, hq, ht⟩ := h
  refine ⟨q, cap, rfl, Nat.lt_of_lt_of_le hq hg.size, fun j hj => ?_⟩
  obtain ⟨b, o, e, hc⟩ := ht j hj
  injection e with e; injection e with e1 e2
  subst e1; subst e2
  exact ⟨q, 0, rfl, hg.cell hc (fun e => hr q rfl e.symm)⟩
theorem OneAt.lt {v : Value} {x : Int} (h : OneAt W S v x) : ∀ b, v.ownBlock = some b → b < W.heap.size := fun b e => by
  obtain ⟨b', rfl, _, hh⟩ := h
  simp only [Value.ownBlock, Option.some.injEq] at e
  subst e; exact lt_of_heap hh
theorem RowAt.lt {v : Value} {L : List Int} (h : RowAt W S v L) : ∀ b, v.ownBlock = some b → b < W.heap.size := fun b e => by
  obtain ⟨b', cap, rfl, hh, _⟩ := h
  simp only [Value.ownBlock, Option.some.injEq] at e
  subst e; exact hh
theorem G12.grow {k : Nat} {u : Value} {row : Option Nat} (h : G12 cal tv dv S TS DS tm kk good l k u W) (i : Nat) (hg : W.grownBy W' row)
    (hr : ∀ b, row = some b → (k = 2 ∨ k = 4 ∨ k = 5 ∨ k = 7 ∨ k = 9 ∨ k = 10) → (k = i ∨ u.ownBlock ≠ some b) ∨ ((k = 2 ∨ k = 4) ∧ (i = 5 ∨ l.getD 5 false = true)) ∨ ((k = 7 ∨ k = 9) ∧ (i = 10 ∨ l.getD 10 false = true))) (hl : l.getD i false = false) (hk : l.getD k false = true) (hi : i < l.size) : G12 cal tv dv S TS DS tm kk good (l.setIfInBounds i true) k u W' := by
  have hki : k ≠ i := fun e => by rw [e, hl] at hk; cases hk
  have hs : (l.setIfInBounds i true).getD i false = true := set_same hi
  have hne : (k = 2 ∨ k = 4 ∨ k = 5 ∨ k = 7 ∨ k = 9 ∨ k = 10) → ¬ ((k = 2 ∨ k = 4) ∧ (i = 5 ∨ l.getD 5 false = true)) → ¬ ((k = 7 ∨ k = 9) ∧ (i = 10 ∨ l.getD 10 false = true)) → ∀ b, u.ownBlock = some b → row ≠ some b := fun h1 h2 h3 b e e' => by
    rcases hr b e' h1 with (h4 | h4) | h4 | h4
    · exact hki h4
    · exact h4 e
    · exact h2 h4
    · exact h3 h4
  match k with
  | 0 => exact h
  | 1 => exact h
  | 2 =>
    refine ⟨fun b e => Nat.lt_of_lt_of_le (h.1 b e) hg.size, fun h4 => ?_⟩
    have hi4 : i ≠ 5 := fun e => by subst e; rw [hs] at h4; cases h4
    have hf4 := set_false h4
    refine (h.2 (set_false h4)).kept hg ?_
    cases hu : u.ownBlock with
    | none => exact .inl rfl
    | some b => exact .inr fun e => hne (by simp) (by simp [hi4, hf4]) (by simp) b hu e.symm
  | 4 =>
    intro h4
    have hi4 : i ≠ 5 := fun e => by subst e; rw [hs] at h4; cases h4
    have hf4 := set_false h4
    exact (h (set_false h4)).grow hg (hne (by simp) (by simp [hi4, hf4]) (by simp))
  | 5 => exact fun h9 => (h (set_false h9)).grow hg (hne (by simp) (by simp) (by simp))
  | 6 => exact h
  | 7 =>
    refine ⟨getD_set_true h.1, fun h8 => ?_⟩
    have hi8 : i ≠ 10 := fun e => by subst e; rw [hs] at h8; cases h8
    have hf8 := set_false h8
    refine (h.2 (set_false h8)).kept hg ?_
    cases hu : u.ownBlock with
    | none => exact .inl rfl
    | some b => exact .inr fun e => hne (by simp) (by simp) (by simp [hi8, hf8]) b hu e.symm
  | 9 =>
    intro h8
    have hi8 : i ≠ 10 := fun e => by subst e; rw [hs] at h8; cases h8
    have hf8 := set_false h8
    exact (h (set_false h8)).grow hg (hne (by simp) (by simp) (by simp [hi8, hf8]))
  | 10 => exact fun h9 => (h (set_false h9)).grow hg (hne (by simp) (by simp) (by simp))
  | 11 => exact h
  | 12 => exact h
  | 3 => exact h
  | 8 => exact h
  | 13 => exact h
  | _ + 14 => exact h
end
end Go.Proofs.Ytnconhbambhhgaa
