/- The law of a full window: the region that tries one change more. -/
import Derived.Test.YtcppmkimfoajaaaFlE
namespace Go.Proofs.Ytcppmkimfoajaaa
open Go.RowKit
set_option linter.all false

/-- A slice of one number. -/
def OneAt (W : World) (S : Nat) (v : Value) (x : Int) : Prop := ∃ b, v = .slice (some ⟨b, 0, none⟩) 1 1 ∧ S ≤ b ∧ W.heap[b]? = some (.cells #[.int .i64 x] 3 (0, 0))
def RowAt (W : World) (S : Nat) (v : Value) (L : List Int) : Prop := ∃ q cap, v = .slice (some ⟨q, 0, none⟩) L.length cap ∧ q < W.heap.size ∧ TeamsAt W (some ⟨q, 0, none⟩) L
def G8 (cal tv dv : Value) (S : Nat) (TS DS : List Int) (l : Array Bool) (k : Nat) (v : Value) (W : World) : Prop := match k with
  | 0 => v = cal
  | 1 => v = tv
  | 2 => (∀ b, v.ownBlock = some b → b < W.heap.size) ∧ (l.getD 4 false = false → W.ownsRow S 3 1 v TS.length (vi TS))
  | 3 => l.getD 4 false = false → OneAt W S v 0
  | 4 => l.getD 9 false = false → RowAt W S v (TS ++ [0])
  | 5 => v = dv
  | 6 => l.getD 4 false = true ∧ (l.getD 8 false = false → W.ownsRow S 3 1 v DS.length (vi DS))
  | 7 => l.getD 8 false = false → OneAt W S v 12
  | 8 => l.getD 9 false = false → RowAt W S v (DS ++ [12])
  | 9 => v = .int .i64 48
  | 10 => v = .int .i64 48
  | _ => True
/-- Rows of two operations lie in different blocks. -/
def X8 (k1 k2 : Nat) (u1 u2 : Value) : Prop := (k1 = 2 ∧ k2 = 7 ∨ k1 = 7 ∧ k2 = 2 ∨ k1 = 4 ∧ k2 = 6 ∨ k1 = 6 ∧ k2 = 4) → ∀ b, u1.ownBlock = some b → u2.ownBlock ≠ some b
theorem X8.other {k1 k2 : Nat} {u1 u2 : Value} (h : ¬ (k1 = 2 ∧ k2 = 7 ∨ k1 = 7 ∧ k2 = 2 ∨ k1 = 4 ∧ k2 = 6 ∨ k1 = 6 ∧ k2 = 4)) : X8 k1 k2 u1 u2 := fun e => absurd e h

theorem vi_length (L : List Int) : (vi L).length = L.length := by unfold vi; rw [List.length_map]
theorem vi_one {L : List Int} {u : Value} (h : u ∈ vi L) : u.oneCell' = true := by
  unfold vi at h
  rw [List.mem_map] at h
  obtain ⟨x, _, rfl⟩ := h
  rfl
theorem Addr.add_lit (p q j : Nat) : (⟨p, q, none⟩ : Addr).add j = ⟨p, q + j, none⟩ := by unfold Addr.add; split <;> simp_all
theorem FMid.step {W0 W W2 : World} {tv dv : Value} {TS DS : List Int} (h : FMid W0 W tv dv TS DS) (hb : Below W.heap.size W W2) : FMid W0 W2 tv dv TS DS := by
  have hg : W.grownBy W2 none := ⟨hb.os, hb.tape, hb.output, hb.size, fun k hk _ => hb.block k hk⟩
  refine ⟨h.below.trans (hb.mono h.below.size), h.ownt.kept hg ?_, h.ownd.kept hg ?_, h.sep⟩
  · cases hp : tv.ownBlock with
    | none => exact .inl rfl
    | some k => exact .inr fun e => by cases e
  · cases hp : dv.ownBlock with
    | none => exact .inl rfl
    | some k => exact .inr fun e => by cases e
/-- All changes fit. -/
theorem Chg.fit {n B k : Nat} {TS DS : List Int} (h : Chg n TS DS) (hl : TS.length = n + k) (hk : k ≤ 5) : ∀ i t, i < (flL B).length → t < ([(n : Int), 5] : List Int).length → (Ytcppmkimfoajaaa.cnt (flL B) TS DS TS.length i t : Int) ≤ ([(n : Int), 5] : List Int).getD t 0 := by
  intro i t hi ht
  obtain ⟨h1, h2, h3⟩ := h.cnt (B := B) TS.length (Nat.le_refl _)
  have ht2 : t = 0 ∨ t = 1 := by simp at ht; omega
  by_cases hi0 : i = 0
  · subst hi0
    rcases ht2 with rfl | rfl
    · rw [h1, show ([(n : Int), 5] : List Int).getD 0 0 = n from rfl]; omega
    · rw [h2, show ([(n : Int), 5] : List Int).getD 1 0 = 5 from rfl]; omega
  · rw [h3 i t (.inl hi0)]
    rcases ht2 with rfl | rfl
    · rw [show ([(n : Int), 5] : List Int).getD 0 0 = n from rfl]; omega
    · rw [show ([(n : Int), 5] : List Int).getD 1 0 = 5 from rfl]; omega
theorem Chg.room0 {n B k : Nat} {TS DS : List Int} (h : Chg n TS DS) (hl : TS.length = n + k) : roomF (flL B) TS DS [(n : Int), 5] 0 0 = false ∧ roomF (flL B) TS DS [(n : Int), 5] 0 1 = decide (0 < n) := by
  obtain ⟨h1, h2, h3⟩ := h.cnt (B := B) TS.length (Nat.le_refl _)
  unfold roomF
  rw [h1, h3 1 0 (.inl (by decide)), show ([(n : Int), 5] : List Int).getD 0 0 = n from rfl]
  refine ⟨decide_eq_false (by omega), ?_⟩
  by_cases h0 : 0 < n
  · rw [decide_eq_true h0, decide_eq_true (by omega)]
  · rw [decide_eq_false h0, decide_eq_false (by omega)]
theorem fl_first {B : Nat} {hB : Nat → Bool} {r : Int} {ok : Bool} (h : FirstHR hB 11 0 (flL B) flT r ok) (h0 : hB 0 = false) : (hB 1 = true → r = 40 ∧ ok = true) ∧ (hB 1 = false → r = 0 ∧ ok = false) := by
  have e0 : okH hB 11 0 (flL B) flT 0 = false := by unfold okH; rw [h0, Bool.and_false]
  have e1 : okH hB 11 0 (flL B) flT 1 = hB 1 := by
    unfold okH
    rw [show okW 11 0 (flL B) flT 1 = true from rfl, Bool.true_and]
  rcases h with ⟨h1, h2, h3⟩ | ⟨j, hj, h1, h2, h3, h4⟩
  · have := h3 1 (by simp [flL])
    rw [e1] at this
    exact ⟨(fun e => by rw [e] at this; cases this), fun _ => ⟨h1, h2⟩⟩
  · have hj2 : j = 0 ∨ j = 1 := by simp [flL] at hj; omega
    rcases hj2 with rfl | rfl
    · rw [e0] at h3; cases h3
    · rw [e1] at h3
      refine ⟨fun _ => ⟨h1, h2⟩, fun e => ?_⟩
      rw [e] at h3; cases h3
section
variable {cal tv dv : Value} {S : Nat} {TS DS : List Int} {l : Array Bool} {W W' : World}
theorem G8.mono {k : Nat} {u : Value} (h : G8 cal tv dv S TS DS l k u W) (i : Nat) : G8 cal tv dv S TS DS (l.setIfInBounds i true) k u W := by
  match k with
  | 0 => exact h
  | 1 => exact h
  | 2 => exact ⟨h.1, fun hl => h.2 (set_false hl)⟩
  | 3 => exact fun hl => h (set_false hl)
  | 4 => exact fun hl => h (set_false hl)
  | 5 => exact h
  | 6 => exact ⟨getD_set_true h.1, fun hl => h.2 (set_false hl)⟩
  | 7 => exact fun hl => h (set_false hl)
  | 8 => exact fun hl => h (set_false hl)
  | 9 => exact h
  | 10 => exact h
  | _ + 11 => exact h
theorem OneAt.grow {v : Value} {x : Int} {row : Option Nat} (h : OneAt W S v x) (hg : W.grownBy W' row) (hr : ∀ b, v.ownBlock = some b → row ≠ some b) : OneAt W' S v x := by
  obtain ⟨b, rfl, hb, hh⟩ := h
  exact ⟨b, rfl, hb, (hg.block b (lt_of_heap hh) (fun e => hr b rfl e.symm)).trans hh⟩
theorem RowAt.grow {v : Value} {L : List Int} {row : Option Nat} (h : RowAt W S v L) (hg : W.grownBy W' row) (hr : ∀ b, v.ownBlock = some b → row ≠ some b) : RowAt W' S v L := by
  obtain ⟨q, cap, rfl, hq, ht⟩ := h
  refine ⟨q, cap, rfl, Nat.lt_of_lt_of_le hq hg.size, fun j hj => ?_⟩
  obtain ⟨b, o, e, hc⟩ := ht j hj
  injection e with e; injection e with e1 e2
  subst e1; subst e2
  exact ⟨q, 0, rfl, hg.cell hc (fun e => hr q rfl e.symm)⟩
theorem OneAt.lt {v : Value} {x : Int} (h : OneAt W S v x) : ∀ b, v.ownBlock = some b → b < W.heap.size := fun b e => by
  obtain ⟨b', rfl, _, hh⟩ := h
  simp only [Value.ownBlock, Option.some.injEq] at e
  subst e; exact lt_of_heap hh
theorem RowAt.lt {v : Value} {L : List Int} (h : RowAt W S v L) : ∀ b, v.ownBlock = some b → b < W.heap.size := fun b e => by
  obtain ⟨b', cap, rfl, hh, _⟩ := h
  simp only [Value.ownBlock, Option.some.injEq] at e
  subst e; exact hh
/-- What is listed stays, where only the row of v, if any, and new blocks have turned. -/
theorem G8.grow {k : Nat} {u : Value} {row : Option Nat} (h : G8 cal tv dv S TS DS l k u W) (i : Nat) (hg : W.grownBy W' row)
    (hr : ∀ b, row = some b → (k = 2 ∨ k = 3 ∨ k = 4 ∨ k = 6 ∨ k = 7 ∨ k = 8) → (k = i ∨ u.ownBlock ≠ some b) ∨ ((k = 2 ∨ k = 3) ∧ (i = 4 ∨ l.getD 4 false = true)) ∨ ((k = 6 ∨ k = 7) ∧ (i = 8 ∨ l.getD 8 false = true))) (hl : l.getD i false = false) (hk : l.getD k false = true) (hi : i < l.size) : G8 cal tv dv S TS DS (l.setIfInBounds i true) k u W' := by
  have hki : k ≠ i := fun e => by rw [e, hl] at hk; cases hk
  have hs : (l.setIfInBounds i true).getD i false = true := set_same hi
  have hne : (k = 2 ∨ k = 3 ∨ k = 4 ∨ k = 6 ∨ k = 7 ∨ k = 8) → ¬ ((k = 2 ∨ k = 3) ∧ (i = 4 ∨ l.getD 4 false = true)) → ¬ ((k = 6 ∨ k = 7) ∧ (i = 8 ∨ l.getD 8 false = true)) → ∀ b, u.ownBlock = some b → row ≠ some b := fun h1 h2 h3 b e e' => by
    rcases hr b e' h1 with (h4 | h4) | h4 | h4
    · exact hki h4
    · exact h4 e
    · exact h2 h4
    · exact h3 h4
  match k with
  | 0 => exact h
  | 1 => exact h
  | 2 =>
    refine ⟨fun b e => Nat.lt_of_lt_of_le (h.1 b e) hg.size, fun h4 => ?_⟩
    have hi4 : i ≠ 4 := fun e => by subst e; rw [hs] at h4; cases h4
    have hf4 := set_false h4
    refine (h.2 (set_false h4)).kept hg ?_
    cases hu : u.ownBlock with
    | none => exact .inl rfl
    | some b => exact .inr fun e => hne (by simp) (by simp [hi4, hf4]) (by simp) b hu e.symm
  | 3 =>
    intro h4
    have hi4 : i ≠ 4 := fun e => by subst e; rw [hs] at h4; cases h4
    have hf4 := set_false h4
    exact (h (set_false h4)).grow hg (hne (by simp) (by simp [hi4, hf4]) (by simp))
  | 4 => exact fun h9 => (h (set_false h9)).grow hg (hne (by simp) (by simp) (by simp))
  | 5 => exact h
  | 6 =>
    refine ⟨getD_set_true h.1, fun h8 => ?_⟩
    have hi8 : i ≠ 8 := fun e => by subst e; rw [hs] at h8; cases h8
    have hf8 := set_false h8
    refine (h.2 (set_false h8)).kept hg ?_
    cases hu : u.ownBlock with
    | none => exact .inl rfl
    | some b => exact .inr fun e => hne (by simp) (by simp) (by simp [hi8, hf8]) b hu e.symm
  | 7 =>
    intro h8
    have hi8 : i ≠ 8 := fun e => by subst e; rw [hs] at h8; cases h8
    have hf8 := set_false h8
    exact (h (set_false h8)).grow hg (hne (by simp) (by simp) (by simp [hi8, hf8]))
  | 8 => exact fun h9 => (h (set_false h9)).grow hg (hne (by simp) (by simp) (by simp))
  | 9 => exact h
  | 10 => exact h
  | _ + 11 => exact h
end
end Go.Proofs.Ytcppmkimfoajaaa
