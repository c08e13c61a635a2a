/- Calendar's two regions that draw: what each operation leaves. -/
import Derived.Test.YtnconhbambhhgaaCalB
namespace Go.Proofs.Ytnconhbambhhgaa
open Go.RowKit
set_option linter.all false

def G5 (w : World) (g C r : Nat) (r0 r1 : Int) (tq : Value) (Q : List Int) (l : Array Bool) (k : Nat) (v : Value) (W : World) : Prop := match k with
  | 0 => v = .pointer (some ⟨C, 1, none⟩)
  | 1 => v = tq
  | 2 => v = .pointer (some ⟨g, 0, none⟩)
  | 3 => ∃ x : Int, v = .int .i64 x ∧ 0 ≤ x ∧ x < 2
  | 4 => l.getD 5 false = false → ∃ (x : Int) (b : Nat), v = .slice (some ⟨b, 0, none⟩) 1 1 ∧ 0 ≤ x ∧ x < 2 ∧ W.heap[b]? = some (.cells #[.int .i64 x] 3 (0, 0))
  | 5 => l.getD 7 false = false → ∃ x : Int, 0 ≤ x ∧ x < 2 ∧ W.heap[C]? = some (.cells #[.slice none 0 0, tq, .slice (some ⟨r, 0, none⟩) 2 2] 38 (0, 0)) ∧ CMid w (W.setCell ⟨C, 1, none⟩ v) g C r r0 r1 (.slice none 0 0) v (Q ++ [x]) [] []
  | 6 => v = .pointer (some ⟨C, 1, none⟩)
  | _ => True
def B5 (w : World) (g C r : Nat) (r0 r1 : Int) (tq : Value) (Q : List Int) (l : Array Bool) (W : World) : Prop :=
  (l.getD 5 false = false → CMid w W g C r r0 r1 (.slice none 0 0) tq Q [] []) ∧ (l.getD 7 false = true → ∃ (tq' : Value) (x : Int), CMid w W g C r r0 r1 (.slice none 0 0) tq' (Q ++ [x]) [] [] ∧ 0 ≤ x ∧ x < 2)
section
variable {w : World} {g C r : Nat} {r0 r1 : Int} {tq : Value} {Q : List Int} {l : Array Bool} {W : World}
theorem G5.mono {k : Nat} {u : Value} (h : G5 w g C r r0 r1 tq Q l k u W) (i : Nat) : G5 w g C r r0 r1 tq Q (l.setIfInBounds i true) k u W := by
  match k with
  | 0 => exact h
  | 1 => exact h
  | 2 => exact h
  | 3 => exact h
  | 4 => exact fun hl => h (set_false hl)
  | 5 => exact fun hl => h (set_false hl)
  | 6 => exact h
  | _ + 7 => exact h
theorem B5.mono (h : B5 w g C r r0 r1 tq Q l W) {i : Nat} (hi : i ≠ 7) : B5 w g C r r0 r1 tq Q (l.setIfInBounds i true) W :=
  ⟨fun hl => h.1 (set_false hl), fun hl => h.2 (by rwa [getD_set_ne false hi] at hl)⟩
end


/-- The region that appends a window, from f to z. -/
def G11 (w : World) (g C r : Nat) (r0 r1 : Int) (tp tq : Value) (Q : List Int) (L : List Win) (TL : List (List Int)) (f z : Int) (l : Array Bool) (k : Nat) (v : Value) (W : World) : Prop := match k with
  | 0 => v = .pointer (some ⟨C, 0, none⟩)
  | 1 => v = tp
  | 2 => v = .int .i64 f
  | 3 => v = .int .i64 z
  | 4 => v = .agg #[.int .i64 f, .int .i64 z]
  | 5 => l.getD 16 false = false → SlT W C tp tq v [0, 1]
  | 6 => l.getD 16 false = false → SlT W C tp tq v [0, 1]
  | 7 => l.getD 16 false = false → SlT W C tp tq v [0]
  | 8 => l.getD 16 false = false → SlT W C tp tq v [1]
  | 9 => l.getD 16 false = false → ∃ (b : Nat) (v1 v2 v3 v4 : Value), v = .slice (some ⟨b, 0, none⟩) 5 5 ∧ C < b ∧ W.heap[b]? = some (.cells #[v1, v2, v3, v4, .slice none 0 0] 22 (0, 0)) ∧ SlT W C tp tq v1 [0, 1] ∧ SlT W C tp tq v2 [0, 1] ∧ SlT W C tp tq v3 [0] ∧ SlT W C tp tq v4 [1]
  | 10 => v = .pointer (some ⟨g, 0, none⟩)
  | 11 => ∃ x : Int, v = .int .i64 x ∧ 0 ≤ x ∧ x < 5
  | 12 => l.getD 16 false = false → ∃ (b j : Nat) (u : Value) (t : List Int), v = .pointer (some ⟨b, j, none⟩) ∧ C < b ∧ W.cell? ⟨b, j, none⟩ = some u ∧ SlT W C tp tq u t
  | 13 => l.getD 16 false = false → ∃ t : List Int, SlT W C tp tq v t
  | 14 => l.getD 16 false = false → ∃ (u : Value) (t : List Int), v = .agg #[.int .i64 f, .int .i64 z, u] ∧ SlT W C tp tq u t
  | 15 => l.getD 16 false = false → ∃ (u : Value) (t : List Int) (b : Nat), v = .slice (some ⟨b, 0, none⟩) 1 1 ∧ W.heap[b]? = some (.cells #[.int .i64 f, .int .i64 z, u] 77 (0, 0)) ∧ C < b ∧ SlT W C tp tq u t
  | 16 => l.getD 18 false = false → ∃ (x : Win) (t : List Int), x.from_ = f ∧ x.to_ = z ∧ W.heap[C]? = some (.cells #[tp, tq, .slice (some ⟨r, 0, none⟩) 2 2] 38 (0, 0)) ∧ CMid w (W.setCell ⟨C, 0, none⟩ v) g C r r0 r1 v tq Q (L ++ [x]) (TL ++ [t])
  | 17 => v = .pointer (some ⟨C, 0, none⟩)
  | _ => True
def B11 (w : World) (g C r : Nat) (r0 r1 : Int) (tp tq : Value) (Q : List Int) (L : List Win) (TL : List (List Int)) (f z : Int) (l : Array Bool) (W : World) : Prop :=
  (l.getD 16 false = false → CMid w W g C r r0 r1 tp tq Q L TL) ∧ (l.getD 18 false = true → ∃ (tp' : Value) (x : Win) (t : List Int), CMid w W g C r r0 r1 tp' tq Q (L ++ [x]) (TL ++ [t]) ∧ x.from_ = f ∧ x.to_ = z)
section
variable {w : World} {g C r : Nat} {r0 r1 : Int} {tp tq : Value} {Q : List Int} {L : List Win} {TL : List (List Int)} {f z : Int} {l : Array Bool} {W W' : World}
theorem G11.mono {k : Nat} {u : Value} (h : G11 w g C r r0 r1 tp tq Q L TL f z l k u W) (i : Nat) : G11 w g C r r0 r1 tp tq Q L TL f z (l.setIfInBounds i true) k u W := by
  match k with
  | 0 => exact h
  | 1 => exact h
  | 2 => exact h
  | 3 => exact h
  | 4 => exact h
  | 5 => exact fun hl => h (set_false hl)
  | 6 => exact fun hl => h (set_false hl)
  | 7 => exact fun hl => h (set_false hl)
  | 8 => exact fun hl => h (set_false hl)
  | 9 => exact fun hl => h (set_false hl)
  | 10 => exact h
  | 11 => exact h
  | 12 => exact fun hl => h (set_false hl)
  | 13 => exact fun hl => h (set_false hl)
  | 14 => exact fun hl => h (set_false hl)
  | 15 => exact fun hl => h (set_false hl)
  | 16 => exact fun hl => h (set_false hl)
  | 17 => exact h
  | _ + 18 => exact h
/-- Where the dice were thrown, or memory was made. -/
theorem G11.grow {k : Nat} {u : Value} (h : G11 w g C r r0 r1 tp tq Q L TL f z l k u W) (i : Nat) (hgC : g < C) (hg : W.grownBy W' (some g)) (hk : l.getD k false = true) (h16 : l.getD 16 false = false) : G11 w g C r r0 r1 tp tq Q L TL f z (l.setIfInBounds i true) k u W' := by
  have hb : ∀ b, C < b → b < W.heap.size → W'.heap[b]? = W.heap[b]? := fun b h1 h2 => hg.block b h2 (by simp; omega)
  match k with
  | 0 => exact h
  | 1 => exact h
  | 2 => exact h
  | 3 => exact h
  | 4 => exact h
  | 5 => exact fun hl => (h h16).grow hgC hg
  | 6 => exact fun hl => (h h16).grow hgC hg
  | 7 => exact fun hl => (h h16).grow hgC hg
  | 8 => exact fun hl => (h h16).grow hgC hg
  | 9 =>
    intro _
    obtain ⟨b, v1, v2, v3, v4, e, hC, hh, s1, s2, s3, s4⟩ := h h16
    exact ⟨b, v1, v2, v3, v4, e, hC, (hb b hC (lt_of_heap hh)).trans hh, s1.grow hgC hg, s2.grow hgC hg, s3.grow hgC hg, s4.grow hgC hg⟩
  | 10 => exact h
  | 11 => exact h
  | 12 =>
    intro _
    obtain ⟨b, j, u', t, e, hC, hh, s⟩ := h h16
    exact ⟨b, j, u', t, e, hC, hg.cell hh (by simp; omega), s.grow hgC hg⟩
  | 13 =>
    intro _
    obtain ⟨t, s⟩ := h h16
    exact ⟨t, s.grow hgC hg⟩
  | 14 =>
    intro _
    obtain ⟨u', t, e, s⟩ := h h16
    exact ⟨u', t, e, s.grow hgC hg⟩
  | 15 =>
    intro _
    obtain ⟨u', t, b, e, hh, hC, s⟩ := h h16
    exact ⟨u', t, b, e, (hb b hC (lt_of_heap hh)).trans hh, hC, s.grow hgC hg⟩
  | 16 => rw [h16] at hk; cases hk
  | 17 => exact h
  | _ + 18 => exact h
theorem B11.mono (h : B11 w g C r r0 r1 tp tq Q L TL f z l W) {i : Nat} (hi : i ≠ 18) : B11 w g C r r0 r1 tp tq Q L TL f z (l.setIfInBounds i true) W :=
  ⟨fun hl => h.1 (set_false hl), fun hl => h.2 (by rwa [getD_set_ne false hi] at hl)⟩
theorem B11.grow (h : B11 w g C r r0 r1 tp tq Q L TL f z l W) {i : Nat} (hi : i ≠ 18) (hd : DiceAt W' g) (hg : W.grownBy W' (some g)) (h18 : l.getD 18 false = false) : B11 w g C r r0 r1 tp tq Q L TL f z (l.setIfInBounds i true) W' :=
  ⟨fun hl => (h.1 (set_false hl)).threw hd hg, fun hl => by rw [getD_set_ne false hi, h18] at hl; cases hl⟩
theorem CMid.hgC (h : CMid w W g C r r0 r1 tp tq Q L TL) : g < C := by have := h.ho; have := h.hr2; have := h.hrC; omega
/-- Memory for teams was made. -/
theorem SlT.new (h : CMid w W g C r r0 r1 tp tq Q L TL) (t : List Int) (ht : t ∈ [[0, 1], [0], [1], []]) : SlT (W.alloc (.cells (vi t).toArray 3)) C tp tq (.slice (some ⟨W.heap.size, 0, none⟩) t.length t.length) t := by
  have hC := h.size
  refine ⟨_, _, _, rfl, rfl, ht, .inr ⟨W.heap.size, rfl, heap_alloc_new _ _, hC, fun e => ?_, fun e => ?_⟩⟩
  · have := (h.ownp.lt _ e).2; omega
  · have := (h.ownq.lt _ e).2; omega
end
end Go.Proofs.Ytnconhbambhhgaa
