/- ledger.Add. -/
import Derived.Test.YtogcpjkgliijmaaAdd
namespace Go.Proofs.Ytogcpjkgliijmaa
open Go.RowKit

/-- A slice value that reads as decisions, in a block from base on. -/
def DV (W : World) (base : Nat) (v : Value) (l : List Dec) : Prop :=
  ∃ (p : Option Addr) (c : Nat), v = .slice p l.length c ∧ l.length ≤ c ∧ (l = [] ∨ ∃ b, p = some ⟨b, 0, none⟩ ∧ base ≤ b ∧ Row W b 0 l)

theorem dv_of_own {W : World} {base : Nat} {v : Value} {l : List Dec} (h : W.ownsRow base 27 5 v l.length (flat l)) : DV W base v l := by
  rcases h.2 with ⟨hv, h0⟩ | ⟨q, cap, cur, hv, hq, hh, hc, hcm, hcs, htk⟩
  · have : l = [] := List.length_eq_zero_iff.1 h0
    subst this
    exact ⟨none, 0, hv, Nat.le_refl _, .inl rfl⟩
  · subst hv
    exact ⟨some ⟨q, 0, none⟩, cap, rfl, hc, .inr ⟨q, rfl, hq, row_of_own ⟨h.1, .inr ⟨q, cap, cur, rfl, hq, hh, hc, hcm, hcs, htk⟩⟩⟩⟩

theorem DV.mono {W W' : World} {base : Nat} {v : Value} {l : List Dec} (h : DV W base v l) (hb : Below W.heap.size W W') : DV W' base v l := by
  obtain ⟨p, c, hv, hc, h⟩ := h
  refine ⟨p, c, hv, hc, ?_⟩
  rcases h with h | ⟨b, hp, hq, h⟩
  · exact .inl h
  · exact .inr ⟨b, hp, hq, h.mono hb⟩

/-- On the way through Add. -/
structure AInv (w W : World) (B : Nat) (v : Value) (l : List Dec) (d : Dec) : Prop where
  own : W.ownsRow (B + 3) 27 5 v l.length (flat l)
  b0 : W.heap[B]? = some (.cells #[v] 25 (0, 0))
  b1 : W.heap[B + 1]? = some (.cells (cells5 d).toArray 27 (0, 0))
  b2 : W.heap[B + 1 + 1]? = some (.cells #[.slice none 0 0] 25 (0, 0))
  below : Below B w W
  eq : B = w.heap.size

theorem AInv.size {w W : World} {B : Nat} {v : Value} {l : List Dec} {d : Dec} (h : AInv w W B v l d) : B + 3 ≤ W.heap.size := by have := lt_of_heap h.b2; omega

theorem own_below {W W' : World} {base : Nat} {e : TypeId} {size : Nat} {v : Value} {n : Nat} {xs : List Value} (h : W.ownsRow base e size v n xs) (hb : Below W.heap.size W W') : W'.ownsRow base e size v n xs :=
  h.kept (row := none) ⟨hb.os, hb.tape, hb.output, hb.size, fun k hk _ => hb.block k hk⟩ (by cases hv : v.ownBlock <;> simp)

theorem AInv.below_ {w W W' : World} {B : Nat} {v : Value} {l : List Dec} {d : Dec} (h : AInv w W B v l d) (hb : Below W.heap.size W W') : AInv w W' B v l d := by
  have hs := h.size
  exact ⟨own_below h.own hb, (hb.block _ (by omega)).trans h.b0, (hb.block _ (by omega)).trans h.b1, (hb.block _ (by omega)).trans h.b2, h.below.trans (hb.mono (by omega)), h.eq⟩

def AddPost (w : World) (l : List Dec) (n : Int) (e : Ending) (w' : World) : Prop :=
  ∃ v, e = .returned (.tuple #[.agg #[v], .int .i64 n]) ∧ DV w' w.heap.size v l ∧ Below w.heap.size w w'

theorem res19_run {W : World} {b : Nat} {v : Value} {n : Int} {a : Act} (hh : W.heap[b]? = some (.cells #[v] 25 (0, 0))) (ht : a.tmps.getD 4 undef = .pointer (some ⟨b, 0, none⟩)) (ht5 : a.tmps.getD 5 undef = .int .i64 n) :
    (results Try.f19 a.tmps).run Try.prog W = .ok (.tuple #[.agg #[v], .int .i64 n]) W := by
  have e0 := cell_of_row _ b 0 _ _ _ hh
  simp at e0 ht ht5
  clear hh
  simp [results, Try.results19, go_sem, ht, ht5, e0]

/-- What the result is, where it is stored. -/
theorem add_fin {w W : World} {B : Nat} {v : Value} {l : List Dec} {d : Dec} {n : Int} {a : Act} (h : AInv w W B v l d)
    (ht : a.tmps.getD 4 undef = .pointer (some ⟨B + 1 + 1, 0, none⟩)) (ht5 : a.tmps.getD 5 undef = .int .i64 n) (hd : a.defers = []) :
    bodyPost Try.prog Try.f19 (AddPost w l n) .ret a (W.setCell ⟨B + 1 + 1, 0, none⟩ v) := by
  have hs := h.size; have he := h.eq
  have hr := heap_setCell_same W (B + 1 + 1) 0 _ _ v h.b2
  have hr' : (W.setCell ⟨B + 1 + 1, 0, none⟩ v).heap[B + 1 + 1]? = some (.cells #[v] 25 (0, 0)) := by rw [hr]; rfl
  refine bodyPost_ret (res19_run hr' ht ht5) hd ?_
  have hown : (W.setCell ⟨B + 1 + 1, 0, none⟩ v).ownsRow (B + 3) 27 5 v l.length (flat l) := by
    refine ⟨h.own.1, ?_⟩
    rcases h.own.2 with hn | ⟨q, cap, cur, hv, hq, hh, r⟩
    · exact .inl hn
    · exact .inr ⟨q, cap, cur, hv, hq, (heap_setCell_other W ⟨B + 1 + 1, 0, none⟩ q v (by simp only; omega)).trans hh, r⟩
  obtain ⟨p, c, hv, hc, hx⟩ := dv_of_own hown
  refine ⟨v, rfl, ⟨p, c, hv, hc, ?_⟩, ?_⟩
  · rcases hx with hx | ⟨b, hp, hq, hrow⟩
    · exact .inl hx
    · exact .inr ⟨b, hp, by omega, hrow⟩
  · rw [← he]; exact h.below.setCell (by simp only; omega) _

theorem AInv.appended {w W W5 : World} {B : Nat} {v v' : Value} {l : List Dec} {d : Dec} (h : AInv w W B v l d)
    (ho : W5.ownsRow (B + 3) 27 5 v' (l.length + 1) (flat l ++ cells5 d)) (hg : (W.alloc (.cells (cells5 d).toArray 27)).grownBy W5 v.ownBlock) : AInv w (W5.setCell ⟨B, 0, none⟩ v') B v' (l ++ [d]) d := by
  have hs := h.size; have he := h.eq
  have hg2 : W.grownBy W5 v.ownBlock := (World.grownBy_alloc W _ _).trans hg
  have hb5 : ∀ k, k < B + 3 → W5.heap[k]? = W.heap[k]? := fun k hk => hg2.block k (by omega) (fun e => by have := (h.own.lt k e.symm).1; omega)
  have hb6 : ∀ k, k ≠ B → (W5.setCell ⟨B, 0, none⟩ v').heap[k]? = W5.heap[k]? := fun k hk => heap_setCell_other W5 ⟨B, 0, none⟩ k v' hk
  refine ⟨?_, ?_, ?_, ?_, ?_, h.eq⟩
  · rw [flat_snoc, List.length_append]
    refine ⟨ho.1, ?_⟩
    rcases ho.2 with hn | ⟨q, cap, cur, hv, hq, hh, r⟩
    · exact .inl hn
    · exact .inr ⟨q, cap, cur, hv, hq, (hb6 _ (by omega)).trans hh, r⟩
  · have h5 := (hb5 B (by omega)).trans h.b0
    rw [heap_setCell_same W5 B 0 _ _ v' h5]; rfl
  · rw [hb6 _ (by omega), hb5 _ (by omega)]; exact h.b1
  · rw [hb6 _ (by omega), hb5 _ (by omega)]; exact h.b2
  · refine ⟨hg2.os.trans h.below.os, hg2.tape.trans h.below.tape, hg2.output.trans h.below.output, ?_, fun k hk => ?_⟩
    · simp only [World.setCell, Array.size_modify]; exact Nat.le_trans h.below.size hg2.size
    · rw [hb6 k (by omega), hb5 k (by omega)]; exact h.below.block k hk

theorem AInv.after {w W W5 : World} {B : Nat} {v : Value} {l : List Dec} {d : Dec} (h : AInv w W B v l d) (hg : (W.alloc (.cells (cells5 d).toArray 27)).grownBy W5 v.ownBlock) :
    W5.cell? ⟨B, 0, none⟩ = some v ∧ W5.frozen? ⟨B, 0, none⟩ = false ∧ W5.cell? ⟨B + 1 + 1, 0, none⟩ = some (.slice none 0 0) ∧ W5.frozen? ⟨B + 1 + 1, 0, none⟩ = false := by
  have hs := h.size
  have hg2 : W.grownBy W5 v.ownBlock := (World.grownBy_alloc W _ _).trans hg
  have hb5 : ∀ k, k < B + 3 → W5.heap[k]? = W.heap[k]? := fun k hk => hg2.block k (by omega) (fun e => by have := (h.own.lt k e.symm).1; omega)
  have h0 := (hb5 B (by omega)).trans h.b0
  have h2 := (hb5 (B + 1 + 1) (by omega)).trans h.b2
  exact ⟨by rw [cell_of_row _ B 0 _ _ _ h0]; rfl, by simp [World.frozen?, h0], by rw [cell_of_row _ (B + 1 + 1) 0 _ _ _ h2]; rfl, by simp [World.frozen?, h2]⟩
end Go.Proofs.Ytogcpjkgliijmaa
