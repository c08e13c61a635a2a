/- LedgerAdds: what stays on the way. -/
import Derived.Test.YtogcpjkgliijmaaRefEq
import Derived.Deep.AppendLies
namespace Go.Proofs.Ytogcpjkgliijmaa
open Go.RowKit

theorem Row.blk {W W' : World} {b o : Nat} {l : List Dec} (h : Row W b o l) (he : W'.heap[b]? = W.heap[b]?) : Row W' b o l := fun j hj => by
  obtain ⟨h0, h1, h2, h3, h4⟩ := h j hj
  refine ⟨?_, ?_, ?_, ?_, ?_⟩
  · rw [World.cell?_of_block (a := ⟨b, _, none⟩) he]; exact h0
  · rw [World.cell?_of_block (a := ⟨b, _, none⟩) he]; exact h1
  · rw [World.cell?_of_block (a := ⟨b, _, none⟩) he]; exact h2
  · rw [World.cell?_of_block (a := ⟨b, _, none⟩) he]; exact h3
  · rw [World.cell?_of_block (a := ⟨b, _, none⟩) he]; exact h4

/-- Decisions in a block from base on. -/
def Rd (W : World) (base : Nat) (p : Option Addr) (l : List Dec) : Prop := l = [] ∨ ∃ b o, p = some ⟨b, o, none⟩ ∧ base ≤ b ∧ b < W.heap.size ∧ Row W b o l

theorem Rd.keep {W W' : World} {base : Nat} {p : Option Addr} {l : List Dec} (h : Rd W base p l) (hs : W.heap.size ≤ W'.heap.size) (hb : ∀ k, base ≤ k → k < W.heap.size → W'.heap[k]? = W.heap[k]?) : Rd W' base p l := by
  rcases h with h | ⟨b, o, hp, h1, h2, h3⟩
  · exact .inl h
  · exact .inr ⟨b, o, hp, h1, by omega, h3.blk (hb b h1 h2)⟩

theorem Rd.lower {W : World} {base base' : Nat} {p : Option Addr} {l : List Dec} (h : Rd W base p l) (hb : base' ≤ base) : Rd W base' p l := by
  rcases h with h | ⟨b, o, hp, h1, h2, h3⟩
  · exact .inl h
  · exact .inr ⟨b, o, hp, by omega, h2, h3⟩

theorem Rd.reads {W : World} {base : Nat} {p : Option Addr} {l : List Dec} (h : Rd W base p l) : Reads W p l := by
  rcases h with h | ⟨b, o, hp, _, _, h3⟩
  · exact .inl h
  · exact .inr ⟨b, o, hp, h3⟩

structure AD (w W : World) (g B : Nat) (v : Value) (p : Option Addr) (c : Nat) (l : List Dec) (x : Dec) : Prop where
  dice : DiceAt W g
  grown : w.grownBy W (some g)
  own : W.ownsRow (B + 2) 27 5 v l.length (flat l)
  c6 : W.heap[B]? = some (.cells #[.slice p l.length c] 25 (0, 0))
  c7 : W.heap[B + 1]? = some (.cells (cells5 x).toArray 27 (0, 0))
  rd : Rd W (B + 2) p l
  cap : l.length ≤ c
  eq : B = w.heap.size
  lt : g < B

variable {w W : World} {g B : Nat} {v : Value} {p : Option Addr} {c : Nat} {l : List Dec} {x : Dec}

theorem AD.size (h : AD w W g B v p c l x) : B + 2 ≤ W.heap.size := by have := lt_of_heap h.c7; omega

theorem grown_of_below {W W' : World} (hb : Below W.heap.size W W') (r : Option Nat) : W.grownBy W' r := ⟨hb.os, hb.tape, hb.output, hb.size, fun k hk _ => hb.block k hk⟩

theorem AD.below (h : AD w W g B v p c l x) {W' : World} (hb : Below W.heap.size W W') : AD w W' g B v p c l x := by
  have hs := h.size
  exact ⟨h.dice.below hb, h.grown.trans (grown_of_below hb _), own_below h.own hb, (hb.block _ (by omega)).trans h.c6, (hb.block _ (by omega)).trans h.c7, h.rd.keep hb.size (fun k _ hk => hb.block k hk), h.cap, h.eq, h.lt⟩

theorem AD.threw (h : AD w W g B v p c l x) {W2 : World} (hd : DiceAt W2 g) (hg : W.grownBy W2 (some g)) : AD w W2 g B v p c l x := by
  have hs := h.size; have hl := h.lt
  refine ⟨hd, h.grown.trans hg, h.own.kept hg (.inr fun e => ?_), (hg.block _ (by omega) (by simp; omega)).trans h.c6, (hg.block _ (by omega) (by simp; omega)).trans h.c7, h.rd.keep hg.size (fun k hk1 hk => hg.block k hk (by simp; omega)), h.cap, h.eq, h.lt⟩
  have := (h.own.lt g e).1
  omega

theorem AD.store (h : AD w W g B v p c l x) (d : Dec) : AD w (resW W (B + 1) d.day d.known d.kind d.subj d.value) g B v p c l d := by
  have hs := h.size; have hl := h.lt; have he := h.eq
  have hb := fun k (hk : k ≠ B + 1) => resW_block (w := W) d.day d.known d.kind d.subj d.value k hk
  refine ⟨resW_dice _ _ _ _ _ h.dice (by omega), resW_grown _ _ _ _ _ h.grown (by omega), ?_, (hb _ (by omega)).trans h.c6, ?_, h.rd.keep (by rw [resW_size]; exact Nat.le_refl _) (fun k hk _ => hb k (by omega)), h.cap, h.eq, h.lt⟩
  · refine ⟨h.own.1, ?_⟩
    rcases h.own.2 with hn | ⟨q, cap, cur, hv, hq, hh, r⟩
    · exact .inl hn
    · exact .inr ⟨q, cap, cur, hv, hq, (hb _ (by omega)).trans hh, r⟩
  · unfold resW
    have h1 := heap_setCell_same W (B + 1) 0 _ _ (.int .i64 d.day) h.c7
    have h2 := heap_setCell_same _ (B + 1) 1 _ _ (.int .i64 d.known) h1
    have h3 := heap_setCell_same _ (B + 1) 2 _ _ (.int .i64 d.kind) h2
    have h4 := heap_setCell_same _ (B + 1) 3 _ _ (.int .i64 d.subj) h3
    have h5 := heap_setCell_same _ (B + 1) 4 _ _ (.int .i64 d.value) h4
    rw [h5]; rfl

/-- Behind the append, and with the new ledger stored. -/
theorem AD.appended (h : AD w W g B v p c l x) {W5 : World} {v' : Value} {p' : Option Addr} {c' : Nat} {d : Dec} (ho : W5.ownsRow (B + 2) 27 5 v' (l.length + 1) (flat l ++ cells5 d))
    (hg : W.grownBy W5 v.ownBlock) (hr : Rd W (B + 2) p' (l ++ [d])) (hne : ∀ b o, p' = some ⟨b, o, none⟩ → v.ownBlock ≠ some b) (hc' : l.length + 1 ≤ c') (hx : x = d) :
    AD w (W5.setCell ⟨B, 0, none⟩ (.slice p' (l.length + 1) c')) g B v' p' c' (l ++ [d]) d := by
  subst hx
  have hs := h.size; have hl := h.lt; have he := h.eq
  have hown : ∀ k, k < B + 2 → some k ≠ v.ownBlock := fun k hk e => by have := (h.own.lt k e.symm).1; omega
  have hb5 : ∀ k, k < B + 2 → W5.heap[k]? = W.heap[k]? := fun k hk => hg.block k (by omega) (hown k hk)
  have hb6 : ∀ k, k ≠ B → (W5.setCell ⟨B, 0, none⟩ (.slice p' (l.length + 1) c')).heap[k]? = W5.heap[k]? := fun k hk => heap_setCell_other W5 ⟨B, 0, none⟩ k _ hk
  have hz : (W5.setCell ⟨B, 0, none⟩ (.slice p' (l.length + 1) c')).heap.size = W5.heap.size := by simp [World.setCell]
  have hsz := hg.size
  refine ⟨?_, ⟨hg.os.trans h.grown.os, hg.tape.trans h.grown.tape, hg.output.trans h.grown.output, ?_, fun k hk hne' => ?_⟩, ?_, ?_, ?_, ?_, by simpa using hc', h.eq, h.lt⟩
  · obtain ⟨p, n, c, k, h0, h1, h2, h3⟩ := h.dice
    refine ⟨p, n, c, k, (hb6 g (by omega)).trans ((hb5 g (by omega)).trans h0), h1, h2, h3.keep fun b o u hb' hu => ?_⟩
    rw [World.cell?_of_block (a := ⟨b, o, none⟩) ((hb6 b (by omega)).trans (hb5 b (by omega)))]; exact hu
  · rw [hz]; exact Nat.le_trans h.grown.size hg.size
  · rw [hb6 k (by omega), hb5 k (by omega)]; exact h.grown.block k hk hne'
  · rw [flat_snoc, List.length_append]
    refine ⟨ho.1, ?_⟩
    rcases ho.2 with hn | ⟨q, cap, cur, hv, hq, hh, r⟩
    · exact .inl hn
    · exact .inr ⟨q, cap, cur, hv, hq, (hb6 _ (by omega)).trans hh, r⟩
  · have h5 := (hb5 B (by omega)).trans h.c6
    rw [heap_setCell_same W5 B 0 _ _ _ h5, List.length_append]; rfl
  · rw [hb6 _ (by omega), hb5 _ (by omega)]; exact h.c7
  · rcases hr with hr | ⟨b, o, hp, h1, h2, h3⟩
    · exact .inl hr
    · exact .inr ⟨b, o, hp, h1, by rw [hz]; omega, h3.blk ((hb6 b (by omega)).trans (hg.block b h2 (fun e => hne b o hp e.symm)))⟩
end Go.Proofs.Ytogcpjkgliijmaa
