/- move.Ledger. -/
import Derived.Test.YtogcpjkgliijmaaGood
import Derived.Test.YtogcpjkgliijmaaDecide
import Derived.OwnWalk
namespace Go.Proofs.Ytogcpjkgliijmaa
open Go.RowKit

theorem info27 : (Try.prog.info? 27).map (fun i => (i.zero, i.size, i.bytes)) = some (some (.agg #[.int .i64 0, .int .i64 0, .int .i64 0, .int .i64 0, .int .i64 0]), 5, 40) := by kernel_rfl

/-- On the way through Ledger: x is the last decision that was made. -/
structure LMid (w W : World) (g B : Nat) (v : Value) (l : List Dec) (x : Dec) : Prop where
  dice : DiceAt W g
  grown : w.grownBy W (some g)
  own : W.ownsRow (B + 3) 27 5 v l.length (flat l)
  c4 : W.heap[B]? = some (.cells #[.slice none 0 0] 25 (0, 0))
  c5 : W.heap[B + 1]? = some (.cells #[v] 25 (0, 0))
  c6 : W.heap[B + 1 + 1]? = some (.cells (cells5 x).toArray 27 (0, 0))
  eq : B = w.heap.size
  lt : g < B

theorem LMid.size {w W : World} {g B : Nat} {v : Value} {l : List Dec} {x : Dec} (h : LMid w W g B v l x) : B + 3 ≤ W.heap.size := by have := lt_of_heap h.c6; omega

theorem LMid.threw {w W W2 : World} {g B : Nat} {v : Value} {l : List Dec} {x : Dec} (h : LMid w W g B v l x) (hd : DiceAt W2 g) (hg : W.grownBy W2 (some g)) : LMid w W2 g B v l x := by
  have hs := h.size; have hl := h.lt
  refine ⟨hd, h.grown.trans hg, h.own.kept hg (.inr fun e => ?_), (hg.block _ (by omega) (by simp; omega)).trans h.c4, (hg.block _ (by omega) (by simp; omega)).trans h.c5, (hg.block _ (by omega) (by simp; omega)).trans h.c6, h.eq, h.lt⟩
  have := (h.own.lt g e).1
  omega

theorem LMid.store {w W : World} {g B : Nat} {v : Value} {l : List Dec} {x : Dec} (h : LMid w W g B v l x) (d : Dec) : LMid w (resW W (B + 1 + 1) d.day d.known d.kind d.subj d.value) g B v l d := by
  have hs := h.size; have hl := h.lt; have he := h.eq
  have hb := fun k (hk : k ≠ B + 1 + 1) => resW_block (w := W) d.day d.known d.kind d.subj d.value k hk
  refine ⟨resW_dice _ _ _ _ _ h.dice (by omega), resW_grown _ _ _ _ _ h.grown (by omega), ?_, (hb _ (by omega)).trans h.c4, (hb _ (by omega)).trans h.c5, ?_, h.eq, h.lt⟩
  · refine ⟨h.own.1, ?_⟩
    rcases h.own.2 with hn | ⟨q, cap, cur, hv, hq, hh, r⟩
    · exact .inl hn
    · exact .inr ⟨q, cap, cur, hv, hq, (hb _ (by omega)).trans hh, r⟩
  · unfold resW
    have h1 := heap_setCell_same W (B + 1 + 1) 0 _ _ (.int .i64 d.day) h.c6
    have h2 := heap_setCell_same _ (B + 1 + 1) 1 _ _ (.int .i64 d.known) h1
    have h3 := heap_setCell_same _ (B + 1 + 1) 2 _ _ (.int .i64 d.kind) h2
    have h4 := heap_setCell_same _ (B + 1 + 1) 3 _ _ (.int .i64 d.subj) h3
    have h5 := heap_setCell_same _ (B + 1 + 1) 4 _ _ (.int .i64 d.value) h4
    rw [h5]; rfl

theorem LMid.appended {w W W5 : World} {g B : Nat} {v v' : Value} {l : List Dec} {d : Dec} (h : LMid w W g B v l d)
    (ho : W5.ownsRow (B + 3) 27 5 v' (l.length + 1) (flat l ++ cells5 d)) (hg : (W.alloc (.cells (cells5 d).toArray 27)).grownBy W5 v.ownBlock) : LMid w (W5.setCell ⟨B + 1, 0, none⟩ v') g B v' (l ++ [d]) d := by
  have hs := h.size; have hl := h.lt; have he := h.eq
  have hg2 : W.grownBy W5 v.ownBlock := (World.grownBy_alloc W _ _).trans hg
  have hne : ∀ k, k < B + 3 → some k ≠ v.ownBlock := fun k hk e => by have := (h.own.lt k e.symm).1; omega
  have hb5 : ∀ k, k < B + 3 → W5.heap[k]? = W.heap[k]? := fun k hk => hg2.block k (by omega) (hne k hk)
  have hb6 : ∀ k, k ≠ B + 1 → (W5.setCell ⟨B + 1, 0, none⟩ v').heap[k]? = W5.heap[k]? := fun k hk => heap_setCell_other W5 ⟨B + 1, 0, none⟩ k v' hk
  have hz : (W5.setCell ⟨B + 1, 0, none⟩ v').heap.size = W5.heap.size := by simp [World.setCell]
  refine ⟨?_, ⟨hg2.os.trans h.grown.os, hg2.tape.trans h.grown.tape, hg2.output.trans h.grown.output, ?_, fun k hk hne' => ?_⟩, ?_, ?_, ?_, ?_, h.eq, h.lt⟩
  · obtain ⟨p, n, c, k, h0, h1, h2, h3⟩ := h.dice
    refine ⟨p, n, c, k, (hb6 g (by omega)).trans ((hb5 g (by omega)).trans h0), h1, h2, h3.keep fun b o u hb' hu => ?_⟩
    rw [World.cell?_of_block (a := ⟨b, o, none⟩) ((hb6 b (by omega)).trans (hb5 b (by omega)))]; exact hu
  · rw [hz]; exact Nat.le_trans h.grown.size hg2.size
  · rw [hb6 k (by omega), hb5 k (by omega)]; exact h.grown.block k hk hne'
  · rw [flat_snoc, List.length_append]
    refine ⟨ho.1, ?_⟩
    rcases ho.2 with hn | ⟨q, cap, cur, hv, hq, hh, r⟩
    · exact .inl hn
    · exact .inr ⟨q, cap, cur, hv, hq, (hb6 _ (by omega)).trans hh, r⟩
  · rw [hb6 _ (by omega), hb5 _ (by omega)]; exact h.c4
  · have h5 := (hb5 (B + 1) (by omega)).trans h.c5
    rw [heap_setCell_same W5 (B + 1) 0 _ _ v' h5]; rfl
  · rw [hb6 _ (by omega), hb5 _ (by omega)]; exact h.c6

theorem own_form {w : World} {base : Nat} {e : TypeId} {size : Nat} {v : Value} {n : Nat} {xs : List Value} (h : w.ownsRow base e size v n xs) (hn : 0 < n) : ∃ q cap, v = .slice (some ⟨q, 0, none⟩) n cap := by
  rcases h.2 with ⟨_, h0⟩ | ⟨q, cap, cur, hv, _⟩
  · omega
  · exact ⟨q, cap, hv⟩

theorem LMid.after {w W W5 : World} {g B : Nat} {v : Value} {l : List Dec} {d : Dec} (h : LMid w W g B v l d) (hg : (W.alloc (.cells (cells5 d).toArray 27)).grownBy W5 v.ownBlock) :
    W5.cell? ⟨B + 1, 0, none⟩ = some v ∧ W5.frozen? ⟨B + 1, 0, none⟩ = false := by
  have hs := h.size
  have hg2 : W.grownBy W5 v.ownBlock := (World.grownBy_alloc W _ _).trans hg
  have h5 := (hg2.block (B + 1) (by omega) (fun e => by have := (h.own.lt _ e.symm).1; omega)).trans h.c5
  exact ⟨by rw [cell_of_row _ (B + 1) 0 _ _ _ h5]; rfl, by simp [World.frozen?, h5]⟩

def Made (w : World) (g most : Nat) (e : Ending) (w' : World) : Prop :=
  ∃ (l : List Dec) (p : Option Addr) (c : Nat), e = .returned (.agg #[.slice p l.length c]) ∧ Good l ∧ l.length ≤ most ∧ l.length ≤ c ∧ ((l.getLastD dz).day ≤ 2 * l.length ∧ (l.getLastD dz).known ≤ l.length) ∧
    (l = [] ∨ ∃ b, p = some ⟨b, 0, none⟩ ∧ w.heap.size ≤ b ∧ Row w' b 0 l) ∧ DiceAt w' g ∧ w.grownBy w' (some g)


theorem res16_run {W : World} {b : Nat} {v : Value} {a : Act} (hh : W.heap[b]? = some (.cells #[v] 25 (0, 0))) (ht : a.tmps.getD 4 undef = .pointer (some ⟨b, 0, none⟩)) :
    (results Try.f16 a.tmps).run Try.prog W = .ok (.agg #[v]) W := by
  have e0 := cell_of_row _ b 0 _ _ _ hh
  simp at e0 ht
  clear hh
  simp [results, Try.results16, go_sem, ht, e0]

theorem made_fin {w W : World} {g B most : Nat} {v : Value} {l : List Dec} {x : Dec} {a : Act} (h : LMid w W g B v l x) (hg : Good l) (hl : l.length ≤ most) (hs : (l.getLastD dz).day ≤ 2 * l.length ∧ (l.getLastD dz).known ≤ l.length)
    (ht : a.tmps.getD 4 undef = .pointer (some ⟨B, 0, none⟩)) (hd : a.defers = []) : bodyPost Try.prog Try.f16 (Made w g most) .ret a (W.setCell ⟨B, 0, none⟩ v) := by
  have hlt := h.lt; have hsz := h.size; have he := h.eq
  have hr := heap_setCell_same W B 0 _ _ v h.c4
  have hr' : (W.setCell ⟨B, 0, none⟩ v).heap[B]? = some (.cells #[v] 25 (0, 0)) := by rw [hr]; rfl
  have ho : ∀ k, k ≠ B → (W.setCell ⟨B, 0, none⟩ v).heap[k]? = W.heap[k]? := fun k hk => heap_setCell_other W ⟨B, 0, none⟩ k v hk
  refine bodyPost_ret (res16_run hr' ht) hd ?_
  have hgr : w.grownBy (W.setCell ⟨B, 0, none⟩ v) (some g) := grown_set_new h.grown (by omega) 0 v
  have hdi : DiceAt (W.setCell ⟨B, 0, none⟩ v) g := by
    obtain ⟨p, n, c, k, h0, h1, h2, h3⟩ := h.dice
    refine ⟨p, n, c, k, (ho g (by omega)).trans h0, h1, h2, h3.keep fun b o u hb' hu => ?_⟩
    rw [World.cell?_of_block (a := ⟨b, o, none⟩) (ho b (by omega))]; exact hu
  rcases h.own.2 with ⟨hv, h0⟩ | ⟨q, cap, cur, hv, hq, hh, hc, hcm, hcs, htk⟩
  · subst hv
    have : l = [] := List.length_eq_zero_iff.1 h0
    subst this
    exact ⟨[], none, 0, rfl, hg, hl, Nat.le_refl _, hs, .inl rfl, hdi, hgr⟩
  · subst hv
    have hown2 : (W.setCell ⟨B, 0, none⟩ (.slice (some ⟨q, 0, none⟩) l.length cap)).ownsRow (B + 3) 27 5 (.slice (some ⟨q, 0, none⟩) l.length cap) l.length (flat l) :=
      ⟨h.own.1, .inr ⟨q, cap, cur, rfl, hq, (ho q (by omega)).trans hh, hc, hcm, hcs, htk⟩⟩
    exact ⟨l, some ⟨q, 0, none⟩, cap, rfl, hg, hl, hc, hs, .inr ⟨q, rfl, by omega, row_of_own hown2⟩, hdi, hgr⟩
end Go.Proofs.Ytogcpjkgliijmaa
