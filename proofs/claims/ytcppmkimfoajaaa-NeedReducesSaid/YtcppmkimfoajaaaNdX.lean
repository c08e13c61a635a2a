/- A table of truth values in memory. -/
import Derived.Test.YtcppmkimfoajaaaNdW
import Derived.Test.YtcppmkimfoajaaaNdF
import Derived.Deep.AppendLies
import Derived.Deep.OwnRows
namespace Go.Proofs.Ytcppmkimfoajaaa
open Go.RowKit
set_option linter.all false

theorem info43 : (Try.prog.info? 43).map (fun i => (i.zero, i.size, i.bytes)) = some (some (.slice none 0 0), 1, 24) := by kernel_rfl
def rowA (n : Nat) (M : Nat → Nat → Bool) (i : Nat) : Array Value := ((List.range n).map fun j => .bool (M i j)).toArray
theorem rowA_get (n : Nat) (M : Nat → Nat → Bool) (i j : Nat) (hj : j < n) : (rowA n M i)[j]? = some (.bool (M i j)) := by
  unfold rowA
  rw [List.getElem?_toArray, List.getElem?_map, List.getElem?_range hj]; rfl
theorem rowA_size (n : Nat) (M : Nat → Nat → Bool) (i : Nat) : (rowA n M i).size = n := by unfold rowA; simp
theorem rowA_zero (n : Nat) (i : Nat) : madeCells #[Value.bool false] n = rowA n (fun _ _ => false) i := by
  unfold rowA madeCells
  apply Array.ext
  · simp
  · intro k h1 h2
    simp at h1 h2 ⊢
    rw [Nat.mod_one]; rfl
theorem info4 : (Try.prog.info? 4).map (fun i => (i.zero, i.size, i.bytes)) = some (some (.bool false), 1, 1) := by kernel_rfl
theorem make_row (n : Nat) (hn : n ≤ 1000) (i : Nat) (w : World) : (Instr.makeSlice 43 (.int .i64 (n : Int)) (.int .i64 (n : Int))).run Try.prog w = .ok (.slice (some ⟨w.heap.size, 0, none⟩) n n) (w.alloc (.cells (rowA n (fun _ _ => false) i) 4)) := by
  rw [← rowA_zero]
  exact run_make_row' 43 4 (.bool false) 1 (by kernel_rfl) info4 rfl .i64 .i64 n (by omega) (by omega) w
theorem rowA_set (n : Nat) (M : Nat → Nat → Bool) (i j : Nat) (hj : j < n) (v : Bool) : (rowA n M i).setIfInBounds j (.bool v) = rowA n (upd M i j v) i := by
  apply Array.ext
  · simp [rowA]
  · intro k h1 h2
    have hk : k < n := by simpa [rowA] using h2
    by_cases e : j = k
    · subst e
      simp [rowA, upd]
    · have e' : ¬ k = j := fun h => e h.symm
      simp [rowA, upd, Array.getElem_setIfInBounds, e, e']
theorem rowA_other (n : Nat) (M : Nat → Nat → Bool) (i j i' : Nat) (v : Bool) (h : i' ≠ i) : rowA n (upd M i j v) i' = rowA n M i' := by
  unfold rowA
  congr 1
  apply List.map_congr_left
  intro k _
  simp [upd, h]
/-- A table of n rows in memory: its rows lie in the blocks bs, from S on. -/
structure MatAt (S : Nat) (W : World) (q : Nat) (bs : List Nat) (n : Nat) (M : Nat → Nat → Bool) : Prop where
  asc : ∀ i j, i < j → j < n → bs.getD i 0 < bs.getD j 0
  low : ∀ i, i < n → S ≤ bs.getD i 0
  own : ∃ cur, W.heap[q]? = some (.cells cur 43 (0, 0)) ∧ ∀ i, i < n → cur[i]? = some (.slice (some ⟨bs.getD i 0, 0, none⟩) n n)
  rows : ∀ i, i < n → W.heap[bs.getD i 0]? = some (.cells (rowA n M i) 4 (0, 0))
section
variable {S : Nat} {W W' : World} {q : Nat} {bs : List Nat} {n : Nat} {M : Nat → Nat → Bool}
theorem MatAt.cellq (h : MatAt S W q bs n M) (i : Nat) (hi : i < n) : W.cell? ⟨q, i, none⟩ = some (.slice (some ⟨bs.getD i 0, 0, none⟩) n n) := by
  obtain ⟨cur, hc, hr⟩ := h.own
  rw [cell_of_row _ q i _ _ _ hc, hr i hi]
theorem MatAt.cellr (h : MatAt S W q bs n M) (i j : Nat) (hi : i < n) (hj : j < n) : W.cell? ⟨bs.getD i 0, j, none⟩ = some (.bool (M i j)) := by
  rw [cell_of_row _ _ j _ _ _ (h.rows i hi), rowA_get _ _ _ _ hj]
theorem MatAt.free (h : MatAt S W q bs n M) (i j : Nat) (hi : i < n) : W.frozen? ⟨bs.getD i 0, j, none⟩ = false := by
  have e := h.rows i hi
  generalize bs.getD i 0 = b at *
  simp [World.frozen?, e]
theorem MatAt.ne (h : MatAt S W q bs n M) (i : Nat) (hi : i < n) : q ≠ bs.getD i 0 := by
  intro e
  obtain ⟨cur, hc, _⟩ := h.own
  have := h.rows i hi
  rw [← e, hc] at this
  injection this with h1
  injection h1 with _ h2
  cases h2
theorem MatAt.step (h : MatAt S W q bs n M) (hb : Below W.heap.size W W') : MatAt S W' q bs n M := by
  refine ⟨h.asc, h.low, ?_, fun i hi => (hb.block _ (lt_of_heap (h.rows i hi))).trans (h.rows i hi)⟩
  obtain ⟨cur, hc, hr⟩ := h.own
  exact ⟨cur, (hb.block _ (lt_of_heap hc)).trans hc, hr⟩
theorem MatAt.drewN (h : MatAt S W q bs n M) (k : Nat) : MatAt S (W.drewN k) q bs n M := ⟨h.asc, h.low, h.own, h.rows⟩
theorem MatAt.set (h : MatAt S W q bs n M) (i j : Nat) (hi : i < n) (hj : j < n) (v : Bool) : MatAt S (W.setCell ⟨bs.getD i 0, j, none⟩ (.bool v)) q bs n (upd M i j v) := by
  refine ⟨h.asc, h.low, ?_, fun k hk => ?_⟩
  · obtain ⟨cur, hc, hr⟩ := h.own
    exact ⟨cur, (heap_setCell_other W ⟨bs.getD i 0, j, none⟩ q (.bool v) (h.ne i hi)).trans hc, hr⟩
  · by_cases e : k = i
    · subst e
      rw [heap_setCell_same W _ j _ _ _ (h.rows k hk), rowA_set _ _ _ _ hj]
    · rw [rowA_other _ _ _ _ _ _ e]
      refine (heap_setCell_other W ⟨bs.getD i 0, j, none⟩ _ (.bool v) ?_).trans (h.rows k hk)
      show bs.getD k 0 ≠ bs.getD i 0
      rcases Nat.lt_or_gt_of_ne e with h1 | h1
      · have := h.asc k i h1 hi; omega
      · have := h.asc i k h1 hk; omega
theorem MatAt.below (h : MatAt S W q bs n M) {w : World} (hb : Below S w W) (i j : Nat) (hi : i < n) (v : Value) : Below S w (W.setCell ⟨bs.getD i 0, j, none⟩ v) :=
  hb.setCell (h.low i hi) v
end
def slB (n : Nat) (b : Nat) : Value := .slice (some ⟨b, 0, none⟩) n n
/-- A table that is being made: k rows are there. -/
structure MatMk (S : Nat) (W : World) (v : Value) (bs : List Nat) (n k : Nat) : Prop where
  len : bs.length = k
  asc : ∀ i j, i < j → j < k → bs.getD i 0 < bs.getD j 0
  low : ∀ i, i < k → S ≤ bs.getD i 0
  own : W.ownsRow S 43 1 v k (bs.map (slB n))
  rows : ∀ i, i < k → W.heap[bs.getD i 0]? = some (.cells (rowA n (fun _ _ => false) i) 4 (0, 0))
theorem MatMk.done {S : Nat} {W : World} {v : Value} {bs : List Nat} {n : Nat} (h : MatMk S W v bs n n) (hn : 0 < n) : ∃ q c, v = .slice (some ⟨q, 0, none⟩) n c ∧ n ≤ c ∧ MatAt S W q bs n (fun _ _ => false) := by
  obtain ⟨hlen, h2⟩ := h.own
  rcases h2 with ⟨_, h0⟩ | ⟨q, cap, cur, hv, hbq, hh, hc, hc2, hs, ht⟩
  · omega
  · refine ⟨q, cap, hv, hc, h.asc, h.low, ⟨cur, hh, fun i hi => ?_⟩, h.rows⟩
    have e1 : (cur.toList.take (n * 1))[i]? = (bs.map (slB n))[i]? := by rw [ht]
    rw [List.getElem?_take, if_pos (by omega), List.getElem?_map, Array.getElem?_toList] at e1
    rw [e1, List.getD, List.getElem?_eq_getElem (by rw [h.len]; exact hi)]; rfl
theorem MatMk.snoc {S : Nat} {W W5 : World} {v : Value} {bs : List Nat} {n k g cap : Nat} {Wa : World} (h : MatMk S W v bs n k) (hWa : Wa.heap[W.heap.size]? = some (.cells (rowA n (fun _ _ => false) k) 4 (0, 0))) (hba : Below W.heap.size W Wa) (hS : S ≤ W.heap.size)
    (ho : W5.ownsRow S 43 1 (.slice (some ⟨g, 0, none⟩) (k + 1) cap) (k + 1) (bs.map (slB n) ++ [slB n W.heap.size])) (hg : Wa.grownBy W5 v.ownBlock) : MatMk S W5 (.slice (some ⟨g, 0, none⟩) (k + 1) cap) (bs ++ [W.heap.size]) n (k + 1) := by
  have hne : ∀ i, i < k → v.ownBlock ≠ some (bs.getD i 0) := by
    intro i hi e
    obtain ⟨_, h2⟩ := h.own
    rcases h2 with ⟨hv, _⟩ | ⟨q, cap, cur, hv, hbq, hh, hc, hc2, hs, ht⟩
    · rw [hv] at e; cases e
    · rw [hv] at e
      simp only [Value.ownBlock, Option.some.injEq] at e
      have := h.rows i hi
      rw [← e, hh] at this
      injection this with h1
      injection h1 with _ h2
      cases h2
  have hnew : v.ownBlock ≠ some W.heap.size := fun e => by have := (h.own.lt _ e).2; omega
  have gd1 : ∀ i, i < k → (bs ++ [W.heap.size]).getD i 0 = bs.getD i 0 := fun i hi => getD_snoc_lt _ _ _ (by rw [h.len]; exact hi)
  have gd2 : (bs ++ [W.heap.size]).getD k 0 = W.heap.size := getD_snoc_eq _ _ _ (by rw [h.len])
  refine ⟨by rw [List.length_append, h.len]; rfl, fun i j hij hj => ?_, fun i hi => ?_, by rw [List.map_append]; exact ho, fun i hi => ?_⟩
  · by_cases e : j = k
    · subst e
      rw [gd1 i hij, gd2]; exact lt_of_heap (h.rows i hij)
    · rw [gd1 i (by omega), gd1 j (by omega)]; exact h.asc i j hij (by omega)
  · by_cases e : i = k
    · subst e; rw [gd2]; exact hS
    · rw [gd1 i (by omega)]; exact h.low i (by omega)
  · by_cases e : i = k
    · subst e
      rw [gd2, hg.block _ (lt_of_heap hWa) (fun e => hnew e.symm)]; exact hWa
    · have h1 := h.rows i (by omega)
      have h2 := lt_of_heap h1
      rw [gd1 i (by omega), hg.block _ (by have := hba.size; omega) (fun e => hne i (by omega) e.symm), hba.block _ h2]; exact h1
end Go.Proofs.Ytcppmkimfoajaaa
