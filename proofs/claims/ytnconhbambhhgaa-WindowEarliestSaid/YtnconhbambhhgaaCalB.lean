/- How Calendar's memory goes on. -/
import Derived.Test.YtnconhbambhhgaaCalA
namespace Go.Proofs.Ytnconhbambhhgaa
open Go.RowKit
set_option linter.all false

theorem lt_of_heap {w : World} {b : Nat} {o : Obj} (h : w.heap[b]? = some o) : b < w.heap.size := (Array.getElem?_eq_some_iff.1 h).1
theorem TRow.keep {W W' : World} {C : Nat} {tp tq tp' tq' : Value} {x : Win} {t : List Int} (h : TRow W C tp tq x t)
    (hk : ∀ b, b < W.heap.size → C < b → tp.ownBlock ≠ some b → tq.ownBlock ≠ some b → W'.heap[b]? = W.heap[b]? ∧ tp'.ownBlock ≠ some b ∧ tq'.ownBlock ≠ some b) : TRow W' C tp' tq' x t := by
  obtain ⟨h1, h2, h3⟩ := h
  refine ⟨h1, h2, h3.imp id ?_⟩
  rintro ⟨b, e1, e2, e3, e4, e5⟩
  have hlt := lt_of_heap e2
  obtain ⟨k1, k2, k3⟩ := hk b hlt e3 e4 e5
  exact ⟨b, e1, k1.trans e2, e3, k2, k3⟩

section
variable {w W : World} {g C r : Nat} {r0 r1 : Int} {tp tq : Value} {Q : List Int} {L : List Win} {TL : List (List Int)}

theorem CMid.size (h : CMid w W g C r r0 r1 tp tq Q L TL) : C < W.heap.size := lt_of_heap h.hC

theorem CMid.threw {W2 : World} (h : CMid w W g C r r0 r1 tp tq Q L TL) (hd : DiceAt W2 g) (hg : W.grownBy W2 (some g)) : CMid w W2 g C r r0 r1 tp tq Q L TL := by
  have h1 := h.ho; have h2 := h.hr2; have h3 := h.hrC; have h4 := h.size
  have hb : ∀ k, k < W.heap.size → k ≠ g → W2.heap[k]? = W.heap[k]? := fun k hk hne => hg.block k hk (by simpa using hne)
  refine ⟨hd, h.grown.trans hg, (hb C h4 (by omega)).trans h.hC, (hb r (by omega) (by omega)).trans h.hr, h.ownq.kept hg (.inr fun e => ?_), h.ownp.kept hg (.inr fun e => ?_), h.sep, h.len, fun j hj => (h.teams j hj).keep fun b hb' hC e1 e2 => ⟨hb b hb' (by omega), e1, e2⟩, (hb _ (by omega) (by omega)).trans h.hB, h1, h2, h3⟩
  · have := (h.ownq.lt g e).1; omega
  · have := (h.ownp.lt g e).1; omega

theorem SlT.grow {W2 : World} {u : Value} {t : List Int} (h : SlT W C tp tq u t) (hgC : g < C) (hg : W.grownBy W2 (some g)) : SlT W2 C tp tq u t := by
  obtain ⟨a, n, c, e, h⟩ := h
  exact ⟨a, n, c, e, h.keep fun b hb hC e1 e2 => ⟨hg.block b hb (by simp; omega), e1, e2⟩⟩
theorem CMid.alloc (h : CMid w W g C r r0 r1 tp tq Q L TL) (o : Obj) : CMid w (W.alloc o) g C r r0 r1 tp tq Q L TL :=
  h.threw (h.dice.below ((Below.refl _ _).alloc (Nat.le_refl _) _)) (World.grownBy_alloc _ _ _)

theorem CMid.drewN (h : CMid w W g C r r0 r1 tp tq Q L TL) (n : Nat) : CMid w (W.drewN n) g C r r0 r1 tp tq Q L TL :=
  h.threw (h.dice.below ⟨rfl, rfl, rfl, Nat.le_refl _, fun _ _ => rfl⟩) ⟨rfl, rfl, rfl, Nat.le_refl _, fun _ _ _ => rfl⟩

/-- A number was appended to the teams of endpoints. -/
theorem CMid.appendq {W5 : World} {x : Int} {q cap : Nat} (h : CMid w W g C r r0 r1 tp tq Q L TL)
    (ho : W5.ownsRow (C + 1) 3 1 (.slice (some ⟨q, 0, none⟩) (Q.length + 1) cap) (Q.length + 1) (vi Q ++ [.int .i64 x])) (hg : W.grownBy W5 tq.ownBlock) (hq : tq.ownBlock = some q ∨ q = W.heap.size) :
    W5.heap[C]? = some (.cells #[tp, tq, .slice (some ⟨r, 0, none⟩) 2 2] 38 (0, 0)) ∧ CMid w (W5.setCell ⟨C, 1, none⟩ (.slice (some ⟨q, 0, none⟩) (Q.length + 1) cap)) g C r r0 r1 tp (.slice (some ⟨q, 0, none⟩) (Q.length + 1) cap) (Q ++ [x]) L TL := by
  have h1 := h.ho; have h2 := h.hr2; have h3 := h.hrC; have h4 := h.size
  have hne : ∀ k, k ≤ C → some k ≠ tq.ownBlock := fun k hk e => by have := (h.ownq.lt k e.symm).1; omega
  have hb5 : ∀ k, k ≤ C → W5.heap[k]? = W.heap[k]? := fun k hk => hg.block k (by omega) (hne k hk)
  have hC5 := (hb5 C (Nat.le_refl _)).trans h.hC
  have hb6 : ∀ k, k ≠ C → (W5.setCell ⟨C, 1, none⟩ (.slice (some ⟨q, 0, none⟩) (Q.length + 1) cap)).heap[k]? = W5.heap[k]? := fun k hk => heap_setCell_other W5 ⟨C, 1, none⟩ k _ hk
  have hz : (W5.setCell ⟨C, 1, none⟩ (.slice (some ⟨q, 0, none⟩) (Q.length + 1) cap)).heap.size = W5.heap.size := by simp [World.setCell]
  have hvq : vi (Q ++ [x]) = vi Q ++ [.int .i64 x] := by unfold vi; rw [List.map_append]; rfl
  have hql : (Q ++ [x]).length = Q.length + 1 := by simp
  have hpq : ∀ k, tp.ownBlock = some k → k ≠ q := by
    intro k hk e
    rcases hq with hq | hq
    · exact h.sep q hq (e ▸ hk)
    · have := (h.ownp.lt k hk).2; omega
  refine ⟨hC5, ⟨?_, ⟨hg.os.trans h.grown.os, hg.tape.trans h.grown.tape, hg.output.trans h.grown.output, ?_, fun k hk hne' => ?_⟩, ?_, ?_, ?_, ?_, ?_, h.len, fun j hj => (h.teams j hj).keep fun b hb hC e1 e2 => ⟨?_, e1, ?_⟩, ((hb6 _ (by omega)).trans (hb5 _ (by omega))).trans h.hB, h1, h2, h3⟩⟩
  · obtain ⟨p, n, c, k, d0, d1, d2, d3⟩ := h.dice
    refine ⟨p, n, c, k, (hb6 g (by omega)).trans ((hb5 g (by omega)).trans d0), d1, d2, d3.keep fun b o u hb' hu => ?_⟩
    rw [World.cell?_of_block (a := ⟨b, o, none⟩) ((hb6 b (by omega)).trans (hb5 b (by omega)))]; exact hu
  · rw [hz]; exact Nat.le_trans h.grown.size hg.size
  · rw [hb6 k (by omega), hb5 k (by omega)]; exact h.grown.block k hk hne'
  · rw [heap_setCell_same W5 C 1 _ _ _ hC5]; rfl
  · rw [hb6 r (by omega), hb5 r (by omega)]; exact h.hr
  · rw [hql, hvq]
    exact ownsRow_setCell_below ho (by simp) _
  · refine ownsRow_setCell_below ?_ (by simp) _
    refine h.ownp.kept hg ?_
    cases hp : tp.ownBlock with
    | none => exact .inl rfl
    | some k => exact .inr fun e => h.sep k e.symm hp
  · intro k hk e
    simp only [Value.ownBlock, Option.some.injEq] at hk
    exact hpq k e hk.symm
  · rw [hb6 b (by omega)]; exact hg.block b hb (fun e => e2 e.symm)
  · simp only [Value.ownBlock, ne_eq, Option.some.injEq]
    rcases hq with hq | hq
    · rw [hq] at e2; simpa using e2
    · omega

theorem flatW_snoc (L : List Win) (x : Win) : flatW (L ++ [x]) = flatW L ++ [.int .i64 x.from_, .int .i64 x.to_, .slice x.a x.n x.c] := by
  unfold flatW; rw [List.flatMap_append]; simp

/-- A window was appended. -/
theorem CMid.appendp {W5 : World} {x : Win} {t : List Int} {p cap : Nat} (h : CMid w W g C r r0 r1 tp tq Q L TL) (ht : TRow W C tp tq x t)
    (ho : W5.ownsRow (C + 1) 77 3 (.slice (some ⟨p, 0, none⟩) (L.length + 1) cap) (L.length + 1) (flatW L ++ [.int .i64 x.from_, .int .i64 x.to_, .slice x.a x.n x.c])) (hg : W.grownBy W5 tp.ownBlock) (hp : tp.ownBlock = some p ∨ p = W.heap.size) :
    W5.heap[C]? = some (.cells #[tp, tq, .slice (some ⟨r, 0, none⟩) 2 2] 38 (0, 0)) ∧ CMid w (W5.setCell ⟨C, 0, none⟩ (.slice (some ⟨p, 0, none⟩) (L.length + 1) cap)) g C r r0 r1 (.slice (some ⟨p, 0, none⟩) (L.length + 1) cap) tq Q (L ++ [x]) (TL ++ [t]) := by
  have h1 := h.ho; have h2 := h.hr2; have h3 := h.hrC; have h4 := h.size
  have hne : ∀ k, k ≤ C → some k ≠ tp.ownBlock := fun k hk e => by have := (h.ownp.lt k e.symm).1; omega
  have hb5 : ∀ k, k ≤ C → W5.heap[k]? = W.heap[k]? := fun k hk => hg.block k (by omega) (hne k hk)
  have hC5 := (hb5 C (Nat.le_refl _)).trans h.hC
  have hb6 : ∀ k, k ≠ C → (W5.setCell ⟨C, 0, none⟩ (.slice (some ⟨p, 0, none⟩) (L.length + 1) cap)).heap[k]? = W5.heap[k]? := fun k hk => heap_setCell_other W5 ⟨C, 0, none⟩ k _ hk
  have hz : (W5.setCell ⟨C, 0, none⟩ (.slice (some ⟨p, 0, none⟩) (L.length + 1) cap)).heap.size = W5.heap.size := by simp [World.setCell]
  have hql : (L ++ [x]).length = L.length + 1 := by simp
  have hpq : ∀ k, tq.ownBlock = some k → k ≠ p := by
    intro k hk e
    rcases hp with hp | hp
    · exact h.sep k hk (e ▸ hp)
    · have := (h.ownq.lt k hk).2; omega
  have hk : ∀ (y : Win) (u : List Int), TRow W C tp tq y u → TRow (W5.setCell ⟨C, 0, none⟩ (.slice (some ⟨p, 0, none⟩) (L.length + 1) cap)) C (.slice (some ⟨p, 0, none⟩) (L.length + 1) cap) tq y u := fun y u hy => hy.keep fun b hb hC e1 e2 => by
    refine ⟨?_, ?_, e2⟩
    · rw [hb6 b (by omega)]; exact hg.block b hb (fun e => e1 e.symm)
    · simp only [Value.ownBlock, ne_eq, Option.some.injEq]
      rcases hp with hp | hp
      · rw [hp] at e1; simpa using e1
      · omega
  refine ⟨hC5, ⟨?_, ⟨hg.os.trans h.grown.os, hg.tape.trans h.grown.tape, hg.output.trans h.grown.output, ?_, fun k hk hne' => ?_⟩, ?_, ?_, ?_, ?_, ?_, ?_, fun j hj => ?_, ((hb6 _ (by omega)).trans (hb5 _ (by omega))).trans h.hB, h1, h2, h3⟩⟩
  · obtain ⟨p', n, c, k, d0, d1, d2, d3⟩ := h.dice
    refine ⟨p', n, c, k, (hb6 g (by omega)).trans ((hb5 g (by omega)).trans d0), d1, d2, d3.keep fun b o u hb' hu => ?_⟩
    rw [World.cell?_of_block (a := ⟨b, o, none⟩) ((hb6 b (by omega)).trans (hb5 b (by omega)))]; exact hu
  · rw [hz]; exact Nat.le_trans h.grown.size hg.size
  · rw [hb6 k (by omega), hb5 k (by omega)]; exact h.grown.block k hk hne'
  · rw [heap_setCell_same W5 C 0 _ _ _ hC5]; rfl
  · rw [hb6 r (by omega), hb5 r (by omega)]; exact h.hr
  · refine ownsRow_setCell_below ?_ (by simp) _
    refine h.ownq.kept hg ?_
    cases hq : tq.ownBlock with
    | none => exact .inl rfl
    | some k => exact .inr fun e => h.sep k hq e.symm
  · rw [hql, flatW_snoc]
    exact ownsRow_setCell_below ho (by simp) _
  · intro k hk e
    simp only [Value.ownBlock, Option.some.injEq] at e
    exact hpq k hk e.symm
  · rw [List.length_append, hql, h.len]; rfl
  · rcases Nat.lt_or_ge j L.length with hlt | hge
    · have e1 : (L ++ [x]).getD j win0 = L.getD j win0 := by
        rw [List.getD, List.getD, List.getElem?_append_left hlt]
      have e2 : (TL ++ [t]).getD j [] = TL.getD j [] := by
        rw [List.getD, List.getD, List.getElem?_append_left (by rw [h.len]; exact hlt)]
      rw [e1, e2]; exact hk _ _ (h.teams j hlt)
    · have hj' : j = L.length := by rw [hql] at hj; omega
      have e1 : (L ++ [x]).getD j win0 = x := by rw [hj', List.getD]; simp
      have e2 : (TL ++ [t]).getD j [] = t := by rw [hj', List.getD, ← h.len]; simp
      rw [e1, e2]; exact hk _ _ ht
end
end Go.Proofs.Ytnconhbambhhgaa
