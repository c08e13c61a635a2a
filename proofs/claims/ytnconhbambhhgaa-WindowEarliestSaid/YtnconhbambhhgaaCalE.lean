/- What Calendar makes is a good calendar. -/
import Derived.Test.YtnconhbambhhgaaCalC
namespace Go.Proofs.Ytnconhbambhhgaa
open Go.RowKit
set_option linter.all false

theorem flatW_get (L : List Win) : ∀ j, j < L.length → (flatW L)[j * 3]? = some (.int .i64 (L.getD j win0).from_) ∧ (flatW L)[j * 3 + 1]? = some (.int .i64 (L.getD j win0).to_) ∧ (flatW L)[j * 3 + 2]? = some (.slice (L.getD j win0).a (L.getD j win0).n (L.getD j win0).c) := by
  induction L with
  | nil => intro j hj; simp at hj
  | cons x L ih =>
    intro j hj
    have he : flatW (x :: L) = [.int .i64 x.from_, .int .i64 x.to_, .slice x.a x.n x.c] ++ flatW L := by unfold flatW; rw [List.flatMap_cons]
    rw [he]
    cases j with
    | zero => exact ⟨rfl, rfl, rfl⟩
    | succ j =>
      obtain ⟨h1, h2, h3⟩ := ih j (by simpa using hj)
      have e : ∀ m, ([Value.int .i64 x.from_, .int .i64 x.to_, .slice x.a x.n x.c] ++ flatW L)[(j + 1) * 3 + m]? = (flatW L)[j * 3 + m]? := fun m => by
        rw [List.getElem?_append_right (by simp; omega)]
        congr 1
        simp; omega
      exact ⟨(e 0).trans h1, (e 1).trans h2, (e 2).trans h3⟩

theorem vi_get (L : List Int) (j : Nat) (hj : j < L.length) : (vi L)[j]? = some (.int .i64 (L.getD j 0)) := by
  unfold vi
  rw [List.getElem?_map, List.getElem?_eq_getElem hj, List.getD, List.getElem?_eq_getElem hj]; rfl

theorem flatW_length (L : List Win) : (flatW L).length = L.length * 3 := by
  induction L with
  | nil => rfl
  | cons x L ih =>
    rw [show flatW (x :: L) = [.int .i64 x.from_, .int .i64 x.to_, .slice x.a x.n x.c] ++ flatW L by unfold flatW; rw [List.flatMap_cons], List.length_append, ih]
    simp; omega

theorem good_of_mid {w W W2 : World} {g C r p q c1 c2 : Nat} {r0 r1 f : Int} {Q : List Int} {L : List Win} {TL : List (List Int)}
    (h : CMid w W g C r r0 r1 (.slice (some ⟨p, 0, none⟩) L.length c1) (.slice (some ⟨q, 0, none⟩) Q.length c2) Q L TL) (hW : Wok f L) (hf : f ≤ 300) (hL : L.length ≤ 5) (hQ : Q.length = 3)
    (h0 : r0 ∈ [24, 2, 1]) (h1 : r1 ∈ [24, 3]) (hx : ∀ x ∈ Q, 0 ≤ x ∧ x < 2) (hk : ∀ b, C < b ∨ b = r → b < W.heap.size → W2.heap[b]? = W.heap[b]?) :
    GoodCal W2 (some ⟨p, 0, none⟩) (some ⟨q, 0, none⟩) (some ⟨r, 0, none⟩) L (fun j => TL.getD j []) Q [r0, r1] := by
  have hp := h.ownp.lt p rfl
  have hq := h.ownq.lt q rfl
  have hrC := h.hrC; have hsz := h.size
  refine ⟨fun j hj => ?_, fun j hj => ?_, fun j hj => ?_, fun j hj => ?_, by omega, by omega, by simp, ?_, fun j hj => ?_, hW.2, fun j hj => ?_, fun j hj => ?_, ?_⟩
  · obtain ⟨e1, e2, e3⟩ := flatW_get L j hj
    refine ⟨p, 0, rfl, ?_, ?_, ?_⟩
    · rw [World.cell?_of_block (a := ⟨p, _, none⟩) (hk p (.inl (by omega)) hp.2), h.ownp.cellAt _ (by omega), Nat.zero_add]; exact e1
    · rw [World.cell?_of_block (a := ⟨p, _, none⟩) (hk p (.inl (by omega)) hp.2), h.ownp.cellAt _ (by omega), Nat.zero_add]; exact e2
    · rw [World.cell?_of_block (a := ⟨p, _, none⟩) (hk p (.inl (by omega)) hp.2), h.ownp.cellAt _ (by omega), Nat.zero_add]; exact e3
  · obtain ⟨t1, t2, t3⟩ := h.teams j hj
    refine ⟨t1, ?_, fun i hi => ?_⟩
    · show (TL.getD j []).length ≤ 1000
      simp only [List.mem_cons, List.not_mem_nil, or_false] at t2
      rcases t2 with e | e | e | e <;> rw [e] <;> decide
    · rcases t3 with e | ⟨b, e1, e2, e3, _, _⟩
      · rw [e] at hi; simp at hi
      · refine ⟨b, 0, e1, ?_⟩
        rw [cell_of_row _ b _ _ _ _ ((hk b (.inl e3) (lt_of_heap e2)).trans e2)]
        have := vi_get _ i hi
        simpa using this
  · refine ⟨q, 0, rfl, ?_⟩
    rw [World.cell?_of_block (a := ⟨q, _, none⟩) (hk q (.inl (by omega)) hq.2), h.ownq.cellAt _ (by omega), Nat.zero_add]; exact vi_get Q j hj
  · refine ⟨r, 0, rfl, ?_⟩
    rw [cell_of_row _ r _ _ _ _ ((hk r (.inr rfl) (by omega)).trans h.hr)]
    match j, hj with
    | 0, _ => rfl
    | 1, _ => rfl
  · simp only [List.mem_cons, List.not_mem_nil, or_false] at h0 h1
    have e0 : roomB r0 = true := by rcases h0 with rfl | rfl | rfl <;> rfl
    have e1 : roomB r1 = true := by rcases h1 with rfl | rfl <;> rfl
    simp [e0, e1]
  · obtain ⟨a, b, c⟩ := hW.1 j hj
    unfold noDays
    rw [decide_eq_false (by omega), decide_eq_false (by omega), decide_eq_false (by omega)]; rfl
  · obtain ⟨t1, t2, t3⟩ := h.teams j hj
    show AscT (TL.getD j [])
    simp only [List.mem_cons, List.not_mem_nil, or_false] at t2
    rcases t2 with e | e | e | e <;> rw [e]
    · intro i hi
      have : i = 0 := by simp at hi; omega
      subst this; decide
    · intro i hi; simp at hi
    · intro i hi; simp at hi
    · intro i hi; simp at hi
  · obtain ⟨t1, t2, t3⟩ := h.teams j hj
    show (TL.getD j []).all (isT 2) = true
    simp only [List.mem_cons, List.not_mem_nil, or_false] at t2
    rcases t2 with e | e | e | e <;> rw [e] <;> decide
  · rw [List.all_eq_true]
    intro x hx'
    obtain ⟨a, b⟩ := hx x hx'
    show isT 2 x = true
    unfold isT
    rw [decide_eq_true a, decide_eq_true (by omega)]; rfl

/-- A calendar for three endpoints, of two teams. -/
def CalP (w : World) (g : Nat) (e : Ending) (w' : World) : Prop :=
  ∃ (p q r : Option Addr) (c1 c2 : Nat) (L : List Win) (T : Nat → List Int) (Q R : List Int), e = .returned (.agg #[.slice p L.length c1, .slice q Q.length c2, .slice r R.length 2]) ∧ DiceAt w' g ∧ w.grownBy w' (some g) ∧
    (∀ W2, w'.grownBy W2 (some g) → GoodCal W2 p q r L T Q R) ∧ R.length = 2 ∧ Q.length = 3 ∧ 2 ≤ L.length ∧ L.length ≤ 5 ∧ ∀ j, j < L.length → (L.getD j win0).to_ ≤ 204

theorem res23_run {W : World} {b : Nat} {v1 v2 v3 : Value} {a : Act} (hh : W.heap[b]? = some (.cells #[v1, v2, v3] 38 (0, 0))) (ht : a.tmps.getD 4 undef = .pointer (some ⟨b, 0, none⟩)) :
    (results Try.f28 a.tmps).run Try.prog W = .ok (.agg #[v1, v2, v3]) W := by
  have e0 := cell_of_row _ b 0 _ _ _ hh
  have e1 := cell_of_row _ b 1 _ _ _ hh
  have e2 := cell_of_row _ b 2 _ _ _ hh
  simp at e0 e1 e2 ht
  clear hh
  simp [results, Try.results28, go_sem, ht, e0, e1, e2]

theorem cal_fin {w W : World} {g C r p q c1 c2 : Nat} {r0 r1 f : Int} {Q : List Int} {L : List Win} {TL : List (List Int)} {a : Act}
    (h : CMid w W g C r r0 r1 (.slice (some ⟨p, 0, none⟩) L.length c1) (.slice (some ⟨q, 0, none⟩) Q.length c2) Q L TL) (hW : Wok f L) (hf : f ≤ 204) (hL : L.length ≤ 5) (hL2 : 2 ≤ L.length) (hQ : Q.length = 3)
    (h0 : r0 ∈ [24, 2, 1]) (h1 : r1 ∈ [24, 3]) (hx : ∀ x ∈ Q, 0 ≤ x ∧ x < 2)
    (ht : a.tmps.getD 4 undef = .pointer (some ⟨w.heap.size, 0, none⟩)) (hd : a.defers = []) :
    bodyPost Try.prog Try.f28 (CalP w g) .ret a (((W.setCell ⟨w.heap.size, 0, none⟩ (.slice (some ⟨p, 0, none⟩) L.length c1)).setCell ⟨w.heap.size, 1, none⟩ (.slice (some ⟨q, 0, none⟩) Q.length c2)).setCell ⟨w.heap.size, 2, none⟩ (.slice (some ⟨r, 0, none⟩) 2 2)) := by
  have b1 := heap_setCell_same W w.heap.size 0 _ _ (.slice (some ⟨p, 0, none⟩) L.length c1) h.hB
  have b2 := heap_setCell_same _ w.heap.size 1 _ _ (.slice (some ⟨q, 0, none⟩) Q.length c2) b1
  have b3 := heap_setCell_same _ w.heap.size 2 _ _ (.slice (some ⟨r, 0, none⟩) 2 2) b2
  have ho : ∀ k, k ≠ w.heap.size → (((W.setCell ⟨w.heap.size, 0, none⟩ (.slice (some ⟨p, 0, none⟩) L.length c1)).setCell ⟨w.heap.size, 1, none⟩ (.slice (some ⟨q, 0, none⟩) Q.length c2)).setCell ⟨w.heap.size, 2, none⟩ (.slice (some ⟨r, 0, none⟩) 2 2)).heap[k]? = W.heap[k]? := fun k hk =>
    (heap_setCell_other _ ⟨w.heap.size, 2, none⟩ k _ hk).trans ((heap_setCell_other _ ⟨w.heap.size, 1, none⟩ k _ hk).trans (heap_setCell_other _ ⟨w.heap.size, 0, none⟩ k _ hk))
  have hz : (((W.setCell ⟨w.heap.size, 0, none⟩ (.slice (some ⟨p, 0, none⟩) L.length c1)).setCell ⟨w.heap.size, 1, none⟩ (.slice (some ⟨q, 0, none⟩) Q.length c2)).setCell ⟨w.heap.size, 2, none⟩ (.slice (some ⟨r, 0, none⟩) 2 2)).heap.size = W.heap.size := by simp [World.setCell]
  have h2 := h.ho; have h3 := h.hr2; have h4 := h.hrC; have h5 := h.size
  refine bodyPost_ret (res23_run b3 ht) hd ⟨_, _, _, c1, c2, L, _, Q, [r0, r1], rfl, ?_, ⟨h.grown.os, h.grown.tape, h.grown.output, ?_, fun k hk hne => ?_⟩, fun W2 hg => good_of_mid h hW (by omega) hL hQ h0 h1 hx fun b hb hlt => ?_, rfl, hQ, hL2, hL, fun j hj => by have := (hW.1 j hj).2.2; omega⟩
  · obtain ⟨p', n, c, k, d0, d1, d2, d3⟩ := h.dice
    refine ⟨p', n, c, k, (ho g (by omega)).trans d0, d1, d2, d3.keep fun b o u hb' hu => ?_⟩
    rw [World.cell?_of_block (a := ⟨b, o, none⟩) (ho b (by omega))]; exact hu
  · rw [hz]; exact h.grown.size
  · rw [ho k (by omega)]; exact h.grown.block k hk hne
  · rw [hg.block b (by rw [hz]; exact hlt) (by simp; rcases hb with hb | hb <;> omega), ho b (by rcases hb with hb | hb <;> omega)]
end Go.Proofs.Ytnconhbambhhgaa
