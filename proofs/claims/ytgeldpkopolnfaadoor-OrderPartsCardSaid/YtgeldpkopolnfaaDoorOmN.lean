/- What greater collects; a map of sets in memory; the marks of ranges over functions. -/
import Derived.Maps.OwnSet
import Derived.Maps.Views
import Derived.Test.YtgeldpkopolnfaaDoorOmJ
namespace Go.Proofs.YtgeldpkopolnfaaDoor
open Go.RowKit Go.Shelf
set_option linter.all false

def stepN (N : List Nat) (t : Nat) : List Nat := if t ∈ N then N else N ++ [t]
def addS (s : Nat) (N : List Nat) (l : List Nat) : List Nat := l.foldl (fun N i => stepN N (s ||| 2 ^ i)) N
def nextL (n : Nat) (L : List Rq) (V : List Nat) : List Nat := V.foldl (fun N s => addS s N (idx (rdy n L s))) []
theorem stepN_spec {N : List Nat} (h : N.Nodup) (t : Nat) : (stepN N t).Nodup ∧ ∀ x, x ∈ stepN N t ↔ x ∈ N ∨ x = t := by
  unfold stepN
  split
  · rename_i ht
    refine ⟨h, fun x => ⟨.inl, ?_⟩⟩
    rintro (h | rfl)
    · exact h
    · exact ht
  · rename_i ht
    refine ⟨?_, fun x => by simp⟩
    rw [List.nodup_append]
    refine ⟨h, by simp, fun a ha b hb e => ?_⟩
    rw [List.mem_singleton] at hb
    subst hb; subst e; exact ht ha
theorem addS_snoc (s : Nat) (N l : List Nat) (i : Nat) : addS s N (l ++ [i]) = stepN (addS s N l) (s ||| 2 ^ i) := by unfold addS; rw [List.foldl_append]; rfl
theorem addS_spec {s : Nat} : ∀ (l : List Nat) {N : List Nat}, N.Nodup → (addS s N l).Nodup ∧ ∀ x, x ∈ addS s N l ↔ x ∈ N ∨ ∃ i ∈ l, x = s ||| 2 ^ i
  | [], N, h => ⟨h, fun x => by simp [addS]⟩
  | i :: l, N, h => by
    have h1 := stepN_spec h (s ||| 2 ^ i)
    have h2 := addS_spec l h1.1 (s := s)
    have e : addS s N (i :: l) = addS s (stepN N (s ||| 2 ^ i)) l := rfl
    rw [e]
    refine ⟨h2.1, fun x => ?_⟩
    rw [h2.2, h1.2]
    constructor
    · rintro ((h | h) | ⟨j, hj, h⟩)
      · exact .inl h
      · exact .inr ⟨i, by simp, h⟩
      · exact .inr ⟨j, by simp [hj], h⟩
    · rintro (h | ⟨j, hj, h⟩)
      · exact .inl (.inl h)
      · rcases List.mem_cons.1 hj with rfl | hj
        · exact .inl (.inr h)
        · exact .inr ⟨j, hj, h⟩
theorem foldN_spec {n : Nat} {L : List Rq} (hn : n ≤ 24) : ∀ (V : List Nat) {N : List Nat}, N.Nodup → (V.foldl (fun N s => addS s N (idx (rdy n L s))) N).Nodup ∧ ∀ x, x ∈ V.foldl (fun N s => addS s N (idx (rdy n L s))) N ↔ x ∈ N ∨ ∃ s ∈ V, ∃ i, Rdy n L s i ∧ x = s ||| 2 ^ i
  | [], N, h => ⟨h, fun x => by simp⟩
  | s :: V, N, h => by
    have h1 := addS_spec (s := s) (idx (rdy n L s)) h
    have h2 := foldN_spec hn V h1.1 (L := L)
    rw [List.foldl_cons]
    refine ⟨h2.1, fun x => ?_⟩
    rw [h2.2, h1.2]
    have hr : ∀ i, i ∈ idx (rdy n L s) ↔ Rdy n L s i := fun i => by
      rw [mem_idx (Nat.lt_of_lt_of_le (rdy_lt n L s) (Nat.pow_le_pow_right (n := 2) (by decide) (j := 24) hn)), rdy_bit]
    constructor
    · rintro ((h | ⟨i, hi, h⟩) | ⟨t, ht, h⟩)
      · exact .inl h
      · exact .inr ⟨s, by simp, i, (hr i).1 hi, h⟩
      · exact .inr ⟨t, by simp [ht], h⟩
    · rintro (h | ⟨t, ht, i, hi, h⟩)
      · exact .inl (.inl h)
      · rcases List.mem_cons.1 ht with rfl | ht
        · exact .inl (.inr ⟨i, (hr i).2 hi, h⟩)
        · exact .inr ⟨t, ht, i, hi, h⟩
theorem nextL_spec {n : Nat} {L : List Rq} (hn : n ≤ 24) (V : List Nat) : (nextL n L V).Nodup ∧ ∀ x, x ∈ nextL n L V ↔ ∃ s ∈ V, ∃ i, Rdy n L s i ∧ x = s ||| 2 ^ i := by
  have h := foldN_spec (L := L) hn V (N := []) List.nodup_nil
  exact ⟨h.1, fun x => by rw [show nextL n L V = V.foldl (fun N s => addS s N (idx (rdy n L s))) [] from rfl, h.2]; simp⟩
theorem nextL_snoc (n : Nat) (L : List Rq) (V : List Nat) (s : Nat) : nextL n L (V ++ [s]) = addS s (nextL n L V) (idx (rdy n L s)) := by unfold nextL; rw [List.foldl_append]; rfl
/-- All are masks of 24 bits. -/
def Sm (N : List Nat) : Prop := N.Nodup ∧ ∀ t ∈ N, t < 16777216
theorem Sm.length {N : List Nat} (h : Sm N) : N.length ≤ 16777216 := nodup_lt_length _ _ h.1 h.2
theorem Sm.add {N : List Nat} (h : Sm N) {s : Nat} (hs : s < 16777216) {l : List Nat} (hl : ∀ i ∈ l, i < 24) : Sm (addS s N l) := by
  have h1 := addS_spec (s := s) l h.1
  refine ⟨h1.1, fun t ht => ?_⟩
  rcases (h1.2 t).1 ht with h2 | ⟨i, hi, rfl⟩
  · exact h.2 t h2
  · exact Nat.or_lt_two_pow (n := 24) hs (Nat.pow_lt_pow_right (by decide) (hl i hi))
theorem sm_next {n : Nat} {L : List Rq} {V : List Nat} (hV : ∀ s ∈ V, s < 16777216) : Sm (nextL n L V) := by
  suffices h : ∀ (V : List Nat) (N : List Nat), (∀ s ∈ V, s < 16777216) → Sm N → Sm (V.foldl (fun N s => addS s N (idx (rdy n L s))) N) from h V [] hV ⟨List.nodup_nil, fun t ht => by cases ht⟩
  intro V
  induction V with
  | nil => intro N _ h; exact h
  | cons s V ih =>
    intro N hV h
    exact ih _ (fun t ht => hV t (by simp [ht])) (h.add (hV s (by simp)) fun i hi => (idx_lt hi).1)

/-! ### A map of sets -/
theorem wf_u32 {t : Nat} (h : t < 16777216) : (Lit.int .u32 (t : Int)).wf = true := by
  simp [Lit.wf, IntKind.min, IntKind.max, IntKind.signed, IntKind.bits]; omega
/-- The map at b has just the sets of a list. -/
def MetAt (W : World) (b : Nat) (N : List Nat) : Prop := ∃ D : DataW Unit, W.ownsMap Tryd.prog 57 (plainElem Tryd.prog 4) b N.length D ∧ Maps.IsMap D ∧ ∀ t : Nat, D.atKey (.int .u32 (t : Int)) (.lit (.bool false)) = .lit (.bool (decide (t ∈ N)))
theorem MetAt.made (W : World) : MetAt (W.alloc (.map #[] 0)) W.heap.size [] :=
  ⟨.map [], World.ownsMap_made W Tryd.prog 57 (plainElem (H := Unit) Tryd.prog 4), Maps.isMap_empty, fun t => rfl⟩
theorem MetAt.kept {W W' : World} {b : Nat} {N : List Nat} {row : Option Nat} (h : MetAt W b N) (hg : W.grownBy W' row) (hne : some b ≠ row) : MetAt W' b N := by
  obtain ⟨D, h1, h2, h3⟩ := h
  exact ⟨D, h1.kept hg hne, h2, h3⟩
theorem MetAt.heap {W : World} {b : Nat} {N : List Nat} (h : MetAt W b N) : ∃ es c, W.heap[b]? = some (.map es c) := by
  obtain ⟨D, ⟨es, c, h1, _⟩, _⟩ := h
  exact ⟨es, c, h1⟩
theorem MetAt.lt {W : World} {b : Nat} {N : List Nat} (h : MetAt W b N) : b < W.heap.size := by
  obtain ⟨es, c, h⟩ := h.heap; exact lt_of_heap h
theorem zeroBool (w : World) : (zeroValue 4).run Tryd.prog w = .ok (.bool false) w := Tryd.zeroValue4 w
theorem plainElem_bool_inv {P : Program} {e : TypeId} (he : P.underlying e = some .bool) {v : Value} {z : DataW Unit × List MemPlace} (h : plainElem P e v = some z) : ∃ x, v = .bool x ∧ z = (.lit (.bool x), []) := by
  unfold plainElem at h
  rw [he] at h
  cases v <;> simp at h
  subst h
  exact ⟨_, rfl, rfl⟩
theorem MetAt.look {W : World} {b : Nat} {N : List Nat} (h : MetAt W b N) {t : Nat} (ht : t < 16777216) : (Instr.lookup 74 (.map (some b)) (.int .u32 (t : Int)) false).run Tryd.prog W = .ok (.bool (decide (t ∈ N))) W := by
  obtain ⟨D, h1, _, h3⟩ := h
  obtain ⟨v, ps, hrun, hv⟩ := h1.lookup (Maps.int_keyed Tryd.underlying57) Tryd.underlying74 (zeroBool W) (plainElem_bool Tryd.underlying4 false) (Maps.keyOf_int_mk Tryd.underlying57 (wf_u32 ht))
  rw [h3 t] at hv
  obtain ⟨x, rfl, hx⟩ := plainElem_bool_inv Tryd.underlying4 hv
  have : decide (t ∈ N) = x := by
    generalize decide (t ∈ N) = y at hx
    have h4 := congrArg Prod.fst hx
    simpa using h4
  rw [this]; exact hrun
theorem MetAt.put {W : World} {b : Nat} {N : List Nat} (h : MetAt W b N) {t : Nat} (ht : t < 16777216) (hN : N.length < maxLen) :
    ∃ w', (Instr.mapUpdate 74 (.map (some b)) (.int .u32 (t : Int)) (.bool true)).run Tryd.prog W = .ok () w' ∧ MetAt w' b (N ++ [t]) ∧ W.grownBy w' (some b) := by
  obtain ⟨D, h1, h2, h3⟩ := h
  obtain ⟨w', hrun, r1, r2⟩ := h1.update (Maps.int_keyed Tryd.underlying57) Tryd.underlying74 hN (Maps.keyOf_int_mk Tryd.underlying57 (wf_u32 ht)) (plainElem_bool Tryd.underlying4 true)
  refine ⟨w', hrun, ⟨_, by simpa using r1, h2.put _ _, fun x => ?_⟩, r2⟩
  by_cases e : x = t
  · subst e
    rw [Maps.atKey_put_same h2 (by simp [WideAt.IsKeyLit])]
    simp
  · rw [Maps.atKey_put_other (by intro h; injection h with h4 h5; omega), h3 x]
    simp [e]

/-! ### Marks -/
/-- The marks that ranges over functions leave. -/
def mks (ds : List Nat) : List Deferred := ds.map fun D => { target := .collected D, args := #[] }
/-- Their blocks. -/
def Defs (ds : List Nat) (W : World) : Prop := ∀ D ∈ ds, W.heap[D]? = some (.deferred (some []))
theorem Defs.lt {ds : List Nat} {W : World} (h : Defs ds W) {D : Nat} (hD : D ∈ ds) : D < W.heap.size := lt_of_heap (h D hD)
theorem Defs.others {ds : List Nat} {W W' : World} (h : Defs ds W) (hk : KeepsOthers W W') : Defs ds W' := fun D hD => hk.same D _ (h D hD) rfl
theorem Defs.grown {ds : List Nat} {W W' : World} {row : Option Nat} (h : Defs ds W) (hg : W.grownBy W' row) (hne : ∀ D ∈ ds, row ≠ some D) : Defs ds W' := fun D hD => (hg.block D (h.lt hD) (fun e => hne D hD e.symm)).trans (h D hD)
theorem Defs.ownFrom {β : Type} {ds : List Nat} {B : Nat} (hB : ∀ D ∈ ds, D < B) : OwnFrom B (fun (_ : β) W => Defs ds W) := fun s W W' row hs hg hr => hs.grown hg fun D hD e => by
  have := (hr D e).1
  have := hB D hD
  omega
theorem Defs.nil (W : World) : Defs [] W := fun D hD => by cases hD
/-- A function that leaves with marks. -/
theorem leaves_marks {F : Fence} {n : Nat} {P : Program} {fn : Func} {tmps : Array Value} {R : Ending → World → Prop} {u : FrameMode} (hu : u ≠ .run) (S : World → Prop) :
    ∀ (ds : List Nat) (W : World), Defs ds W → ds.Nodup → S W → (∀ W D, D ∈ ds → S W → W.heap[D]? = some (.deferred (some [])) → S (W.putObj D (.deferred none))) → (∀ W, S W → LeavesInM F n P fn tmps R [] u W) → LeavesInM F n P fn tmps R (mks ds) u W
  | [], W, _, _, hS, _, hend => hend W hS
  | D :: ds, W, hd, hn, hS, hstep, hend => by
    rw [List.nodup_cons] at hn
    have hD := hd D (by simp)
    refine ⟨hu, .inl ⟨D, _, rfl, run_takeDeferred hD, ?_⟩⟩
    refine leaves_marks hu S ds _ ?_ hn.2 (hstep W D (by simp) hS hD) (fun W' D' hD' => hstep W' D' (by simp [hD'])) hend
    intro D' hD'
    have hne : D' ≠ D := fun e => hn.1 (e ▸ hD')
    exact (World.putObj_heap_other (fun e => hne (by omega))).trans (hd D' (by simp [hD']))
end Go.Proofs.YtgeldpkopolnfaaDoor
