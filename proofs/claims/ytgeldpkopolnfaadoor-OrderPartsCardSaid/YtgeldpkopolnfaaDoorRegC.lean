/- A region that draws its order, by facts: with what lies in the slots that are not written yet. -/
import Derived.Test.YtgeldpkopolnfaaDoorReg
namespace Go.Proofs.YtgeldpkopolnfaaDoor
open Go.RowKit
set_option linter.all false

/-- What an operation may count on: W its world, a the frame, l what has been listed. -/
structure AtC (ops : Array Oper) (a0 : Act) (G : Array Bool → Nat → Value → World → Prop) (B : Array Bool → World → Prop) (i : Nat) (l : Array Bool) (a : Act) (W : World) : Prop where
  size : l.size = ops.size
  open_ : l.getD i false = false
  dep : ∀ j, depB ops i j = true → l.getD j false = true
  later : ∀ j, ancB ops i ops.size j = true → l.getD j false = false
  out : ∀ s, outB ops s = true → a.tmps[s]?.getD undef = a0.eval (.tmp s)
  old : ∀ k d, slotOf ops k = some d → l.getD k false = false → a.tmps[d]?.getD undef = a0.eval (.tmp d)
  have_ : ∀ k d, slotOf ops k = some d → l.getD k false = true → G l k (a.tmps[d]?.getD undef) W
  base : B l W

/-- A region that draws its order, by facts: what each operation leaves (G), and what holds of the world (B). -/
theorem region_factsC {P : Program} {ops : Array Oper} {Q : Exit → Act → World → Prop} {id : Nat} {a0 : Act} {w : World} (hm : P.follows .mixedOrders = true)
    (G : Array Bool → Nat → Value → World → Prop) (B : Array Bool → World → Prop)
    (hac : earlierB ops = true) (hdst : dstsB ops a0.tmps.size = true)
    (h0 : B (Array.replicate ops.size false) w.drew)
    (hstep : ∀ (i : Nat) (o : Oper) (l : Array Bool) (a : Act) (W : World), ops[i]? = some o → AtC ops a0 G B i l a W →
      ∀ K : Act → World → Prop, (∀ v w', G (l.setIfInBounds i true) i v w' → (∀ k u, l.getD k false = true → G l k u W → G (l.setIfInBounds i true) k u w') → B (l.setIfInBounds i true) w' → K (a.put o.dst v) w') →
        if Region.wanted o (yielded ops a.tmps) = true then Oper.wp P o a W K Q else K (a.put o.dst undef) W)
    (hend : ∀ (l : Array Bool) (u : Nat → Value) (W : World), (∀ j, j < ops.size → l.getD j false = true) →
      (∀ k d, slotOf ops k = some d → G l k (u k) W) → B l W → Q .normal (putAll ops.toList u 0 a0) W) : (Code.region id ops true).wp P Q a0 w := by
  refine region_inv hm (fun l a W => l.size = ops.size ∧ a.tmps.size = a0.tmps.size ∧ a.defers = a0.defers ∧
      (∀ s, (∀ (k : Nat) (o' : Oper), ops[k]? = some o' → l.getD k false = true → o'.dst ≠ some s) → a.tmps.getD s undef = a0.tmps.getD s undef) ∧
      (∀ (k : Nat) (o' : Oper) (d : Nat), ops[k]? = some o' → o'.dst = some d → l.getD k false = true → G l k (a.tmps.getD d undef) W) ∧ B l W) hac ?_ ?_ ?_
  · refine ⟨by simp, rfl, rfl, fun _ _ => rfl, fun k o' d _ _ hl => ?_, h0⟩
    rw [Array.getD_eq_getD_getElem?, Array.getElem?_replicate] at hl
    split at hl <;> simp at hl
  · intro i o l a W ho hD ⟨i0, i1, i2, i3, i4, i5⟩ hl hdeps K hK
    refine hstep i o l a W ho ⟨i0, hl, fun j hj => ?_, fun j hj => ?_, fun s hs => ?_, fun k d hk hl' => ?_, fun k d hk hl' => ?_, i5⟩ K fun v w' hG hst hB => hK _ _ ⟨by simp [i0], (put_size _ _ _).trans i1, (put_defers _ _ _).trans i2, fun s hs => (put_other _ _ _ _ (hs i o ho (set_same (by rw [i0]; exact (Array.getElem?_eq_some_iff.1 ho).1)))).trans (i3 s fun k o' hk hlk => hs k o' hk (getD_set_true hlk)), fun k o' d ho' hd' hl' => ?_, hB⟩
    · unfold depB at hj
      rw [ho] at hj
      obtain ⟨e, he, h2⟩ := any_mem hj
      simp only [Bool.and_eq_true, beq_iff_eq] at h2
      rw [← h2.2]; exact hdeps e he h2.1
    · cases h : l.getD j false with
      | false => rfl
      | true => rw [anc_listed hD i _ _ hj h] at hl; cases hl
    · refine (Array.getD_eq_getD_getElem? ..).symm.trans (i3 s fun k o' hk _ e => ?_)
      have h1 := Array.all_eq_true_iff_forall_mem.1 hs o' (Array.mem_of_getElem? hk)
      rw [e] at h1; simp at h1
    · refine (Array.getD_eq_getD_getElem? ..).symm.trans (i3 d fun k' o' hk' hlk e => ?_)
      unfold slotOf at hk
      cases ho' : ops[k]? with
      | none => rw [ho'] at hk; cases hk
      | some o'' =>
        rw [ho'] at hk
        simp only [Option.bind_some] at hk
        by_cases hkk : k = k'
        · subst hkk; rw [hl'] at hlk; cases hlk
        · exact dsts_ne hdst ho' hk hk' hkk e
    · unfold slotOf at hk
      cases ho' : ops[k]? with
      | none => rw [ho'] at hk; cases hk
      | some o' => rw [ho'] at hk; rw [← Array.getD_eq_getD_getElem?]; exact i4 k o' d ho' hk hl'
    · by_cases hik : i = k
      · subst hik
        rw [ho] at ho'; injection ho' with ho'; subst ho'
        rw [hd', put_same _ _ _ (by rw [i1]; exact dsts_lt hdst ho hd')]
        exact hG
      · rw [getD_set_ne false hik] at hl'
        rw [put_other _ _ _ _ (dsts_ne hdst ho' hd' ho (Ne.symm hik))]
        exact hst k _ hl' (i4 k o' d ho' hd' hl')
  · intro l a W ⟨i0, i1, i2, i3, i4, i5⟩ hall
    have hf := frame_putAll hdst i1 i2 (fun s hs => i3 s fun k o' hk _ => hs k o' hk)
    rw [hf]
    refine hend l _ W hall (fun k d hk => ?_) i5
    unfold slotOf at hk
    cases ho' : ops[k]? with
    | none => rw [ho'] at hk; cases hk
    | some o' =>
      rw [ho'] at hk
      have := i4 k o' d ho' hk (hall k (Array.getElem?_eq_some_iff.1 ho').1)
      simp only [Option.bind_some] at hk
      simpa [hk] using this
end Go.Proofs.YtgeldpkopolnfaaDoor
