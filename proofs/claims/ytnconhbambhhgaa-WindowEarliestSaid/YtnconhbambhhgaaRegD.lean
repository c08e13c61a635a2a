/- A region that draws its order, by facts, and by what holds between the values of two operations, at its end too. -/
import Derived.Test.YtnconhbambhhgaaReg
namespace Go.Proofs.Ytnconhbambhhgaa
set_option linter.all false

theorem put_get_ne3 (a : Act) (d : Option Tmp) (v : Value) (s : Nat) (h : d ≠ some s) : (a.put d v).tmps[s]?.getD undef = a.tmps[s]?.getD undef := by
  have := put_other a d v s h
  simpa [Array.getD_eq_getD_getElem?] using this

/-- 'region_facts' with, to the end, a relation X between the values of two operations. -/
theorem region_facts3 {P : Program} {ops : Array Oper} {Q : Exit → Act → World → Prop} {id : Nat} {a0 : Act} {w : World} (hm : P.follows .mixedOrders = true)
    (G : Array Bool → Nat → Value → World → Prop) (X : Nat → Nat → Value → Value → Prop) (B : Array Bool → World → Prop)
    (hac : earlierB ops = true) (hdst : dstsB ops a0.tmps.size = true)
    (h0 : B (Array.replicate ops.size false) w.drew)
    (hstep : ∀ (i : Nat) (o : Oper) (l : Array Bool) (a : Act) (W : World), ops[i]? = some o → At ops a0 G B i l a W →
      (∀ k1 d1 k2 d2, slotOf ops k1 = some d1 → slotOf ops k2 = some d2 → l.getD k1 false = true → l.getD k2 false = true → k1 ≠ k2 → X k1 k2 (a.tmps[d1]?.getD undef) (a.tmps[d2]?.getD undef)) →
      ∀ K : Act → World → Prop, (∀ v w', G (l.setIfInBounds i true) i v w' → (∀ k d, slotOf ops k = some d → l.getD k false = true → G (l.setIfInBounds i true) k (a.tmps[d]?.getD undef) w') →
          (∀ k d, slotOf ops k = some d → l.getD k false = true → k ≠ i → X k i (a.tmps[d]?.getD undef) v ∧ X i k v (a.tmps[d]?.getD undef)) → B (l.setIfInBounds i true) w' → K (a.put o.dst v) w') →
        if Region.wanted o (yielded ops a.tmps) = true then Oper.wp P o a W K Q else K (a.put o.dst undef) W)
    (hend : ∀ (l : Array Bool) (u : Nat → Value) (W : World), (∀ j, j < ops.size → l.getD j false = true) →
      (∀ k d, slotOf ops k = some d → G l k (u k) W) → (∀ k1 d1 k2 d2, slotOf ops k1 = some d1 → slotOf ops k2 = some d2 → k1 ≠ k2 → X k1 k2 (u k1) (u k2)) → B l W → Q .normal (putAll ops.toList u 0 a0) W) : (Code.region id ops true).wp P Q a0 w := by
  refine region_inv hm (fun l a W => l.size = ops.size ∧ a.tmps.size = a0.tmps.size ∧ a.defers = a0.defers ∧
      (∀ s, (∀ (k : Nat) (o' : Oper), ops[k]? = some o' → o'.dst ≠ some s) → a.tmps.getD s undef = a0.tmps.getD s undef) ∧
      (∀ (k : Nat) (o' : Oper) (d : Nat), ops[k]? = some o' → o'.dst = some d → l.getD k false = true → G l k (a.tmps.getD d undef) W) ∧
      (∀ k1 d1 k2 d2, slotOf ops k1 = some d1 → slotOf ops k2 = some d2 → l.getD k1 false = true → l.getD k2 false = true → k1 ≠ k2 → X k1 k2 (a.tmps[d1]?.getD undef) (a.tmps[d2]?.getD undef)) ∧ B l W) hac ?_ ?_ ?_
  · refine ⟨by simp, rfl, rfl, fun _ _ => rfl, fun k o' d _ _ hl => ?_, fun k1 d1 k2 d2 _ _ hl => ?_, h0⟩ <;>
    · rw [Array.getD_eq_getD_getElem?, Array.getElem?_replicate] at hl
      split at hl <;> simp at hl
  · intro i o l a W ho hD ⟨i0, i1, i2, i3, i4, iX, i5⟩ hl hdeps K hK
    have hsl : ∀ k d, slotOf ops k = some d → ∃ o', ops[k]? = some o' ∧ o'.dst = some d := fun k d hk => by
      unfold slotOf at hk
      cases ho' : ops[k]? with
      | none => rw [ho'] at hk; cases hk
      | some o' => rw [ho'] at hk; exact ⟨o', rfl, hk⟩
    have hne : ∀ k d, slotOf ops k = some d → k ≠ i → o.dst ≠ some d := fun k d hk hki => by
      obtain ⟨o', ho', hd'⟩ := hsl k d hk
      exact dsts_ne hdst ho' hd' ho hki
    refine hstep i o l a W ho ⟨i0, hl, fun j hj => ?_, fun j hj => ?_, fun s hs => ?_, fun k d hk hl' => ?_, i5⟩ iX K fun v w' hG hst hX hB => hK _ _ ⟨by simp [i0], (put_size _ _ _).trans i1, (put_defers _ _ _).trans i2, fun s hs => (put_other _ _ _ _ (hs i o ho)).trans (i3 s hs), fun k o' d ho' hd' hl' => ?_, fun k1 d1 k2 d2 hk1 hk2 hl1 hl2 hne12 => ?_, hB⟩
    · unfold depB at hj
      rw [ho] at hj
      obtain ⟨e, he, h2⟩ := any_mem hj
      simp only [Bool.and_eq_true, beq_iff_eq] at h2
      rw [← h2.2]; exact hdeps e he h2.1
    · cases h : l.getD j false with
      | false => rfl
      | true => rw [anc_listed hD i _ _ hj h] at hl; cases hl
    · refine (Array.getD_eq_getD_getElem? ..).symm.trans (i3 s fun k o' hk e => ?_)
      have h1 := Array.all_eq_true_iff_forall_mem.1 hs o' (Array.mem_of_getElem? hk)
      rw [e] at h1; simp at h1
    · obtain ⟨o', ho', hd'⟩ := hsl k d hk
      rw [← Array.getD_eq_getD_getElem?]; exact i4 k o' d ho' hd' hl'
    · by_cases hik : i = k
      · subst hik
        rw [ho] at ho'; injection ho' with ho'; subst ho'
        rw [hd', put_same _ _ _ (by rw [i1]; exact dsts_lt hdst ho hd')]
        exact hG
      · rw [getD_set_ne false hik] at hl'
        rw [put_other _ _ _ _ (dsts_ne hdst ho' hd' ho (Ne.symm hik))]
        have := hst k d (by unfold slotOf; rw [ho']; exact hd') hl'
        rwa [← Array.getD_eq_getD_getElem?] at this
    · by_cases h1 : k1 = i
      · subst h1
        rw [getD_set_ne false hne12] at hl2
        obtain ⟨o1, ho1, hd1⟩ := hsl k1 d1 hk1
        rw [ho] at ho1; injection ho1 with ho1; subst ho1
        have e1 : (a.put o.dst v).tmps[d1]?.getD undef = v := by
          rw [hd1, ← Array.getD_eq_getD_getElem?]; exact put_same _ _ _ (by rw [i1]; exact dsts_lt hdst ho hd1)
        rw [e1, put_get_ne3 _ _ _ _ (hne k2 d2 hk2 (Ne.symm hne12))]
        exact (hX k2 d2 hk2 hl2 (Ne.symm hne12)).2
      · rw [getD_set_ne false (Ne.symm h1)] at hl1
        by_cases h2 : k2 = i
        · subst h2
          obtain ⟨o2, ho2, hd2⟩ := hsl k2 d2 hk2
          rw [ho] at ho2; injection ho2 with ho2; subst ho2
          have e1 : (a.put o.dst v).tmps[d2]?.getD undef = v := by
            rw [hd2, ← Array.getD_eq_getD_getElem?]; exact put_same _ _ _ (by rw [i1]; exact dsts_lt hdst ho hd2)
          rw [e1, put_get_ne3 _ _ _ _ (hne k1 d1 hk1 h1)]
          exact (hX k1 d1 hk1 hl1 h1).1
        · rw [getD_set_ne false (Ne.symm h2)] at hl2
          rw [put_get_ne3 _ _ _ _ (hne k1 d1 hk1 h1), put_get_ne3 _ _ _ _ (hne k2 d2 hk2 h2)]
          exact iX k1 d1 k2 d2 hk1 hk2 hl1 hl2 hne12
  · intro l a W ⟨i0, i1, i2, i3, i4, iX, i5⟩ hall
    have hf := frame_putAll hdst i1 i2 i3
    rw [hf]
    have hlt : ∀ k d, slotOf ops k = some d → k < ops.size := fun k d hk => by
      unfold slotOf at hk
      cases ho' : ops[k]? with
      | none => rw [ho'] at hk; cases hk
      | some o' => exact (Array.getElem?_eq_some_iff.1 ho').1
    have hval : ∀ k d, slotOf ops k = some d → a.tmps.getD (((ops[k]?).bind fun o => o.dst).getD 0) undef = a.tmps[d]?.getD undef := fun k d hk => by
      unfold slotOf at hk
      rw [hk, Array.getD_eq_getD_getElem?]; rfl
    refine hend l _ W hall (fun k d hk => ?_) (fun k1 d1 k2 d2 hk1 hk2 hne => ?_) i5
    · have h := hk
      unfold slotOf at h
      cases ho' : ops[k]? with
      | none => rw [ho'] at h; cases h
      | some o' =>
        rw [ho'] at h
        have := i4 k o' d ho' h (hall k (hlt k d hk))
        simp only [Option.bind_some] at h
        simpa [h] using this
    · have := iX k1 d1 k2 d2 hk1 hk2 (hall k1 (hlt k1 d1 hk1)) (hall k2 (hlt k2 d2 hk2)) hne
      simp only [hval k1 d1 hk1, hval k2 d2 hk2]
      exact this
end Go.Proofs.Ytnconhbambhhgaa
