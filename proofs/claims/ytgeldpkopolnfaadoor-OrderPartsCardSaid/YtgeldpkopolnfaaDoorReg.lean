/- A region that draws its order, walked by an invariant: one case for each operation, not one for each order. -/
import Derived.Test.YtgeldpkopolnfaaDoorDice
import Derived.RegionTactic
namespace Go.Proofs.YtgeldpkopolnfaaDoor
set_option linter.all false

/-- What has been listed, has had listed what it waits for. -/
def DownC (ops : Array Oper) (listed : Array Bool) : Prop :=
  ∀ (j : Nat) (o : Oper), ops[j]? = some o → listed.getD j false = true → ∀ e ∈ o.after, Region.binds .any e = true → listed.getD e.on false = true

theorem all_listed {ops : Array Oper} {listed : Array Bool} (hs : listed.size = ops.size) (hac : ∀ (i : Nat) (o : Oper), ops[i]? = some o → ∀ e ∈ o.after, e.on < i)
    (hr : Region.ready .any ops listed = []) : ∀ j, j < ops.size → listed.getD j false = true := by
  intro j
  induction j using Nat.strongRecOn with
  | ind j ih =>
    intro hj
    cases hl : listed.getD j false with
    | true => rfl
    | false =>
      exfalso
      have hm : j ∈ Region.ready .any ops listed := by
        rw [mem_ready]
        refine ⟨?_, ops[j], Array.getElem?_eq_getElem hj, fun e he hb => ih e.on (hac j _ (Array.getElem?_eq_getElem hj) e he) ?_⟩
        · rw [Array.getD_eq_getD_getElem?, Array.getElem?_eq_getElem (by omega)] at hl ⊢
          simpa using hl
        · have := hac j _ (Array.getElem?_eq_getElem hj) e he; omega
      rw [hr] at hm; cases hm

theorem down_set {ops : Array Oper} {listed : Array Bool} {i : Nat} {o : Oper} (hd : DownC ops listed) (ho : ops[i]? = some o)
    (hdeps : ∀ e ∈ o.after, Region.binds .any e = true → listed.getD e.on false = true) : DownC ops (listed.setIfInBounds i true) := by
  intro j o' ho' hj e he hb
  by_cases hji : i = j
  · subst hji
    rw [ho] at ho'; injection ho' with ho'; subst ho'
    exact getD_set_true (hdeps e he hb)
  · rw [getD_set_ne false hji] at hj
    exact getD_set_true (hd j o' ho' hj e he hb)

theorem wpAny_inv {P : Program} {ops : Array Oper} {Q : Exit → Act → World → Prop} (I : Array Bool → Act → World → Prop) (hac : ∀ (i : Nat) (o : Oper), ops[i]? = some o → ∀ e ∈ o.after, e.on < i)
    (hstep : ∀ (i : Nat) (o : Oper) (listed : Array Bool) (a : Act) (w : World), ops[i]? = some o → DownC ops listed → I listed a w → listed.getD i false = false → (∀ e ∈ o.after, Region.binds .any e = true → listed.getD e.on false = true) →
      ∀ K : Act → World → Prop, (∀ a' w', I (listed.setIfInBounds i true) a' w' → K a' w') → if Region.wanted o (yielded ops a.tmps) = true then Oper.wp P o a w K Q else K (a.put o.dst undef) w)
    (hend : ∀ (listed : Array Bool) (a : Act) (w : World), I listed a w → (∀ j, j < ops.size → listed.getD j false = true) → Q .normal a w) :
    ∀ fuel listed a w, listed.size = ops.size → DownC ops listed → I listed a w → listed.toList.count false ≤ fuel → wpAny P .any ops Q fuel listed a w := by
  intro fuel
  induction fuel with
  | zero =>
    intro listed a w hs hd hI hc
    have hall : ∀ j, j < ops.size → listed.getD j false = true := by
      intro j hj
      have h0 := List.count_eq_zero.1 (Nat.le_zero.1 hc)
      have hlt : j < listed.size := by omega
      rw [Array.getD_eq_getD_getElem?, Array.getElem?_eq_getElem hlt]
      cases h : listed[j] with
      | true => simp
      | false => exact absurd (h ▸ Array.getElem_mem_toList hlt) h0
    refine ⟨?_, hend _ _ _ hI hall⟩
    rw [List.eq_nil_iff_forall_not_mem]
    intro j hj
    obtain ⟨h1, o, ho, _⟩ := mem_ready.1 hj
    have hj' := (Array.getElem?_eq_some_iff.1 ho).1
    have h2 := hall j hj'
    rw [Array.getD_eq_getD_getElem?, Array.getElem?_eq_getElem (by omega)] at h1 h2
    simp at h1 h2
    rw [h1] at h2; cases h2
  | succ fuel ih =>
    intro listed a w hs hd hI hc
    refine ⟨fun hr => hend _ _ _ hI (all_listed hs hac hr), fun i hi => ?_⟩
    obtain ⟨h1, o, ho, hdeps⟩ := mem_ready.1 hi
    have hj' := (Array.getElem?_eq_some_iff.1 ho).1
    have hl : i < listed.size := by omega
    have h2 : listed[i] = false := by
      rw [Array.getD_eq_getD_getElem?, Array.getElem?_eq_getElem hl] at h1
      simpa using h1
    have h3 : listed.getD i false = false := by
      rw [Array.getD_eq_getD_getElem?, Array.getElem?_eq_getElem hl, h2]; rfl
    refine wpOp_step ho fun K hK => hstep i o listed a w ho hd hI h3 hdeps K fun a' w' hI' => hK a' w' (ih _ _ _ (by simp [hs]) (down_set hd ho hdeps) hI' ?_)
    have : (listed.setIfInBounds i true).toList.count false + 1 = listed.toList.count false := by
      rw [Array.toList_setIfInBounds, List.count_set (by simpa using hl)]
      have h4 : listed.toList[i]'(by simpa using hl) = false := by simpa using h2
      have h5 : 0 < listed.toList.count false := List.count_pos_iff.2 (h4 ▸ List.getElem_mem _)
      rw [h4, if_pos (show (false == false) = true from rfl), if_neg (show ¬ (true == false) = true by decide)]
      omega
    omega

/-- Each operation waits for earlier ones alone. -/
def earlierB (ops : Array Oper) : Bool := (List.range ops.size).all fun i => match ops[i]? with
  | none => true
  | some o => o.after.all fun e => decide (e.on < i)
theorem earlier_of {ops : Array Oper} (h : earlierB ops = true) : ∀ (i : Nat) (o : Oper), ops[i]? = some o → ∀ e ∈ o.after, e.on < i := by
  intro i o ho e he
  have hlt := (Array.getElem?_eq_some_iff.1 ho).1
  have h1 := List.all_eq_true.1 h i (List.mem_range.2 hlt)
  rw [ho] at h1
  have h2 := (Array.all_eq_true_iff_forall_mem.1 h1) e he
  simpa using h2

theorem region_inv {P : Program} {ops : Array Oper} {Q : Exit → Act → World → Prop} {id : Nat} {a : Act} {w : World} (hm : P.follows .mixedOrders = true) (I : Array Bool → Act → World → Prop)
    (hac : earlierB ops = true)
    (h0 : I (Array.replicate ops.size false) a w.drew)
    (hstep : ∀ (i : Nat) (o : Oper) (listed : Array Bool) (a : Act) (w : World), ops[i]? = some o → DownC ops listed → I listed a w → listed.getD i false = false → (∀ e ∈ o.after, Region.binds .any e = true → listed.getD e.on false = true) →
      ∀ K : Act → World → Prop, (∀ a' w', I (listed.setIfInBounds i true) a' w' → K a' w') → if Region.wanted o (yielded ops a.tmps) = true then Oper.wp P o a w K Q else K (a.put o.dst undef) w)
    (hend : ∀ (listed : Array Bool) (a : Act) (w : World), I listed a w → (∀ j, j < ops.size → listed.getD j false = true) → Q .normal a w) : (Code.region id ops true).wp P Q a w := by
  refine wp_region_any hm (wpAny_inv I (earlier_of hac) hstep hend _ _ _ _ (by simp) ?_ h0 ?_)
  · intro j o _ hj
    rw [Array.getD_eq_getD_getElem?, Array.getElem?_replicate] at hj
    split at hj <;> simp at hj
  · rw [Array.toList_replicate]
    exact Nat.le_trans List.count_le_length (by simp)

theorem put_size (a : Act) (d : Option Tmp) (v : Value) : (a.put d v).tmps.size = a.tmps.size := by
  cases d <;> simp [Act.put]
theorem put_defers (a : Act) (d : Option Tmp) (v : Value) : (a.put d v).defers = a.defers := by
  cases d <;> simp [Act.put]
theorem put_other (a : Act) (d : Option Tmp) (v : Value) (s : Nat) (h : d ≠ some s) : (a.put d v).tmps.getD s undef = a.tmps.getD s undef := by
  cases d with
  | none => rfl
  | some d =>
    have hne : d ≠ s := fun e => h (by rw [e])
    simp [Act.put, Array.getElem?_setIfInBounds_ne hne]
theorem put_same (a : Act) (d : Nat) (v : Value) (h : d < a.tmps.size) : (a.put (some d) v).tmps.getD d undef = v := by
  simp [Act.put, h]

/-- The slots that a region writes are all different, and lie in the frame. -/
def dstsB (ops : Array Oper) (n : Nat) : Bool :=
  (List.range ops.size).all fun i => match (ops[i]?).bind (·.dst) with
    | none => true
    | some d => decide (d < n) && (List.range i).all fun k => (ops[k]?).bind (·.dst) != some d
theorem dsts_lt {ops : Array Oper} {n : Nat} (h : dstsB ops n = true) {i : Nat} {o : Oper} {d : Nat} (ho : ops[i]? = some o) (hd : o.dst = some d) : d < n := by
  have hlt := (Array.getElem?_eq_some_iff.1 ho).1
  have h1 := List.all_eq_true.1 h i (List.mem_range.2 hlt)
  rw [show (ops[i]?).bind (·.dst) = some d by rw [ho]; exact hd] at h1
  simp only [Bool.and_eq_true, decide_eq_true_eq] at h1
  exact h1.1
theorem dsts_ne {ops : Array Oper} {n : Nat} (h : dstsB ops n = true) {i j : Nat} {o o' : Oper} {d : Nat} (ho : ops[i]? = some o) (hd : o.dst = some d) (ho' : ops[j]? = some o') (hij : i ≠ j) : o'.dst ≠ some d := by
  have main : ∀ {i j : Nat} {o o' : Oper}, ops[i]? = some o → o.dst = some d → ops[j]? = some o' → j < i → o'.dst ≠ some d := by
    intro i j o o' ho hd ho' hij e
    have hlt := (Array.getElem?_eq_some_iff.1 ho).1
    have h1 := List.all_eq_true.1 h i (List.mem_range.2 hlt)
    rw [show (ops[i]?).bind (·.dst) = some d by rw [ho]; exact hd] at h1
    simp only [Bool.and_eq_true, decide_eq_true_eq] at h1
    have h2 := List.all_eq_true.1 h1.2 j (List.mem_range.2 hij)
    rw [show (ops[j]?).bind (·.dst) = some d by rw [ho']; exact e] at h2
    simp at h2
  rcases Nat.lt_or_gt_of_ne hij with h1 | h1
  · intro e
    exact main ho' e ho h1 hd
  · exact main ho hd ho' h1

/-- The frame behind a region: u k in the slot of operation k. -/
def putAll : List Oper → (Nat → Value) → Nat → Act → Act
  | [], _, _, a => a
  | o :: l, u, k, a => putAll l u (k + 1) (a.put o.dst (u k))

theorem putAll_size (l : List Oper) (u : Nat → Value) : ∀ (k : Nat) (a : Act), (putAll l u k a).tmps.size = a.tmps.size := by
  induction l with
  | nil => intro k a; rfl
  | cons o l ih => intro k a; exact (ih _ _).trans (put_size _ _ _)
theorem putAll_defers (l : List Oper) (u : Nat → Value) : ∀ (k : Nat) (a : Act), (putAll l u k a).defers = a.defers := by
  induction l with
  | nil => intro k a; rfl
  | cons o l ih => intro k a; exact (ih _ _).trans (put_defers _ _ _)
theorem putAll_out (l : List Oper) (u : Nat → Value) : ∀ (k : Nat) (a : Act) (s : Nat), (∀ o ∈ l, o.dst ≠ some s) → (putAll l u k a).tmps.getD s undef = a.tmps.getD s undef := by
  induction l with
  | nil => intro k a s _; rfl
  | cons o l ih => intro k a s h; exact (ih _ _ _ (fun o' ho => h o' (List.mem_cons_of_mem _ ho))).trans (put_other _ _ _ _ (h o (List.mem_cons_self ..)))
theorem putAll_in (l : List Oper) (u : Nat → Value) : ∀ (k : Nat) (a : Act) (s j : Nat) (o : Oper), l[j]? = some o → o.dst = some s → s < a.tmps.size → (∀ j' o', l[j']? = some o' → j' ≠ j → o'.dst ≠ some s) → (putAll l u k a).tmps.getD s undef = u (k + j) := by
  induction l with
  | nil => intro k a s j o h; simp at h
  | cons o' l ih =>
    intro k a s j o h hd hlt hne
    cases j with
    | zero =>
      simp at h; subst h
      refine (putAll_out l u _ _ _ (fun o'' ho => ?_)).trans ?_
      · obtain ⟨j', hj', rfl⟩ := List.getElem_of_mem ho
        exact hne (j' + 1) _ (by simp [List.getElem?_eq_getElem hj']) (by omega)
      · rw [hd]; exact put_same _ _ _ hlt
    | succ j =>
      have h2 : l[j]? = some o := by simpa using h
      have := ih (k + 1) (a.put o'.dst (u k)) s j o h2 hd (by rw [put_size]; exact hlt) (fun j' o'' h3 h4 => hne (j' + 1) o'' (by simpa using h3) (by omega))
      rw [show putAll (o' :: l) u k a = putAll l u (k + 1) (a.put o'.dst (u k)) from rfl, this]
      congr 1; omega

theorem arr_ext {xs ys : Array Value} (hs : xs.size = ys.size) (h : ∀ s, s < ys.size → xs.getD s undef = ys.getD s undef) : xs = ys := by
  apply Array.ext hs
  intro i h1 h2
  have := h i h2
  rw [Array.getD_eq_getD_getElem?, Array.getD_eq_getD_getElem?, Array.getElem?_eq_getElem h1, Array.getElem?_eq_getElem h2] at this
  simpa using this

theorem frame_putAll {ops : Array Oper} {a0 a : Act} (hdst : dstsB ops a0.tmps.size = true) (h1 : a.tmps.size = a0.tmps.size) (h2 : a.defers = a0.defers)
    (h3 : ∀ s, (∀ (k : Nat) (o' : Oper), ops[k]? = some o' → o'.dst ≠ some s) → a.tmps.getD s undef = a0.tmps.getD s undef) :
    a = putAll ops.toList (fun k => a.tmps.getD (((ops[k]?).bind fun o => o.dst).getD 0) undef) 0 a0 := by
  suffices h : ∀ u : Nat → Value, (fun k => a.tmps.getD (((ops[k]?).bind fun o => o.dst).getD 0) undef) = u → a = putAll ops.toList u 0 a0 from h _ rfl
  intro u hu
  have e2 : a.defers = (putAll ops.toList u 0 a0).defers := h2.trans (putAll_defers _ _ _ _).symm
  have e1 : a.tmps = (putAll ops.toList u 0 a0).tmps := by
    refine arr_ext (h1.trans (putAll_size _ _ _ _).symm) fun s hs => ?_
    by_cases hin : ∀ (k : Nat) (o' : Oper), ops[k]? = some o' → o'.dst ≠ some s
    · refine (h3 s hin).trans (putAll_out _ _ _ _ _ fun o ho => ?_).symm
      obtain ⟨j, hj, rfl⟩ := List.getElem_of_mem ho
      exact hin j _ (by rw [Array.getElem?_eq_getElem (by simpa using hj)]; simp)
    · have : ∃ (k : Nat) (o' : Oper), ops[k]? = some o' ∧ o'.dst = some s := by
        refine Classical.byContradiction fun hn => hin fun k o' ho he => hn ⟨k, o', ho, he⟩
      obtain ⟨k, o, ho, hd⟩ := this
      rw [putAll_in ops.toList u 0 a0 s k o (by simpa using ho) hd (dsts_lt hdst ho hd) (fun j' o' h4 h5 => dsts_ne hdst ho hd (by simpa using h4) (Ne.symm h5)), Nat.zero_add, ← hu]
      simp [ho, hd]
  cases a
  simp only at e1 e2
  rw [e1, e2]

theorem any_mem {α : Type} {xs : Array α} {p : α → Bool} (h : xs.any p = true) : ∃ e, e ∈ xs ∧ p e = true := by
  obtain ⟨i, hi, h2⟩ := Array.any_eq_true.1 h
  exact ⟨xs[i], Array.getElem_mem hi, h2⟩
/-- Operation i waits for j. -/
def depB (ops : Array Oper) (i j : Nat) : Bool := match ops[i]? with
  | none => false
  | some o => o.after.any fun e => Region.binds .any e && e.on == j
/-- Operation j waits, through others too, for i. -/
def ancB (ops : Array Oper) (i : Nat) : Nat → Nat → Bool
  | 0, _ => false
  | n + 1, j => match ops[j]? with
    | none => false
    | some o => o.after.any fun e => Region.binds .any e && (e.on == i || ancB ops i n e.on)
theorem anc_listed {ops : Array Oper} {listed : Array Bool} (hD : DownC ops listed) (i : Nat) : ∀ n j, ancB ops i n j = true → listed.getD j false = true → listed.getD i false = true := by
  intro n
  induction n with
  | zero => intro j h; cases h
  | succ n ih =>
    intro j h hl
    unfold ancB at h
    split at h
    · cases h
    · rename_i o ho
      obtain ⟨e, he, h2⟩ := any_mem h
      simp only [Bool.and_eq_true, Bool.or_eq_true, beq_iff_eq] at h2
      have := hD j o ho hl e he h2.1
      rcases h2.2 with h3 | h3
      · rw [← h3]; exact this
      · exact ih _ h3 this
/-- Slot s is written by no operation. -/
def outB (ops : Array Oper) (s : Nat) : Bool := ops.all fun o => o.dst != some s
/-- The slot of operation k. -/
def slotOf (ops : Array Oper) (k : Nat) : Option Nat := (ops[k]?).bind fun o => o.dst

theorem set_false {l : Array Bool} {i j : Nat} (h : (l.setIfInBounds i true).getD j false = false) : l.getD j false = false := by
  cases hl : l.getD j false with
  | false => rfl
  | true => rw [getD_set_true hl] at h; cases h
theorem set_same {l : Array Bool} {i : Nat} (h : i < l.size) : (l.setIfInBounds i true).getD i false = true := by simp [h]

/-- What an operation may count on: W its world, a the frame, l what has been listed. -/
structure At (ops : Array Oper) (a0 : Act) (G : Array Bool → Nat → Value → World → Prop) (B : Array Bool → World → Prop) (i : Nat) (l : Array Bool) (a : Act) (W : World) : Prop where
  size : l.size = ops.size
  open_ : l.getD i false = false
  dep : ∀ j, depB ops i j = true → l.getD j false = true
  later : ∀ j, ancB ops i ops.size j = true → l.getD j false = false
  out : ∀ s, outB ops s = true → a.tmps[s]?.getD undef = a0.eval (.tmp s)
  have_ : ∀ k d, slotOf ops k = some d → l.getD k false = true → G l k (a.tmps[d]?.getD undef) W
  base : B l W

/-- A region that draws its order, by facts: what each operation leaves (G), and what holds of the world (B). -/
theorem region_facts {P : Program} {ops : Array Oper} {Q : Exit → Act → World → Prop} {id : Nat} {a0 : Act} {w : World} (hm : P.follows .mixedOrders = true)
    (G : Array Bool → Nat → Value → World → Prop) (B : Array Bool → World → Prop)
    (hac : earlierB ops = true) (hdst : dstsB ops a0.tmps.size = true)
    (h0 : B (Array.replicate ops.size false) w.drew)
    (hstep : ∀ (i : Nat) (o : Oper) (l : Array Bool) (a : Act) (W : World), ops[i]? = some o → At ops a0 G B i l a W →
      ∀ K : Act → World → Prop, (∀ v w', G (l.setIfInBounds i true) i v w' → (∀ k u, l.getD k false = true → G l k u W → G (l.setIfInBounds i true) k u w') → B (l.setIfInBounds i true) w' → K (a.put o.dst v) w') →
        if Region.wanted o (yielded ops a.tmps) = true then Oper.wp P o a W K Q else K (a.put o.dst undef) W)
    (hend : ∀ (l : Array Bool) (u : Nat → Value) (W : World), (∀ j, j < ops.size → l.getD j false = true) →
      (∀ k d, slotOf ops k = some d → G l k (u k) W) → B l W → Q .normal (putAll ops.toList u 0 a0) W) : (Code.region id ops true).wp P Q a0 w := by
  refine region_inv hm (fun l a W => l.size = ops.size ∧ a.tmps.size = a0.tmps.size ∧ a.defers = a0.defers ∧
      (∀ s, (∀ (k : Nat) (o' : Oper), ops[k]? = some o' → o'.dst ≠ some s) → a.tmps.getD s undef = a0.tmps.getD s undef) ∧
      (∀ (k : Nat) (o' : Oper) (d : Nat), ops[k]? = some o' → o'.dst = some d → l.getD k false = true → G l k (a.tmps.getD d undef) W) ∧ B l W) hac ?_ ?_ ?_
  · refine ⟨by simp, rfl, rfl, fun _ _ => rfl, fun k o' d _ _ hl => ?_, h0⟩
    rw [Array.getD_eq_getD_getElem?, Array.getElem?_replicate] at hl
    split at hl <;> simp at hl
  · intro i o l a W ho hD ⟨i0, i1, i2, i3, i4, i5⟩ hl hdeps K hK
    refine hstep i o l a W ho ⟨i0, hl, fun j hj => ?_, fun j hj => ?_, fun s hs => ?_, fun k d hk hl' => ?_, i5⟩ K fun v w' hG hst hB => hK _ _ ⟨by simp [i0], (put_size _ _ _).trans i1, (put_defers _ _ _).trans i2, fun s hs => (put_other _ _ _ _ (hs i o ho)).trans (i3 s hs), fun k o' d ho' hd' hl' => ?_, hB⟩
    · unfold depB at hj
      rw [ho] at hj
      obtain ⟨e, he, h2⟩ := any_mem hj
      simp only [Bool.and_eq_true, beq_iff_eq] at h2
      rw [← h2.2]; exact hdeps e he h2.1
    · cases h : l.getD j false with
      | false => rfl
      | true => rw [anc_listed hD i _ _ hj h] at hl; cases hl
    · refine (Array.getD_eq_getD_getElem? ..).symm.trans (i3 s fun k o' hk e => ?_)
      have h1 := Array.all_eq_true_iff_forall_mem.1 hs o' (Array.mem_of_getElem? hk)
      rw [e] at h1; simp at h1
    · unfold slotOf at hk
      cases ho' : ops[k]? with
      | none => rw [ho'] at hk; cases hk
      | some o' => rw [ho'] at hk; rw [← Array.getD_eq_getD_getElem?]; exact i4 k o' d ho' hk hl'
    · by_cases hik : i = k
      · subst hik
        rw [ho] at ho'; injection ho' with ho'; subst ho'
        rw [hd', put_same _ _ _ (by rw [i1]; exact dsts_lt hdst ho hd')]
        exact hG
      · rw [getD_set_ne false hik] at hl'
        rw [put_other _ _ _ _ (dsts_ne hdst ho' hd' ho (Ne.symm hik))]
        exact hst k _ hl' (i4 k o' d ho' hd' hl')
  · intro l a W ⟨i0, i1, i2, i3, i4, i5⟩ hall
    have hf := frame_putAll hdst i1 i2 i3
    rw [hf]
    refine hend l _ W hall (fun k d hk => ?_) i5
    unfold slotOf at hk
    cases ho' : ops[k]? with
    | none => rw [ho'] at hk; cases hk
    | some o' =>
      rw [ho'] at hk
      have := i4 k o' d ho' hk (hall k (Array.getElem?_eq_some_iff.1 ho').1)
      simp only [Option.bind_some] at hk
      simpa [hk] using this
end Go.Proofs.YtgeldpkopolnfaaDoor
