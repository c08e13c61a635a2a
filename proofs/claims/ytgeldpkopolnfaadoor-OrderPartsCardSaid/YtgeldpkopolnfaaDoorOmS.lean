/- compare; slices.SortFunc of sets. -/
import Derived.Lib.OwnBridge
import Derived.Shelf.SlSortCmp.NoneTotal
import Derived.Test.YtgeldpkopolnfaaDoorOmN
import Derived.Test.YtgeldpkopolnfaaDoorShelf
namespace Go.Proofs.YtgeldpkopolnfaaDoor
open Go.RowKit Go.Shelf Go.Sort
set_option linter.all false

/-- A mask of 24 bits. -/
abbrev M24 := { x : Nat // x < 16777216 }
instance : Inhabited M24 := ⟨⟨0, by decide⟩⟩
def encM (x : M24) : Value := .int .u32 ((x.1 : Nat) : Int)
/-- The order of sets: the one with the first bit that only one of both has comes first. -/
def ltM (x y : Nat) : Prop := ∃ k, (∀ i, i < k → x.testBit i = y.testBit i) ∧ x.testBit k = true ∧ y.testBit k = false
theorem ltM_irrefl (x : Nat) : ¬ ltM x x := by
  rintro ⟨k, _, h1, h2⟩
  rw [h1] at h2; cases h2
theorem ltM_trans {x y z : Nat} (h : ltM x y) (h' : ltM y z) : ltM x z := by
  obtain ⟨k, e, h1, h2⟩ := h
  obtain ⟨m, e', h3, h4⟩ := h'
  rcases Nat.lt_trichotomy k m with hk | rfl | hk
  · exact ⟨k, fun i hi => (e i hi).trans (e' i (by omega)), h1, (e' k hk).symm.trans h2⟩
  · rw [h2] at h3; cases h3
  · exact ⟨m, fun i hi => (e i (by omega)).trans (e' i hi), (e m hk).trans h3, h4⟩
theorem ltM_tri (x y : Nat) : x = y ∨ ltM x y ∨ ltM y x := by
  by_cases h : x ^^^ y = 0
  · left
    apply Nat.eq_of_testBit_eq
    intro i
    have := congrArg (fun z => z.testBit i) h
    simp only [Nat.testBit_xor, Nat.zero_testBit] at this
    cases e1 : x.testBit i <;> cases e2 : y.testBit i <;> simp_all
  · right
    obtain ⟨k, m, e⟩ := odd_part (x ^^^ y) (Nat.pos_of_ne_zero h)
    have hb : ∀ i, (x ^^^ y).testBit i = if i < k + 1 then decide (k = i) else m.testBit (i - (k + 1)) := fun i => by rw [e, odd_bits]
    have hlow : ∀ i, i < k → x.testBit i = y.testBit i := fun i hi => by
      have := hb i
      rw [if_pos (by omega), Nat.testBit_xor] at this
      have hne : ¬ k = i := by omega
      simp only [hne, decide_false] at this
      cases e1 : x.testBit i <;> cases e2 : y.testBit i <;> simp_all
    have hk := hb k
    rw [if_pos (by omega), Nat.testBit_xor] at hk
    simp only [decide_true] at hk
    cases e1 : x.testBit k
    · right
      exact ⟨k, fun i hi => (hlow i hi).symm, by rw [e1] at hk; simpa using hk, e1⟩
    · left
      exact ⟨k, hlow, e1, by rw [e1] at hk; simpa using hk⟩
open Classical in
noncomputable def cfM (x y : M24) : Int := if x.1 = y.1 then 0 else if ltM x.1 y.1 then -1 else 1
theorem cfM_lt (x y : M24) : ltOf cfM x y = true ↔ ltM x.1 y.1 := by
  classical
  unfold ltOf cfM
  rw [decide_eq_true_iff]
  by_cases h : x.1 = y.1
  · rw [if_pos h, h]
    exact ⟨fun h => by omega, fun h => absurd h (ltM_irrefl _)⟩
  · rw [if_neg h]
    by_cases h2 : ltM x.1 y.1
    · rw [if_pos h2]; exact ⟨fun _ => h2, fun _ => by decide⟩
    · rw [if_neg h2]; exact ⟨fun h => by omega, fun h => absurd h h2⟩
theorem swoM : SWO (ltOf cfM) where
  irrefl x := by rw [← Bool.not_eq_true, cfM_lt]; exact ltM_irrefl _
  trans x y z h1 h2 := by rw [cfM_lt] at *; exact ltM_trans h1 h2
  ntrans x y z h1 h2 := by
    rw [← Bool.not_eq_true, cfM_lt] at *
    intro h3
    rcases ltM_tri x.1 y.1 with h | h | h
    · rw [h] at h3; exact h2 h3
    · exact h1 h
    · rcases ltM_tri y.1 z.1 with h' | h' | h'
      · rw [h'] at h1; exact h1 h3
      · exact h2 h'
      · exact ltM_irrefl _ (ltM_trans h3 (ltM_trans h' h))
set_option maxHeartbeats 1000000 in
theorem compare_set (x y : M24) (w : World) (hT : Deb w) : Calls Tryd.prog 42 #[encM x, encM y] w fun e w' => e = .returned (.int .i64 (cfM x y)) ∧ w' = w := by
  obtain ⟨x, hx⟩ := x
  obtain ⟨y, hy⟩ := y
  have hxor := u32_xor_nat x y (by omega) (by omega)
  have hx24 : x ^^^ y < 16777216 := Nat.xor_lt_two_pow (n := 24) hx hy
  unfold encM
  dsimp only
  by_cases h : x ^^^ y = 0
  · have hxy : x = y := by
      rcases ltM_tri x y with e | ⟨k, _, h1, h2⟩ | ⟨k, _, h1, h2⟩
      · exact e
      · have := congrArg (fun z => z.testBit k) h
        simp only [Nat.testBit_xor, Nat.zero_testBit, h1, h2] at this
        cases this
      · have := congrArg (fun z => z.testBit k) h
        simp only [Nat.testBit_xor, Nat.zero_testBit, h1, h2] at this
        cases this
    have hc : cfM ⟨x, hx⟩ ⟨y, hy⟩ = 0 := by unfold cfM; rw [if_pos hxy]
    rw [hc]
    rw [h] at hxor
    clear hxy
    go_enter Tryd.func42, Tryd.ntmps42
    go_wp2_with fail
    go_ret
    exact ⟨rfl, rfl⟩
  · obtain ⟨k, m, e⟩ := odd_part (x ^^^ y) (Nat.pos_of_ne_zero h)
    have hk24 : k < 24 := by
      have hb : (x ^^^ y).testBit k = true := by rw [e, odd_bits, if_pos (by omega)]; simp
      rcases Nat.lt_or_ge k 24 with h1 | h1
      · exact h1
      · rw [bit_of_lt (n := 24) hx24 h1] at hb; cases hb
    have hb : ∀ i, (x ^^^ y).testBit i = if i < k + 1 then decide (k = i) else m.testBit (i - (k + 1)) := fun i => by rw [e, odd_bits]
    have hlow : ∀ i, i < k → x.testBit i = y.testBit i := fun i hi => by
      have := hb i
      rw [if_pos (by omega), Nat.testBit_xor] at this
      have hne : ¬ k = i := by omega
      simp only [hne, decide_false] at this
      cases e1 : x.testBit i <;> cases e2 : y.testBit i <;> simp_all
    have hk := hb k
    rw [if_pos (by omega), Nat.testBit_xor] at hk
    simp only [decide_true] at hk
    have hne : ¬ x = y := by rintro rfl; exact h (Nat.xor_self x)
    have hcf : cfM ⟨x, hx⟩ ⟨y, hy⟩ = if x.testBit k then -1 else 1 := by
      unfold cfM
      rw [if_neg hne]
      cases e1 : x.testBit k
      · have h2 : y.testBit k = true := by rw [e1] at hk; simpa using hk
        have : ltM y x := ⟨k, fun i hi => (hlow i hi).symm, h2, e1⟩
        rw [if_neg (fun h3 => ltM_irrefl _ (ltM_trans this h3))]; rfl
      · have h2 : y.testBit k = false := by rw [e1] at hk; simpa using hk
        rw [if_pos ⟨k, hlow, e1, h2⟩]; rfl
    have H1 := tz_any k m (by rw [← e]; omega) w hT
    rw [← e] at H1
    have H2 := Lib.hid (has_any x k hx hk24 w)
    have H1 := Lib.hid H1
    have hz0 : ¬ ((x ^^^ y : Nat) : Int) = 0 := by omega
    have hz1 : (((x ^^^ y : Nat) : Int) == 0) = false := by simp; omega
    generalize x ^^^ y = z at *
    rw [hcf]
    generalize x.testBit k = bx at *
    clear hb hlow hk hne hcf e
    cases bx
    · go_enter Tryd.func42, Tryd.ntmps42
      go_wp2_with (first | (go_at_call 45; refine (H1.out).mono ?_; clear H1; rintro e w' ⟨rfl, rfl⟩) | (go_at_call 43; refine (H2.out).mono ?_; clear H2; rintro e w' ⟨rfl, rfl⟩))
      go_ret
      exact ⟨rfl, rfl⟩
    · go_enter Tryd.func42, Tryd.ntmps42
      go_wp2_with (first | (go_at_call 45; refine (H1.out).mono ?_; clear H1; rintro e w' ⟨rfl, rfl⟩) | (go_at_call 43; refine (H2.out).mono ?_; clear H2; rintro e w' ⟨rfl, rfl⟩))
      go_ret
      exact ⟨rfl, rfl⟩

/-- A row of masks that is read. -/
def RowM (W : World) (v : Value) (N : List Nat) : Prop := ∃ a c, v = .slice a N.length c ∧ N.length ≤ c ∧ ∀ j, j < N.length → ∃ b o, a = some ⟨b, o, none⟩ ∧ W.cell? ⟨b, o + j, none⟩ = some (.int .u32 ((N.getD j 0 : Nat) : Int))
theorem RowM.step {W W' : World} {v : Value} {N : List Nat} (h : RowM W v N) (hb : Below W.heap.size W W') : RowM W' v N := by
  obtain ⟨a, c, e, hc, h⟩ := h
  refine ⟨a, c, e, hc, fun j hj => ?_⟩
  obtain ⟨b, o, e2, h2⟩ := h j hj
  exact ⟨b, o, e2, cell_later' hb h2⟩
def cellsU (N : List Nat) : List Value := N.map fun t => .int .u32 ((t : Nat) : Int)
theorem lift_M : ∀ (N : List Nat), (∀ t ∈ N, t < 16777216) → ∃ zs : List M24, zs.map (·.1) = N ∧ zs.map encM = cellsU N
  | [], _ => ⟨[], rfl, rfl⟩
  | t :: N, h => by
    obtain ⟨zs, h1, h2⟩ := lift_M N fun x hx => h x (by simp [hx])
    exact ⟨⟨t, h t (by simp)⟩ :: zs, by rw [List.map_cons, h1], by rw [List.map_cons, h2]; rfl⟩
theorem grown_sort {enc : M24 → Value} {w : World} {g n : Nat} {d : Array M24} {os : Array Obj} (hq : g < w.heap.size) : w.grownBy (sortWorld enc w g 0 n d os) (some g) := by
  refine ⟨rfl, rfl, rfl, ?_, fun k hk hne => ?_⟩
  · simp [sortWorld, grow, putRow, mapBlock, Go.Sort.ahead]
  · have h2 : k ≠ g := fun e => hne (by rw [e])
    simp [sortWorld, grow, putRow, mapBlock, Go.Sort.ahead, Array.getElem?_append_left, hk, Array.getElem?_modify, h2, Ne.symm h2]
    rw [Array.getElem_modify, if_neg (Ne.symm h2)]
theorem Deb.grown {W W' : World} {g : Nat} (h : Deb W) (hg : W.grownBy W' (some g)) (h0 : 1 ≤ g) : Deb W' :=
  ⟨Nat.lt_of_lt_of_le h.1 hg.size, fun k hk => hg.cell (h.2 k hk) (by simp; omega)⟩
set_option maxHeartbeats 1000000 in
theorem sortSets_any (W : World) (n₀ : Nat) (v : Value) (N : List Nat) (h1 : 1 ≤ n₀) (hN : ∀ t ∈ N, t < 16777216) (hl : N.length < 1000000000) (hT : Deb W) (hown : W.ownsRow n₀ 57 1 v N.length (cellsU N)) :
    Calls Tryd.prog 41 #[v, .func (.func 42) #[] #[]] W fun e W' => e = .returned (.tuple #[]) ∧ ∃ N', N'.Perm N ∧ RowM W' v N' ∧ W.grownBy W' v.ownBlock := by
  by_cases hv : v = .slice none 0 0
  · subst hv
    have hN0 : N = [] := by
      rcases hown.2 with ⟨_, h⟩ | ⟨g, cap, cur, h, _⟩
      · exact List.length_eq_zero_iff.1 h
      · cases h
    subst hN0
    refine (AnyF.slices_SortFunc_none (P := Tryd.prog) (ρ := Tryd.sortSet_ren) { Tryd.sortSet with } none 0 (.func (.func 42) #[] #[]) W).mono ?_
    rintro e w' ⟨rfl, rfl⟩
    exact ⟨rfl, [], List.Perm.nil, ⟨none, 0, rfl, Nat.le_refl _, fun j hj => by simp at hj⟩, World.grownBy.refl _ _⟩
  · obtain ⟨zs, hz1, hz2⟩ := lift_M N hN
    have hzl : zs.length = N.length := by rw [← hz1, List.length_map]
    rw [← hz2] at hown
    obtain ⟨g, cap, rfl, hbg, hlt, hcap, _, hlen, hH⟩ := Go.Lib.holds_of_ownsRow hown hv
    have eg : ∀ args w, (callFunc 42 args).run Tryd.prog w = .ok (.enter 42 args) w := enters_of Tryd.func42 (by kernel_rfl) rfl
    have hs : zs.toArray.size = N.length := by simpa using hzl
    have hcon := Any.slices_SortFunc (P := Tryd.prog) (ρ := Tryd.sortSet_ren) Tryd.sortSet encM (fun x => rfl) cfM swoM 42 #[] g 0 cap zs.toArray W eg
      (CmpReads.lays fun m os dk hd x y => (compare_set x y _ (hT.grown (grown_sort hlt) (by omega))).mono fun e w' ⟨h1, h2⟩ => ⟨h1, 0, h2⟩) hH hlt (by rw [hs]; omega)
    rw [hs] at hcon
    refine hcon.mono ?_
    rintro e w' ⟨rfl, d', n, os, hp, _, rfl⟩
    have hsz : d'.size = N.length := by rw [hp.1]; exact hs
    have hperm : d'.toList.Perm zs := by
      have := hp.2.2
      rw [show N.length = d'.size from hsz.symm, Array.extract_size] at this
      rw [hsz, ← hs, Array.extract_size] at this
      simpa using this
    refine ⟨rfl, d'.toList.map (·.1), ?_, ?_, grown_sort hlt⟩
    · rw [← hz1]; exact hperm.map _
    · have hl2 : (d'.toList.map (·.1)).length = N.length := by simp [hsz]
      refine ⟨some ⟨g, 0, none⟩, cap, by rw [hl2], by rw [hl2]; exact hcap, fun j hj => ⟨g, 0, rfl, ?_⟩⟩
      have hj' : j < d'.size := by rw [hl2] at hj; omega
      have := (holds_sortWorld encM W g 0 n zs.toArray d' os hlt hH (by rw [hsz, hs]) j hj').1
      rw [this]
      simp [encM, List.getD, hj', getElem!_pos]
end Go.Proofs.YtgeldpkopolnfaaDoor
