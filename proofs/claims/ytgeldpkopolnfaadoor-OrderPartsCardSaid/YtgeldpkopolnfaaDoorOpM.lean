/- Traces of closed sets; Check of no changes. -/
import Derived.Test.YtgeldpkopolnfaaDoorOpP
import Derived.Test.YtgeldpkopolnfaaDoorOsA
namespace Go.Proofs.YtgeldpkopolnfaaDoor
open Go.RowKit
set_option linter.all false

def trTo (l : List Nat) (x k : Nat) : List Nat := (List.range k).filter fun k => x.testBit (l.getD k 0)
/-- What a set has in common with a part, by its places. -/
def trM (l : List Nat) (x : Nat) : Nat := maskL (trTo l x l.length)
theorem trTo_succ (l : List Nat) (x k : Nat) : trTo l x (k + 1) = trTo l x k ++ if x.testBit (l.getD k 0) then [k] else [] := by
  unfold trTo
  rw [List.range_succ, List.filter_append, List.filter_cons, List.filter_nil]
theorem trTo_length (l : List Nat) (x k : Nat) : (trTo l x k).length ≤ k := by unfold trTo; exact Nat.le_trans (List.length_filter_le _ _) (by simp)
theorem trTo_idx {l : List Nat} {x : Nat} (h : l.length ≤ 24) : trTo l x l.length = idx (trM l x) := by
  unfold trM
  rw [idx_maskL]
  · unfold trTo; exact (List.pairwise_lt_range).filter _
  · intro i hi
    unfold trTo at hi
    rw [List.mem_filter, List.mem_range] at hi
    omega
theorem trM_bit {l : List Nat} {x k : Nat} : (trM l x).testBit k = true ↔ k < l.length ∧ x.testBit (l.getD k 0) = true := by
  unfold trM trTo
  rw [maskL_bit, decide_eq_true_iff, List.mem_filter, List.mem_range]
theorem trM_lt (l : List Nat) (x : Nat) : trM l x < 2 ^ l.length := by
  unfold trM
  refine maskL_lt fun i hi => ?_
  unfold trTo at hi
  rw [List.mem_filter, List.mem_range] at hi
  exact hi.1
theorem ClM.way {L : List Rq} {x : Nat} (h : ClM L x) {a b : Nat} (hw : Way L a b) (hb : x.testBit b = true) : x.testBit a = true := by
  induction hw with
  | one hm => have := h _ hm (by simpa using hb); simpa using this
  | more hm _ ih => have := h _ hm (by simpa using ih hb); simpa using this
theorem PartR.ok {L P : List Rq} {l : List Nat} {n : Nat} (h : PartR L l P) (hok : Ok n L) (hl : SetOk n l) : Ok l.length P := by
  have hway : ∀ a b, Way P a b → a < l.length ∧ b < l.length ∧ Way L (l.getD a 0) (l.getD b 0) := by
    intro a b hw
    induction hw with
    | one hm =>
      obtain ⟨i, k, hi, hk, e, hw⟩ := (h.2.2 _).1 hm
      injection e with e1 e2
      obtain rfl : _ = i := Int.ofNat.inj e1
      obtain rfl : _ = k := Int.ofNat.inj e2
      exact ⟨hi, hk, hw⟩
    | more hm _ ih =>
      obtain ⟨i, k, hi, hk, e, hw⟩ := (h.2.2 _).1 hm
      injection e with e1 e2
      obtain rfl : _ = i := Int.ofNat.inj e1
      obtain rfl : _ = k := Int.ofNat.inj e2
      exact ⟨hi, ih.2.1, hw.trans ih.2.2⟩
  refine ⟨fun x hx => ?_, fun i hi hw => ?_⟩
  · obtain ⟨i, k, hi, hk, rfl, _⟩ := (h.2.2 x).1 hx
    simp only
    omega
  · obtain ⟨_, _, hw2⟩ := hway i i hw
    exact hok.acy _ (hl.low _ (SetOk.getD_mem hi)) hw2
theorem SetOk.inj {n : Nat} {l : List Nat} (h : SetOk n l) {i j : Nat} (hi : i < l.length) (hj : j < l.length) (e : l.getD i 0 = l.getD j 0) : i = j := by
  rcases Nat.lt_trichotomy i j with h1 | h1 | h1
  · have := h.lt h1 hj; omega
  · exact h1
  · have := h.lt h1 hi; omega
/-- The closed sets of a part are the traces of closed sets. -/
theorem traces {n : Nat} {L P : List Rq} {l : List Nat} (hok : Ok n L) (hl : SetOk n l) (hP : PartR L l P) {y : Nat} (hy : y < 2 ^ l.length) : ClM P y ↔ ∃ x, x < 2 ^ n ∧ ClM L x ∧ trM l x = y := by
  constructor
  · intro hc
    classical
    let D : Nat → Bool := fun a => decide (∃ k, k < l.length ∧ y.testBit k = true ∧ (a = l.getD k 0 ∨ Way L a (l.getD k 0)))
    have hbit : ∀ a, (maskL ((List.range n).filter D)).testBit a = true ↔ a < n ∧ ∃ k, k < l.length ∧ y.testBit k = true ∧ (a = l.getD k 0 ∨ Way L a (l.getD k 0)) := fun a => by
      rw [maskL_bit, decide_eq_true_iff, List.mem_filter, List.mem_range]
      show a < n ∧ decide _ = true ↔ _
      rw [decide_eq_true_iff]
    refine ⟨maskL ((List.range n).filter D), ?_, ?_, ?_⟩
    · exact maskL_lt fun i hi => List.mem_range.1 (List.mem_filter.1 hi).1
    · intro r hr h2
      obtain ⟨_, k, hk, hyk, hor⟩ := (hbit _).1 h2
      obtain ⟨h1, h1', h3, h4⟩ := hok.inn r hr
      have hw := way_of_mem hok.inn hr
      refine (hbit _).2 ⟨by omega, k, hk, hyk, .inr ?_⟩
      rcases hor with e | hw2
      · rw [← e]; exact hw
      · exact hw.trans hw2
    · apply Nat.eq_of_testBit_eq
      intro k'
      rw [Bool.eq_iff_iff, trM_bit]
      constructor
      · rintro ⟨hk', h2⟩
        obtain ⟨_, k, hk, hyk, hor⟩ := (hbit _).1 h2
        rcases hor with e | hw
        · rw [hl.inj hk' hk e]; exact hyk
        · have hm : ((k' : Int), (k : Int)) ∈ P := (hP.2.2 _).2 ⟨k', k, hk', hk, rfl, hw⟩
          have := hc _ hm (by simpa using hyk)
          simpa using this
      · intro hyk
        have hk' : k' < l.length := by
          rcases Nat.lt_or_ge k' l.length with h1 | h1
          · exact h1
          · rw [bit_of_lt hy h1] at hyk; cases hyk
        exact ⟨hk', (hbit _).2 ⟨hl.low _ (SetOk.getD_mem hk'), k', hk', hyk, .inl rfl⟩⟩
  · rintro ⟨x, hx, hc, rfl⟩
    intro r hr h2
    obtain ⟨i, k, hi, hk, rfl, hw⟩ := (hP.2.2 r).1 hr
    simp only [Int.toNat_natCast] at h2 ⊢
    rw [trM_bit] at h2 ⊢
    exact ⟨hi, hc.way hw h2.2⟩
/-- The traces of some sets, each once. -/
def trsOf (l : List Nat) (A : List Nat) : List Nat := A.foldl (fun N x => stepN N (trM l x)) []
theorem trsOf_snoc (l A : List Nat) (x : Nat) : trsOf l (A ++ [x]) = stepN (trsOf l A) (trM l x) := by unfold trsOf; rw [List.foldl_append]; rfl
theorem trsOf_spec (l : List Nat) (A : List Nat) : (trsOf l A).Nodup ∧ ∀ y, y ∈ trsOf l A ↔ ∃ x ∈ A, y = trM l x := by
  suffices h : ∀ (A N : List Nat), N.Nodup → (A.foldl (fun N x => stepN N (trM l x)) N).Nodup ∧ ∀ y, y ∈ A.foldl (fun N x => stepN N (trM l x)) N ↔ y ∈ N ∨ ∃ x ∈ A, y = trM l x by
    have := h A [] List.nodup_nil
    exact ⟨this.1, fun y => by rw [show trsOf l A = A.foldl (fun N x => stepN N (trM l x)) [] from rfl, this.2]; simp⟩
  intro A
  induction A with
  | nil => intro N hN; exact ⟨hN, fun y => by simp⟩
  | cons a A ih =>
    intro N hN
    have h1 := stepN_spec hN (trM l a)
    have h2 := ih _ h1.1
    rw [List.foldl_cons]
    refine ⟨h2.1, fun y => ?_⟩
    rw [h2.2, h1.2]
    constructor
    · rintro ((h | h) | ⟨x, hx, h⟩)
      · exact .inl h
      · exact .inr ⟨a, by simp, h⟩
      · exact .inr ⟨x, by simp [hx], h⟩
    · rintro (h | ⟨x, hx, h⟩)
      · exact .inl (.inl h)
      · rcases List.mem_cons.1 hx with rfl | hx
        · exact .inl (.inr h)
        · exact .inr ⟨x, hx, h⟩

set_option maxRecDepth 100000 in
set_option maxHeartbeats 1000000 in
theorem behind_0 (a : Option Addr) (c : Nat) (w : World) : Calls Tryd.prog 35 #[.int .i64 0, .slice a 0 c] w fun e w' => e = .returned (.slice (some ⟨w.heap.size, 0, none⟩) 0 0) ∧ Below w.heap.size w w' := by
  have hmk : (Instr.makeSlice 68 (.int .i64 0) (.int .i64 0)).run Tryd.prog w = .ok (.slice (some ⟨w.heap.size, 0, none⟩) 0 0) (w.alloc (.cells (rowU 0 fun _ => 0) 56)) := make_bits 0 (by decide) w
  have hb0 := (Below.refl w.heap.size w).alloc (Nat.le_refl _) (.cells (rowU 0 fun _ => 0) 56)
  have HB0 := Lib.hid hb0
  clear hb0
  go_enter Tryd.func35, Tryd.ntmps35
  go_wp2_with fail
  generalize w.alloc (.cells (rowU 0 fun _ => 0) 56) = W0 at *
  refine wp_loop_rounds 1 ?_
  rw [rounds_succ]
  go_wp2_with fail
  refine wp_loop_rounds 1 ?_
  rw [rounds_succ]
  go_wp2_with fail
  go_ret
  exact ⟨rfl, HB0.out⟩
set_option maxRecDepth 100000 in
set_option maxHeartbeats 1000000 in
theorem check_0 (a : Option Addr) (c : Nat) (w : World) : Calls Tryd.prog 23 #[.int .i64 0, .slice a 0 c] w fun e w' => e = .returned (.int .i64 0) ∧ Below w.heap.size w w' := by
  have C : Calls Tryd.prog 39 #[.int .i64 0, .slice a 0 c] w fun e w' => e = .returned (.int .i64 0) ∧ Below w.heap.size w w' := by
    have CB := Lib.hid (behind_0 a c w)
    go_enter Tryd.func39, Tryd.ntmps39
    go_wp2_with fail
    refine wp_loop_rounds 1 ?_
    rw [rounds_succ]
    go_wp2_with fail
    refine wp_loop_rounds 1 ?_
    rw [rounds_succ]
    go_wp2_with fail
    refine (CB.out).mono ?_
    rintro e w1 ⟨rfl, hb⟩
    have HB := Lib.hid hb
    clear hb CB
    go_wp2_with fail
    refine wp_loop_rounds 1 ?_
    rw [rounds_succ]
    go_wp2_with fail
    go_ret
    exact ⟨rfl, HB.out⟩
  have C := Lib.hid C
  go_enter Tryd.func23, Tryd.ntmps23
  go_wp2_with (go_at_call 39; refine (C.out).mono ?_; rintro e w' ⟨rfl, hb⟩)
  go_ret
  exact ⟨rfl, hb⟩
theorem ReqV.part' {W : World} {n : Nat} {L P : List Rq} {l : List Nat} {a : Option Addr} {c : Nat} (h : PartR L l P) (hok : Ok n L) (hl : SetOk n l) (hn : n ≤ 24) (hc : P.length ≤ c) (hP : ReqsAt W a P) : ReqV W l.length (.slice a P.length c) P := by
  have hlen := hl.length
  have hsq : P.length ≤ 900 := by
    have h1 := h.2.1
    have : l.length * l.length ≤ 24 * 24 := Nat.mul_le_mul (by omega) (by omega)
    omega
  rcases Nat.eq_zero_or_pos l.length with h0 | h0
  · have hP0 : P.length = 0 := by have := h.2.1; rw [h0] at this; omega
    refine ⟨⟨a, c, rfl, hc, hP⟩, h.ok hok hl, h.1, hsq, by omega, fun W' _ => ?_⟩
    rw [h0, hP0]
    exact check_0 a c W'
  · exact ReqV.mk' h0 (by omega) (h.ok hok hl) h.1 hsq hc hP
end Go.Proofs.YtgeldpkopolnfaaDoor
