/- bytes.Clone and slices.Clone of elements. -/
import Derived.Test.YtppodhbfjnekcaaAs
namespace Go.Proofs.Ytppodhbfjnekcaa
open Go.RowKit

/-- A slice value that reads as bytes, none of which lie in a block. -/
def BtsN (G : Nat) (w : World) (v : Value) (l : List UInt8) : Prop :=
  ∃ (p : Option Addr) (c : Nat), v = .slice p l.length c ∧ l.length ≤ 9223372036854775807 ∧
    (l = [] ∨ ∃ b o, b ≠ G ∧ p = some ⟨b, o, none⟩ ∧ ∀ j, j < l.length → w.cell? ⟨b, o + j, none⟩ = some (.int .u8 (l.getD j 0).toNat))

theorem BtsN.bts {G : Nat} {w : World} {v : Value} {l : List UInt8} (h : BtsN G w v l) : Bts w v l := by
  obtain ⟨p, c, hv, hl, h⟩ := h
  refine ⟨p, c, hv, hl, ?_⟩
  rcases h with h | ⟨b, o, _, hp, h⟩
  · exact .inl h
  · exact .inr ⟨b, o, hp, h⟩

theorem BtsN.mono {G : Nat} {w w' : World} {v : Value} {l : List UInt8} (h : BtsN G w v l) (hb : Below w.heap.size w w') : BtsN G w' v l := by
  obtain ⟨p, c, hv, hl, h⟩ := h
  refine ⟨p, c, hv, hl, ?_⟩
  rcases h with h | ⟨b, o, hne, hp, h⟩
  · exact .inl h
  · exact .inr ⟨b, o, hne, hp, fun j hj => cell_later hb (h j hj)⟩

theorem BtsN.set {G j : Nat} {u : Value} {w : World} {v : Value} {l : List UInt8} (h : BtsN G w v l) : BtsN G (w.setCell ⟨G, j, none⟩ u) v l := by
  obtain ⟨p, c, hv, hl, h⟩ := h
  refine ⟨p, c, hv, hl, ?_⟩
  rcases h with h | ⟨b, o, hne, hp, h⟩
  · exact .inl h
  · refine .inr ⟨b, o, hne, hp, fun j hj => ?_⟩
    rw [World.cell?_setCell_other _ _ _ _ (fun e => hne (by have := congrArg Addr.block e; simp at this; exact this.symm))]
    exact h j hj

theorem own_btsN {w : World} {base g n cap : Nat} {e : TypeId} {l : List UInt8} {G : Nat} (hG : g ≠ G) (h : w.ownsRow base e 1 (.slice (some ⟨g, 0, none⟩) n cap) n (u8s l)) (hn : 0 < n) : BtsN G w (.slice (some ⟨g, 0, none⟩) n cap) l := by
  have hl : l.length = n := by have := h.1; rw [u8s_length] at this; omega
  obtain ⟨_, _, _, _, _, hm⟩ := own_form h hn
  subst hl
  refine ⟨_, cap, rfl, hm, .inr ⟨g, 0, hG, rfl, fun j hj => ?_⟩⟩
  rw [Nat.zero_add, h.cellAt j (by omega), u8s_get l j hj]

/-- The bytes of a slice, ready to be appended. -/
theorem Bts.cells {w : World} {b o c : Nat} {n : Nat} {l : List UInt8} (h : ∀ j, j < n → w.cell? ⟨b, o + j, none⟩ = some (.int .u8 (l.getD j 0).toNat)) (hl : l.length = n) : ∀ j u, (u8s l)[j]? = some u → w.cell? ((⟨b, o, none⟩ : Addr).add j) = some u := by
  intro j u hu
  have hj : j < l.length := by
    rcases Nat.lt_or_ge j l.length with h | h
    · exact h
    · rw [List.getElem?_eq_none (by rw [u8s_length]; exact h)] at hu; cases hu
  rw [u8s_get l j hj] at hu
  cases hu
  have hadd : (⟨b, o, none⟩ : Addr).add j = ⟨b, o + j, none⟩ := by unfold Addr.add; split <;> simp_all
  rw [hadd]
  exact h j (by omega)

theorem u8s_one (l : List UInt8) : ∀ u ∈ u8s l, u.oneCell' = true := by
  intro u hu; simp [u8s] at hu; obtain ⟨b, _, rfl⟩ := hu; rfl

def ClonePost (G : Nat) (w : World) (l : List UInt8) (e : Ending) (w' : World) : Prop := ∃ v, e = .returned v ∧ BtsN G w' v l ∧ Below w.heap.size w w'

set_option maxHeartbeats 1000000 in
theorem clone_some (G : Nat) (b o n c : Nat) (l : List UInt8) (w : World) (hG : G < w.heap.size) (hl : l.length = n) (hn : 0 < n) (hm : n ≤ 140737488351232) (hc : ∀ j, j < n → w.cell? ⟨b, o + j, none⟩ = some (.int .u8 (l.getD j 0).toNat)) :
    Calls Try.prog 70 #[.slice (some ⟨b, o, none⟩) n c] w (ClonePost G w l) := by
  obtain ⟨i0, hi, hz0, hz1, hz2⟩ := info_parts info5
  have hnew := World.ownsRow_lit (base := w.heap.size) (e := 5) (size := 1) w #[] 0 (by omega) (by unfold maxLen; omega) rfl
  have hb0 := (Below.refl w.heap.size w).alloc (Nat.le_refl _) (.cells #[] 5)
  have hsrc := Bts.cells (c := c) (fun j hj => cell_later hb0 (hc j hj)) hl
  have HSRC := Lib.hid hsrc; clear hsrc
  have hlen : (u8s l).length = n * 1 := by rw [u8s_length]; omega
  have HLEN := Lib.hid hlen; clear hlen
  clear hc hl
  have hn63 : n ≤ 9223372036854775807 := by omega
  have HM := Lib.hid hm; clear hm
  have q27 : ∀ (w : World) (a : Option Addr) (n c n' c' : Nat), (binOp .eql 27 (.slice a n c) (.slice none n' c')).run Try.prog w = .ok (.bool a.isNone) w := fun w a n c n' c' => Lib.run_eql_slice_nil w _ _ a n c n' c' Try.underlying27
  go_enter Try.func70, Try.ntmps70
  go_wp2_with (at_builtin; refine wpList_append_own _ rfl _ _ 27 rfl w.heap.size 5 i0 (.int .u8 0) 1 1 Try.underlying27 hi hz0 hz1 hz2 rfl (by decide) _ _ _ rfl hnew ⟨b, o, none⟩ n c (u8s l) rfl HLEN.out HSRC.out (u8s_one l) (by unfold maxLen; omega) (by have := HM.out; omega) (by simp) ?_; intro v' w1 hown' hgrow _)
  have hg2 : (w.alloc (.cells #[] 5)).grownBy w1 (some w.heap.size) := hgrow
  go_ret
  obtain ⟨g, cap, rfl, hgb, hgs, hmx⟩ := own_form hown' (by omega)
  simp only [Nat.zero_add, Array.toList_empty, List.nil_append] at hown'
  refine ⟨_, rfl, ?_, hb0.grown hg2 (by simp) (by intro k hk; cases hk; omega)⟩
  rw [Nat.zero_add]
  exact own_btsN (by omega) hown' hn

set_option maxHeartbeats 1000000 in
theorem clone_zero (G : Nat) (a : Addr) (c : Nat) (w : World) : Calls Try.prog 70 #[.slice (some a) 0 c] w (ClonePost G w []) := by
  obtain ⟨i0, hi, hz0, hz1, hz2⟩ := info_parts info5
  have hnew := World.ownsRow_lit (base := w.heap.size) (e := 5) (size := 1) w #[] 0 (by omega) (by unfold maxLen; omega) rfl
  have hb0 := (Below.refl w.heap.size w).alloc (Nat.le_refl _) (.cells #[] 5)
  have q27 : ∀ (w : World) (a : Option Addr) (n c n' c' : Nat), (binOp .eql 27 (.slice a n c) (.slice none n' c')).run Try.prog w = .ok (.bool a.isNone) w := fun w a n c n' c' => Lib.run_eql_slice_nil w _ _ a n c n' c' Try.underlying27
  go_enter Try.func70, Try.ntmps70
  go_wp2_with (at_builtin; refine wpList_append_own _ rfl _ _ 27 rfl w.heap.size 5 i0 (.int .u8 0) 1 1 Try.underlying27 hi hz0 hz1 hz2 rfl (by decide) _ _ _ rfl hnew a 0 c [] rfl rfl (by intro j u hu; simp at hu) (by intro u hu; cases hu) (by unfold maxLen; omega) (by omega) (by simp) ?_; intro v' w1 hown' hgrow _)
  have hg2 : (w.alloc (.cells #[] 5)).grownBy w1 (some w.heap.size) := hgrow
  go_ret
  refine ⟨_, rfl, ?_, hb0.grown hg2 (by simp) (by intro k hk; cases hk; omega)⟩
  rcases hown'.2 with ⟨h, _⟩ | ⟨g, cap, cur, h, _⟩
  · exact ⟨none, 0, h, by simp, .inl rfl⟩
  · exact ⟨_, cap, h, by simp, .inl rfl⟩

set_option maxHeartbeats 1000000 in
theorem clone_nil (G : Nat) (c : Nat) (w : World) : Calls Try.prog 70 #[.slice none 0 c] w (ClonePost G w []) := by
  have q27 : ∀ (w : World) (a : Option Addr) (n c n' c' : Nat), (binOp .eql 27 (.slice a n c) (.slice none n' c')).run Try.prog w = .ok (.bool a.isNone) w := fun w a n c n' c' => Lib.run_eql_slice_nil w _ _ a n c n' c' Try.underlying27
  go_enter Try.func70, Try.ntmps70
  go_wp2
  go_ret
  exact ⟨_, rfl, ⟨none, 0, rfl, by simp, .inl rfl⟩, Below.refl _ _⟩

theorem clone_any (G : Nat) {v : Value} {l : List UInt8} (w : World) (hG : G < w.heap.size) (h : Bts w v l) (hm : l.length ≤ 140737488351232) : Calls Try.prog 70 #[v] w (ClonePost G w l) := by
  obtain ⟨p, c, rfl, _, h⟩ := h
  by_cases he : l = []
  · subst he
    cases p with
    | none => exact clone_nil G c w
    | some a => exact clone_zero G a c w
  · rcases h with h | ⟨b, o, rfl, h⟩
    · exact absurd h he
    · exact clone_some G b o l.length c l w hG rfl (List.length_pos_iff.2 he) hm h

/-! ### elements -/

def elCells (x : Leaf) : List Value := [.int .i64 x.t, .slice x.sp x.ll x.cl, .bool x.nb, .slice x.ep 0 x.ec]
def rowCells : List Leaf → List Value
  | [] => []
  | x :: l => elCells x ++ rowCells l

theorem rowCells_length (ls : List Leaf) : (rowCells ls).length = ls.length * 4 := by
  induction ls with
  | nil => rfl
  | cons x l ih => simp only [rowCells, List.length_append, List.length_cons, ih]; simp [elCells]; omega

theorem rowCells_get (ls : List Leaf) (i r : Nat) (hi : i < ls.length) (hr : r < 4) : (rowCells ls)[i * 4 + r]? = (elCells (ls.getD i default))[r]? := by
  induction ls generalizing i with
  | nil => simp at hi
  | cons x l ih =>
    have hlen : (elCells x).length = 4 := rfl
    cases i with
    | zero =>
      simp only [rowCells, Nat.zero_mul, Nat.zero_add]
      rw [List.getElem?_append_left (by omega)]
      rfl
    | succ i =>
      simp only [rowCells]
      rw [List.getElem?_append_right (by omega), hlen, show (i + 1) * 4 + r - 4 = i * 4 + r by omega, ih i (by simp at hi; omega)]
      rfl

theorem rowCells_one (ls : List Leaf) : ∀ u ∈ rowCells ls, u.oneCell' = true := by
  induction ls with
  | nil => intro u hu; cases hu
  | cons x l ih =>
    intro u hu
    simp only [rowCells, List.mem_append] at hu
    rcases hu with hu | hu
    · simp [elCells] at hu
      rcases hu with rfl | rfl | rfl | rfl <;> rfl
    · exact ih u hu

theorem Leaves.cells {w : World} {b o : Nat} {ls : List Leaf} (h : Leaves w b o ls) : ∀ j u, (rowCells ls)[j]? = some u → w.cell? ((⟨b, o, none⟩ : Addr).add j) = some u := by
  intro j u hu
  have hj : j < ls.length * 4 := by
    rcases Nat.lt_or_ge j (ls.length * 4) with h | h
    · exact h
    · rw [List.getElem?_eq_none (by rw [rowCells_length]; exact h)] at hu; cases hu
  obtain ⟨i, r, hr, rfl⟩ : ∃ i r, r < 4 ∧ j = i * 4 + r := ⟨j / 4, j % 4, Nat.mod_lt _ (by omega), by omega⟩
  rw [rowCells_get ls i r (by omega) hr] at hu
  have hadd : (⟨b, o, none⟩ : Addr).add (i * 4 + r) = ⟨b, o + i * 4 + r, none⟩ := by unfold Addr.add; split <;> simp_all; omega
  rw [hadd]
  obtain ⟨c0, c1, c2, c3⟩ := h i (by omega)
  match r, hr, hu with
  | 0, _, hu => simp [elCells] at hu; rw [← hu]; exact c0
  | 1, _, hu => simp [elCells] at hu; rw [← hu]; exact c1
  | 2, _, hu => simp [elCells] at hu; rw [← hu]; exact c2
  | 3, _, hu => simp [elCells] at hu; rw [← hu]; exact c3

/-- An owned row of elements reads as they are. -/
theorem own_leaves {w : World} {base g n cap : Nat} {ls : List Leaf} (h : w.ownsRow base 30 4 (.slice (some ⟨g, 0, none⟩) n cap) n (rowCells ls)) : Leaves w g 0 ls := by
  have hl : ls.length = n := by have := h.1; rw [rowCells_length] at this; omega
  intro i hi
  have hc := fun r (hr : r < 4) => (h.cellAt (i * 4 + r) (by omega)).trans (rowCells_get ls i r hi hr)
  have a0 := hc 0 (by omega)
  have a1 := hc 1 (by omega)
  have a2 := hc 2 (by omega)
  have a3 := hc 3 (by omega)
  rw [Nat.zero_add]
  exact ⟨a0, a1, a2, a3⟩

theorem own_plain {w : World} {base g n cap size : Nat} {e : TypeId} {xs : List Value} (h : w.ownsRow base e size (.slice (some ⟨g, 0, none⟩) n cap) n xs) : Plain w g := by
  rcases h.2 with ⟨h, _⟩ | ⟨g', cap', cur, h, _, hh, _⟩
  · cases h
  · cases h; exact ⟨cur, e, hh⟩

theorem info30 : (Try.prog.info? 30).map (fun i => (i.zero, i.size, i.bytes)) = some (some (.agg #[.int .i64 0, .slice none 0 0, .bool false, .slice none 0 0]), 4, 64) := by kernel_rfl

def CloneElsPost (w : World) (n : Nat) (ls : List Leaf) (e : Ending) (w' : World) : Prop := ∃ g cap, e = .returned (.slice (some ⟨g, 0, none⟩) n cap) ∧ w'.ownsRow w.heap.size 30 4 (.slice (some ⟨g, 0, none⟩) n cap) n (rowCells ls) ∧ Below w.heap.size w w'

set_option maxHeartbeats 1000000 in
theorem cloneEls_some (b o n c : Nat) (ls : List Leaf) (w : World) (hl : ls.length = n) (hn : 0 < n) (hm : n ≤ 1099511627776) (h : Leaves w b o ls) :
    Calls Try.prog 69 #[.slice (some ⟨b, o, none⟩) n c] w (CloneElsPost w n ls) := by
  obtain ⟨i0, hi, hz0, hz1, hz2⟩ := info_parts info30
  have hnew := World.ownsRow_lit (base := w.heap.size) (e := 30) (size := 4) w #[] 0 (by omega) (by unfold maxLen; omega) rfl
  have hb0 := (Below.refl w.heap.size w).alloc (Nat.le_refl _) (.cells #[] 30)
  have HSRC := Lib.hid (h.mono hb0).cells
  have hlen : (rowCells ls).length = n * 4 := by rw [rowCells_length]; omega
  have HLEN := Lib.hid hlen; clear hlen
  clear h hl
  have hn63 : n ≤ 9223372036854775807 := by omega
  have HM := Lib.hid hm; clear hm
  have q28 : ∀ (w : World) (a : Option Addr) (n c n' c' : Nat), (binOp .eql 28 (.slice a n c) (.slice none n' c')).run Try.prog w = .ok (.bool a.isNone) w := fun w a n c n' c' => Lib.run_eql_slice_nil w _ _ a n c n' c' Try.underlying28
  go_enter Try.func69, Try.ntmps69
  go_wp2_with (at_builtin; refine wpList_append_own _ rfl _ _ 28 rfl w.heap.size 30 i0 (.agg #[.int .i64 0, .slice none 0 0, .bool false, .slice none 0 0]) 4 64 Try.underlying28 hi hz0 hz1 hz2 rfl (by decide) _ _ _ rfl hnew ⟨b, o, none⟩ n c (rowCells ls) rfl HLEN.out HSRC.out (rowCells_one ls) (by unfold maxLen; omega) (by have := HM.out; omega) (by simp) ?_; intro v' w1 hown' hgrow _)
  have hg2 : (w.alloc (.cells #[] 30)).grownBy w1 (some w.heap.size) := hgrow
  go_ret
  obtain ⟨g, cap, rfl, hgb, hgs, hmx⟩ := own_form hown' (by omega)
  simp only [Nat.zero_add, Array.toList_empty, List.nil_append] at hown'
  exact ⟨g, cap, by rw [Nat.zero_add]; rfl, hown', hb0.grown hg2 (by simp) (by intro k hk; cases hk; omega)⟩

def CloneEmptyPost (w : World) (e : Ending) (w' : World) : Prop := ∃ p c, e = .returned (.slice p 0 c) ∧ Below w.heap.size w w'

set_option maxHeartbeats 1000000 in
theorem cloneEls_empty (p : Option Addr) (c : Nat) (w : World) : Calls Try.prog 69 #[.slice p 0 c] w (CloneEmptyPost w) := by
  obtain ⟨i0, hi, hz0, hz1, hz2⟩ := info_parts info30
  have hnew := World.ownsRow_lit (base := w.heap.size) (e := 30) (size := 4) w #[] 0 (by omega) (by unfold maxLen; omega) rfl
  have hb0 := (Below.refl w.heap.size w).alloc (Nat.le_refl _) (.cells #[] 30)
  have q28 : ∀ (w : World) (a : Option Addr) (n c n' c' : Nat), (binOp .eql 28 (.slice a n c) (.slice none n' c')).run Try.prog w = .ok (.bool a.isNone) w := fun w a n c n' c' => Lib.run_eql_slice_nil w _ _ a n c n' c' Try.underlying28
  cases p with
  | none =>
    go_enter Try.func69, Try.ntmps69
    go_wp2
    go_ret
    exact ⟨_, _, rfl, Below.refl _ _⟩
  | some a =>
    go_enter Try.func69, Try.ntmps69
    go_wp2_with (at_builtin; refine wpList_append_own _ rfl _ _ 28 rfl w.heap.size 30 i0 (.agg #[.int .i64 0, .slice none 0 0, .bool false, .slice none 0 0]) 4 64 Try.underlying28 hi hz0 hz1 hz2 rfl (by decide) _ _ _ rfl hnew a 0 c [] rfl rfl (by intro j u hu; simp at hu) (by intro u hu; cases hu) (by unfold maxLen; omega) (by omega) (by simp) ?_; intro v' w1 hown' hgrow _)
    have hg2 : (w.alloc (.cells #[] 30)).grownBy w1 (some w.heap.size) := hgrow
    go_ret
    rcases hown'.2 with ⟨rfl, _⟩ | ⟨g, cap, cur, rfl, _⟩
    · exact ⟨_, _, rfl, hb0.grown hg2 (by simp) (by intro k hk; cases hk; omega)⟩
    · exact ⟨_, _, rfl, hb0.grown hg2 (by simp) (by intro k hk; cases hk; omega)⟩
end Go.Proofs.Ytppodhbfjnekcaa
