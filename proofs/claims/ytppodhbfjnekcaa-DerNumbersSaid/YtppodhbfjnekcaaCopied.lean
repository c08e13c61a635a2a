/- der.copied of elements without elements. -/
import Derived.Test.YtppodhbfjnekcaaClone
namespace Go.Proofs.Ytppodhbfjnekcaa
open Go.RowKit

def Leaf.bv (x : Leaf) : Value := .slice x.sp x.ll x.cl

theorem rowCells_set1 (ls : List Leaf) (i : Nat) (hi : i < ls.length) (sp : Option Addr) (ll cl : Nat) : (rowCells ls).set (i * 4 + 1) (.slice sp ll cl) = rowCells (ls.set i { ls.getD i default with sp := sp, ll := ll, cl := cl }) := by
  induction ls generalizing i with
  | nil => simp at hi
  | cons x l ih =>
    cases i with
    | zero => rfl
    | succ i =>
      have := ih i (by simp at hi; omega)
      simp only [rowCells, List.set_cons_succ, List.getD_cons_succ]
      rw [← this, List.set_append_right _ _ (by simp [elCells]; omega)]
      congr 2
      simp [elCells]; omega

theorem rowCells_set3 (ls : List Leaf) (i : Nat) (hi : i < ls.length) (ep : Option Addr) (ec : Nat) : (rowCells ls).set (i * 4 + 3) (.slice ep 0 ec) = rowCells (ls.set i { ls.getD i default with ep := ep, ec := ec }) := by
  induction ls generalizing i with
  | nil => simp at hi
  | cons x l ih =>
    cases i with
    | zero => rfl
    | succ i =>
      have := ih i (by simp at hi; omega)
      simp only [rowCells, List.set_cons_succ, List.getD_cons_succ]
      rw [← this, List.set_append_right _ _ (by simp [elCells]; omega)]
      congr 2
      simp [elCells]; omega

/-- What is read of the elements: the tags, and the bytes, none of which lie in the block G. -/
structure ReadsAs (G : Nat) (w : World) (ls : List Leaf) (xs : List (Int × Bool × List UInt8)) : Prop where
  len : ls.length = xs.length
  tag : ∀ i, i < ls.length → (ls.getD i default).t = (xs.getD i default).1
  nb : ∀ i, i < ls.length → (ls.getD i default).nb = (xs.getD i default).2.1
  bytes : ∀ i, i < ls.length → BtsN G w (ls.getD i default).bv (xs.getD i default).2.2

theorem getD_setL (l : List Leaf) (i : Nat) (x : Leaf) (hi : i < l.length) (t : Nat) : (l.set i x).getD t default = if t = i then x else l.getD t default := by
  simp only [List.getD, List.getElem?_set]
  by_cases h : i = t
  · subst h; simp [hi]
  · rw [if_neg h, if_neg (Ne.symm h)]

theorem ReadsAs.mono {G : Nat} {w w' : World} {ls : List Leaf} {xs : List (Int × Bool × List UInt8)} (h : ReadsAs G w ls xs) (hb : Below w.heap.size w w') : ReadsAs G w' ls xs :=
  ⟨h.len, h.tag, h.nb, fun i hi => (h.bytes i hi).mono hb⟩

theorem ReadsAs.setCell {G j : Nat} {u : Value} {w : World} {ls : List Leaf} {xs : List (Int × Bool × List UInt8)} (h : ReadsAs G w ls xs) : ReadsAs G (w.setCell ⟨G, j, none⟩ u) ls xs :=
  ⟨h.len, h.tag, h.nb, fun i hi => (h.bytes i hi).set⟩

theorem ReadsAs.set1 {G : Nat} {w : World} {ls : List Leaf} {xs : List (Int × Bool × List UInt8)} (h : ReadsAs G w ls xs) (i : Nat) (hi : i < ls.length) {sp : Option Addr} {ll cl : Nat} (hv : BtsN G w (.slice sp ll cl) (xs.getD i default).2.2) :
    ReadsAs G w (ls.set i { ls.getD i default with sp := sp, ll := ll, cl := cl }) xs := by
  refine ⟨by simp [h.len], fun t ht => ?_, fun t ht => ?_, fun t ht => ?_⟩
  all_goals
    rw [List.length_set] at ht
    rw [getD_setL _ _ _ hi]
    by_cases he : t = i
    · subst he
      first | (simp only [if_true]; exact h.tag _ ht) | (simp only [if_true]; exact h.nb _ ht) | (simp only [if_true]; exact hv)
    · first | (simp only [he, if_false]; exact h.tag _ ht) | (simp only [he, if_false]; exact h.nb _ ht) | (simp only [he, if_false]; exact h.bytes _ ht)

theorem ReadsAs.set3 {G : Nat} {w : World} {ls : List Leaf} {xs : List (Int × Bool × List UInt8)} (h : ReadsAs G w ls xs) (i : Nat) (hi : i < ls.length) {ep : Option Addr} {ec : Nat} :
    ReadsAs G w (ls.set i { ls.getD i default with ep := ep, ec := ec }) xs := by
  refine ⟨by simp [h.len], fun t ht => ?_, fun t ht => ?_, fun t ht => ?_⟩
  all_goals
    rw [List.length_set] at ht
    rw [getD_setL _ _ _ hi]
    by_cases he : t = i
    · subst he
      first | (simp only [if_true]; exact h.tag _ ht) | (simp only [if_true]; exact h.nb _ ht) | (simp only [if_true]; exact h.bytes _ ht)
    · first | (simp only [he, if_false]; exact h.tag _ ht) | (simp only [he, if_false]; exact h.nb _ ht) | (simp only [he, if_false]; exact h.bytes _ ht)

theorem own_below {w w' : World} {base : Nat} {e : TypeId} {size : Nat} {v : Value} {n : Nat} {xs : List Value} (h : w.ownsRow base e size v n xs) (hb : Below w.heap.size w w') : w'.ownsRow base e size v n xs := by
  refine ⟨h.1, ?_⟩
  rcases h.2 with hn | ⟨g, cap, cur, hv, hbg, hh, rest⟩
  · exact .inl hn
  · exact .inr ⟨g, cap, cur, hv, hbg, (hb.block g (Array.getElem?_eq_some_iff.1 hh).1).trans hh, rest⟩

def CopiedPost (w : World) (n : Nat) (xs : List (Int × Bool × List UInt8)) (e : Ending) (w' : World) : Prop :=
  ∃ g cap ls, e = .returned (.slice (some ⟨g, 0, none⟩) n cap) ∧ w.heap.size ≤ g ∧ w'.ownsRow w.heap.size 30 4 (.slice (some ⟨g, 0, none⟩) n cap) n (rowCells ls) ∧ ReadsAs g w' ls xs ∧ Below w.heap.size w w'

set_option maxRecDepth 100000 in
set_option maxHeartbeats 2000000 in
theorem copied_leaves (b o n c : Nat) (ls : List Leaf) (xs : List (Int × Bool × List UInt8)) (w : World) (hl : ls.length = n) (hn : 0 < n) (hm : n ≤ 1099511627776) (h : Leaves w b o ls) (hr : ∀ G, w.heap.size ≤ G → ReadsAs G w ls xs) (hbytes : ∀ i, i < n → (xs.getD i default).2.2.length ≤ 140737488351232) :
    Calls Try.prog 57 #[.slice (some ⟨b, o, none⟩) n c] w (CopiedPost w n xs) := by
  have hcl := cloneEls_some b o n c ls w hl hn hm h
  have HR := Lib.hid hr; clear hr
  have HBY := Lib.hid hbytes; clear hbytes
  have hn63 : n ≤ 9223372036854775807 := by omega
  have HM := Lib.hid hm; clear hm
  have HL := Lib.hid hl; clear hl
  clear h
  go_enter Try.func57, Try.ntmps57
  go_wp2_with fail
  refine hcl.mono ?_
  rintro e w1 ⟨g, cap, rfl, hown, hb1⟩
  obtain ⟨_, _, hv, hgb, hgs, _⟩ := own_form hown hn
  cases hv
  have hread : ReadsAs g w1 ls xs := (HR.out g hgb).mono hb1
  go_wp2_with fail
  refine wp_loop_rounds 2 ?_; rw [rounds_succ]
  go_wp2_with fail
  go_loopw [3, 27] (fun tv i wr => ∃ (k : Nat) (ls' : List Leaf), k ≤ n ∧ i = .int .i64 k ∧ tv = .slice (some ⟨w1.heap.size, 0, none⟩) 0 1 ∧ wr.ownsRow w.heap.size 30 4 (.slice (some ⟨g, 0, none⟩) n cap) n (rowCells ls') ∧ ReadsAs g wr ls' xs ∧ Below w.heap.size w wr) (fun _ i _ => n - (intOf i).toNat)
  case atStart =>
    have hb2 : Below w1.heap.size w1 (w1.alloc (.cells #[.slice (some ⟨g, 0, none⟩) n cap] 28)) := (Below.refl _ _).alloc (Nat.le_refl _) _
    exact ⟨0, ls, by omega, rfl, rfl, own_below hown hb2, hread.mono hb2, below_step hb1 hb2⟩
  case round =>
    clear hown hread
    obtain ⟨k, ls', hk, rfl, rfl, hown, hread, hbr⟩ := hrel
    by_cases hlt : k < n
    · have hlen' : ls'.length = n := by have := hown.1; rw [rowCells_length] at this; omega
      have he := own_leaves hown k (by omega)
      have hbv := hread.bytes k (by omega)
      have hxs := HBY.out k hlt
      obtain ⟨x, hx⟩ : ∃ x, x = ls'.getD k default := ⟨_, rfl⟩
      rw [← hx] at he hbv
      have HX := Lib.hid hx; clear hx
      obtain ⟨y, hy⟩ : ∃ y, y = (xs.getD k default).2.2 := ⟨_, rfl⟩
      rw [← hy] at hbv hxs
      have HY := Lib.hid hy; clear hy
      have HLEN := Lib.hid hlen'; clear hlen'
      have hgs2 := (own_plain hown).lt
      rw [Nat.zero_add] at he
      obtain ⟨e0, e1, e2, e3⟩ := he
      have hcb := clone_any g wr hgs2 hbv.bts hxs
      unfold Leaf.bv at hcb
      clear hxs
      go_wp2_with fail
      refine hcb.mono ?_
      rintro e w4 ⟨v4, rfl, hv4, hb4⟩
      have hown4 := own_below hown hb4
      have hread4 := hread.mono hb4
      obtain ⟨p4, c4, rfl, _, _⟩ := id hv4
      have f1 := hown4.frozenAt (k * 4 + 1)
      have c41 := cell_later hb4 e1
      have c43 := cell_later hb4 e3
      go_wp2_with fail
      have hst := hown4.stored (k * 4 + 1) (.slice p4 y.length c4)
      have hown5 := hst.1
      rw [rowCells_set1 ls' k (by rw [HLEN.out]; exact hlt)] at hown5
      have hread5 := (hread4.setCell (j := k * 4 + 1) (u := .slice p4 y.length c4)).set1 k (by rw [HLEN.out]; exact hlt) (by rw [← HY.out]; exact hv4.set)
      have hb5 : Below w.heap.size w (w4.setCell ⟨g, k * 4 + 1, none⟩ (.slice p4 y.length c4)) := (below_step hbr hb4).setCell hgb _
      have c53 : (w4.setCell ⟨g, k * 4 + 1, none⟩ (.slice p4 y.length c4)).cell? ⟨g, k * 4 + 3, none⟩ = some (.slice x.ep 0 x.ec) := by
        rw [World.cell?_setCell_other _ _ _ _ (fun e => by have := congrArg Addr.off e; simp at this)]; exact c43
      generalize w4.setCell ⟨g, k * 4 + 1, none⟩ (.slice p4 y.length c4) = w5 at hown5 hread5 hb5 c53 ⊢
      clear hst hown4 hread4 hv4 f1 c41 c43 hown hread hbr hb4 e0 e1 e2 e3 hcb hbv
      refine (cloneEls_empty x.ep x.ec w5).mono ?_
      rintro e w6 ⟨p6, c6, rfl, hb6⟩
      have hown6 := own_below hown5 hb6
      have hread6 := hread5.mono hb6
      have f3 := hown6.frozenAt (k * 4 + 3)
      have c63 := cell_later hb6 c53
      have hst := hown6.stored (k * 4 + 3) (.slice p6 0 c6)
      have hown7 := hst.1
      rw [rowCells_set3 _ k (by rw [List.length_set, HLEN.out]; exact hlt)] at hown7
      have hread7 := (hread6.setCell (j := k * 4 + 3) (u := .slice p6 0 c6)).set3 k (by rw [List.length_set, HLEN.out]; exact hlt) (ep := p6) (ec := c6)
      have hb7 : Below w.heap.size w (w6.setCell ⟨g, k * 4 + 3, none⟩ (.slice p6 0 c6)) := (below_step hb5 hb6).setCell hgb _
      clear hst hown6 hread6 hown5 hread5 hb5 hb6
      go_wp2
      go_roundw
      case rel => exact ⟨k + 1, _, by omega, by go_num, rfl, hown7, hread7, hb7⟩
      case measure => simp [intOf]; omega
    · go_wp2_with fail
      rw [rounds_succ]
      go_wp2
      go_ret
      exact ⟨g, cap, ls', rfl, hgb, hown, hread, hbr⟩
end Go.Proofs.Ytppodhbfjnekcaa
