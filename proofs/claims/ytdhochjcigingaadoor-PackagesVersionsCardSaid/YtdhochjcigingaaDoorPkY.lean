/- packages: the document's Version. -/
import Derived.Test.YtdhochjcigingaaDoorPkQ
import Derived.Test.YtdhochjcigingaaDoorRefParse
namespace Go.Proofs.YtdhochjcigingaaDoor
open Go.RowKit
set_option linter.all false

theorem numOk_short (p : List UInt8) (h : numOk p = true) : numB (numV p) = decide (p.length ≤ 5) := by
  have hd := numOk_dig h
  have hv := numV_bound p hd
  have hl := h
  unfold numOk at hl
  simp only [Bool.and_eq_true, decide_eq_true_eq] at hl
  unfold numB
  by_cases h5 : p.length ≤ 5
  · rw [decide_eq_true h5]
    refine decide_eq_true ⟨hv.1, ?_⟩
    have : (10 : Int) ^ p.length ≤ 10 ^ 5 := by
      have h : (10 : Nat) ^ p.length ≤ 10 ^ 5 := Nat.pow_le_pow_right (by omega) h5
      have := Int.ofNat_le.2 h
      simpa using this
    omega
  · rw [decide_eq_false h5]
    refine decide_eq_false (fun hc => h5 ?_)
    have hB := digs_back 15 p (by intro e; rw [e] at hl; simp at hl) (by omega) hl.2 hl.1.2.2
    have hp : (numV p).toNat < 10 ^ 5 := by omega
    have a1 := decD_eq 4 (numV p).toNat hp
    have a2 := decD_eq 14 (numV p).toNat (by omega)
    have : decD 5 (numV p).toNat = p := (a1.symm.trans a2).trans hB
    rw [← this]
    exact decD_len 5 _
theorem ver_all (P : List (List UInt8)) (h : P.all numOk = true) : (P.map numV).all numB = P.all numB5 := by
  induction P with
  | nil => rfl
  | cons p P ih =>
    rw [List.all_cons, Bool.and_eq_true] at h
    rw [List.map_cons, List.all_cons, List.all_cons, ih h.2, numOk_short p h.1]
    unfold numB5
    rw [h.1]
    rfl
/-- Read by the document's rule. -/
theorem ver_right (l : List UInt8) (h : (pieces l).all numOk = true) : verB (verL l) = verOk l := by
  have hl := pieces_len _ l (Nat.le_refl _)
  unfold verB verL verOk
  rw [ver_all _ h, List.length_map, hl, Bool.and_comm]
  congr 1
  rw [decide_eq_decide]
  omega
theorem ver_no (l p : List UInt8) (hp : p ∈ pieces l) (h : numOk p = false) : verOk l = false := by
  have h5 : numB5 p = false := by unfold numB5; rw [h]; rfl
  have : (pieces l).all numB5 = false := by
    rw [Bool.eq_false_iff]
    intro hall
    have := List.all_eq_true.1 hall p hp
    rw [h5] at this; cases this
  unfold verOk
  rw [this]; simp
theorem ver_long (l : List UInt8) (h : 5 ≤ (pieces l).length) : verOk l = false := by
  have hl := pieces_len _ l (Nat.le_refl _)
  unfold verOk
  rw [decide_eq_false (by omega)]; rfl

/-- Program's Version at any text. -/
theorem version_all {m : Int} (l : List UInt8) (hl : l.length ≤ 1000) (w : World) (hT : TabP m w) : Calls Tryd.prog 47 #[.string ⟨l.toArray⟩] w (if verOk l = true then VerYes (verL l) w else VerNo w) := by
  by_cases hc : l.count 46 < 4
  · have := version_few l hl hc w hT
    have he : verOk l = (pieces l).all numB5 := by unfold verOk; rw [decide_eq_true hc]; simp
    rw [he]; exact this
  · have he : verOk l = false := by unfold verOk; rw [decide_eq_false hc]; rfl
    rw [if_neg (by rw [he]; simp)]
    exact version_many l hl (by omega) w

theorem part_next (l : List UInt8) (a i : Nat) (ha : a ≤ i) (hi : i < l.length) : (l.take (i + 1)).drop a = (l.take i).drop a ++ [l.getD i 0] := by
  rw [List.take_succ_eq_append_getElem hi, List.drop_append_of_le_length (by rw [List.length_take]; omega), List.getD, List.getElem?_eq_getElem hi]
  rfl
theorem drop_dot (l : List UInt8) (a i : Nat) (ha : a ≤ i) (hi : i < l.length) (hd : (l.getD i 0).toNat = 46) : l.drop a = (l.take i).drop a ++ 46 :: l.drop (i + 1) := by
  have h46 : l.getD i 0 = 46 := UInt8.toNat_inj.1 hd
  conv => lhs; rw [← List.take_append_drop i l]
  rw [List.drop_append_of_le_length (by rw [List.length_take]; omega)]
  congr 1
  rw [List.getD, List.getElem?_eq_getElem hi] at h46
  rw [List.drop_eq_getElem_cons hi]
  simp at h46
  rw [h46]
theorem nodot_next (l : List UInt8) (a i : Nat) (ha : a ≤ i) (hi : i < l.length) (hn : ∀ c ∈ (l.take i).drop a, c.toNat ≠ 46) (hc : (l.getD i 0).toNat ≠ 46) : ∀ c ∈ (l.take (i + 1)).drop a, c.toNat ≠ 46 := by
  intro c hm
  rw [part_next l a i ha hi] at hm
  rcases List.mem_append.1 hm with h | h
  · exact hn c h
  · rw [List.mem_singleton.1 h]; exact hc
end Go.Proofs.YtdhochjcigingaaDoor
