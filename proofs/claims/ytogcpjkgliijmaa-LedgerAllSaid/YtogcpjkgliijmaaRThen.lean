/- The reference's Then of a good ledger. -/
import Derived.Test.YtogcpjkgliijmaaRLatest
import Derived.Test.YtogcpjkgliijmaaRCopy
namespace Go.Proofs.Ytogcpjkgliijmaa
open Go.RowKit

theorem res33_run {W : World} {b : Nat} {v : Value} {a : Act} (hh : W.heap[b]? = some (.cells #[v] 25 (0, 0))) (ht : a.tmps.getD 4 undef = .pointer (some ⟨b, 0, none⟩)) :
    (results Try.f33 a.tmps).run Try.prog W = .ok (.agg #[v]) W := by
  have e0 := cell_of_row _ b 0 _ _ _ hh
  simp at e0 ht
  clear hh
  simp [results, Try.results33, go_sem, ht, e0]

structure TH (w W : World) (B : Nat) (v : Value) (l : List Dec) : Prop where
  own : W.ownsRow (B + 3) 27 5 v l.length (flat l)
  b1 : W.heap[B + 1]? = some (.cells #[.slice none 0 0] 25 (0, 0))
  b2 : W.heap[B + 1 + 1]? = some (.cells #[v] 25 (0, 0))
  below : Below B w W
  eq : B = w.heap.size

variable {w W : World} {B : Nat} {v : Value} {l : List Dec}

theorem TH.step {W' : World} (h : TH w W B v l) (hb : Below W.heap.size W W') : TH w W' B v l := by
  have hs := lt_of_heap h.b2
  exact ⟨own_below h.own hb, (hb.block _ (by omega)).trans h.b1, (hb.block _ hs).trans h.b2, h.below.trans (hb.mono (by omega)), h.eq⟩

theorem TH.appended {W5 : World} {v' : Value} {d : Dec} (h : TH w W B v l) (ho : W5.ownsRow (B + 3) 27 5 v' (l.length + 1) (flat l ++ cells5 d)) (hg : (W.alloc (.cells (cells5 d).toArray 27)).grownBy W5 v.ownBlock) :
    TH w (W5.setCell ⟨B + 1 + 1, 0, none⟩ v') B v' (l ++ [d]) := by
  have hs := lt_of_heap h.b2
  have hg2 : W.grownBy W5 v.ownBlock := (World.grownBy_alloc W _ _).trans hg
  have hne : ∀ k, k < B + 3 → some k ≠ v.ownBlock := fun k hk e => by have := (h.own.lt k e.symm).1; omega
  have hb5 : ∀ k, k < B + 3 → W5.heap[k]? = W.heap[k]? := fun k hk => hg2.block k (by omega) (hne k hk)
  have hb6 : ∀ k, k ≠ B + 1 + 1 → (W5.setCell ⟨B + 1 + 1, 0, none⟩ v').heap[k]? = W5.heap[k]? := fun k hk => heap_setCell_other W5 ⟨B + 1 + 1, 0, none⟩ k v' hk
  refine ⟨?_, ?_, ?_, ?_, h.eq⟩
  · rw [flat_snoc, List.length_append]
    refine ⟨ho.1, ?_⟩
    rcases ho.2 with hn | ⟨q, cap, cur, hv, hq, hh, r⟩
    · exact .inl hn
    · exact .inr ⟨q, cap, cur, hv, hq, (hb6 q (by omega)).trans hh, r⟩
  · rw [hb6 _ (by omega), hb5 _ (by omega)]; exact h.b1
  · rw [heap_setCell_same W5 (B + 1 + 1) 0 _ _ v' ((hb5 _ (by omega)).trans h.b2)]; rfl
  · refine ⟨hg2.os.trans h.below.os, hg2.tape.trans h.below.tape, hg2.output.trans h.below.output, ?_, fun k hk => ?_⟩
    · simp only [World.setCell, Array.size_modify]; exact Nat.le_trans h.below.size hg2.size
    · rw [hb6 k (by omega), hb5 k (by omega)]; exact h.below.block k hk

theorem TH.after {W5 : World} {d : Dec} (h : TH w W B v l) (hg : (W.alloc (.cells (cells5 d).toArray 27)).grownBy W5 v.ownBlock) :
    W5.cell? ⟨B + 1 + 1, 0, none⟩ = some v ∧ W5.frozen? ⟨B + 1 + 1, 0, none⟩ = false := by
  have hs := lt_of_heap h.b2
  have hg2 : W.grownBy W5 v.ownBlock := (World.grownBy_alloc W _ _).trans hg
  have h2 := (hg2.block (B + 1 + 1) (by omega) (fun e => by have := (h.own.lt _ e.symm).1; omega)).trans h.b2
  exact ⟨by rw [cell_of_row _ (B + 1 + 1) 0 _ _ _ h2]; rfl, by simp [World.frozen?, h2]⟩

theorem th_fin {l' : List Dec} {a : Act} (h : TH w W B v l) (hl : l = l') (ht : a.tmps.getD 4 undef = .pointer (some ⟨B + 1, 0, none⟩)) (hd : a.defers = []) :
    bodyPost Try.prog Try.f33 (ThenPost w l') .ret a (W.setCell ⟨B + 1, 0, none⟩ v) := by
  subst hl
  have he := h.eq
  have hr := heap_setCell_same W (B + 1) 0 _ _ v h.b1
  refine bodyPost_ret (res33_run (v := v) (by rw [hr]; rfl) ht) hd ?_
  have hbf : Below w.heap.size w (W.setCell ⟨B + 1, 0, none⟩ v) := by rw [← he]; exact h.below.setCell (by simp only; omega) _
  rcases h.own.2 with ⟨hv, h0⟩ | ⟨q, cap, cur, hv, hq, hh, hc, r⟩
  · have : l = [] := List.length_eq_zero_iff.1 h0
    subst this
    subst hv
    exact ⟨none, 0, rfl, Nat.le_refl _, .inl rfl, hbf⟩
  · subst hv
    exact ⟨_, cap, rfl, hc, .inr ⟨q, 0, rfl, (row_of_own (w := W) ⟨h.own.1, .inr ⟨q, cap, cur, rfl, hq, hh, hc, r⟩⟩).blk (heap_setCell_other W ⟨B + 1, 0, none⟩ q _ (by simp only; omega))⟩, hbf⟩

def THRel (w : World) (B : Nat) (l : List Dec) (m : Nat) (iv : Value) (wr : World) : Prop :=
  ∃ (k : Nat) (v : Value), iv = .int .i64 k ∧ k ≤ l.length ∧ TH w wr B v (l.take (min k m))

set_option maxHeartbeats 4000000 in
theorem refthen_any (w : World) {p : Option Addr} {c : Nat} (day : Int) (l : List Dec) (hg : Good l) (hl : l.length ≤ 1000) (hr : Reads w p l) :
    Calls Try.prog 33 #[.agg #[.slice p l.length c], .int .i64 day] w (ThenPost w (l.take (cutN l day))) := by
  obtain ⟨i0, hi, hz0, hz1, hz2⟩ := info_parts info27
  obtain ⟨B, hB⟩ : ∃ B, B = w.heap.size := ⟨_, rfl⟩
  have hT : TH w (((w.alloc (.cells #[.slice p l.length c] 25)).alloc (.cells #[.slice none 0 0] 25)).alloc (.cells #[.slice none 0 0] 25)) B (.slice none 0 0) [] := by
    subst hB
    refine ⟨World.ownsRow_nil _ _ _ _, ?_, ?_, (((Below.refl _ _).alloc (Nat.le_refl _) _).alloc (by simp) _).alloc (by simp; omega) _, rfl⟩
    · rw [heap_alloc_old _ _ (by simp)]; exact heap_alloc2_new w _ _
    · rw [show w.heap.size + 1 + 1 = ((w.alloc (.cells #[.slice p l.length c] 25)).alloc (.cells #[.slice none 0 0] 25)).heap.size by simp]; exact heap_alloc_new _ _
  have kb : (((w.alloc (.cells #[.slice p l.length c] 25)).alloc (.cells #[.slice none 0 0] 25)).alloc (.cells #[.slice none 0 0] 25)).cell? ⟨B, 0, none⟩ = some (.slice p l.length c) := by
    rw [hB, World.cell?_alloc_lt _ _ _ (by simp; omega), World.cell?_alloc_lt _ _ _ (by simp)]; simp
  have hcut := cutN_le l day
  have HAT := Lib.hid (cutN_at hg day); have HB := Lib.hid hB; have HRB := Lib.hid hr; have KB := Lib.hid kb; have HT := Lib.hid hT
  generalize cutN l day = m at *
  clear hr hg hT kb
  go_enter Try.func33, Try.ntmps33
  go_upto_region 2 with (fail)
  rw [← hB]
  generalize ((w.alloc (.cells #[.slice p l.length c] 25)).alloc (.cells #[.slice none 0 0] 25)).alloc (.cells #[.slice none 0 0] 25) = W0 at *
  clear hB
  have kb := KB.out
  go_wp2_with fail
  clear kb
  go_loopw [11] (fun iv wr => THRel w B l m iv wr) (fun iv _ => l.length - (intOf iv).toNat)
  case atStart => exact ⟨0, _, rfl, Nat.zero_le _, by rw [Nat.zero_min]; exact HT.out⟩
  case round =>
    obtain ⟨k, v, rfl, hk, hI⟩ := hrel
    obtain ⟨L0, hL0⟩ : ∃ L0, L0 = l.take (min k m) := ⟨_, rfl⟩
    rw [← hL0] at hI
    have hll : L0.length ≤ 1000 := by rw [hL0]; simp; omega
    have HL0 := Lib.hid hL0
    clear hL0
    by_cases hlt : k < l.length
    · rcases HRB.out with h | ⟨b, o, hp, hrow⟩
      · subst h; simp at hlt
      subst hp
      have hblt := World.block_lt_of_cell? w _ (hrow k hlt).1
      simp only at hblt
      obtain ⟨c0, c1, c2, c3, c4⟩ := (hrow.blk (hI.below.block b (by have := HB.out; omega))) k hlt
      have hat := HAT.out k hlt
      obtain ⟨d, hde⟩ : ∃ d, d = l[k] := ⟨_, rfl⟩
      rw [← hde] at c0 c1 c2 c3 c4 hat
      have hba : Below wr.heap.size wr (wr.alloc (.cells #[.int .i64 d.day, .int .i64 d.known, .int .i64 d.kind, .int .i64 d.subj, .int .i64 d.value] 27)) := (Below.refl _ _).alloc (Nat.le_refl _) _
      have hI2 := hI.step hba
      obtain ⟨X, hX⟩ : ∃ X, X = wr.heap.size := ⟨_, rfl⟩
      have x0 : (wr.alloc (.cells #[.int .i64 d.day, .int .i64 d.known, .int .i64 d.kind, .int .i64 d.subj, .int .i64 d.value] 27)).cell? ⟨X, 0, none⟩ = some (.int .i64 d.day) := by rw [hX]; simp
      have x1 : (wr.alloc (.cells #[.int .i64 d.day, .int .i64 d.known, .int .i64 d.kind, .int .i64 d.subj, .int .i64 d.value] 27)).cell? ⟨X, 1, none⟩ = some (.int .i64 d.known) := by rw [hX]; simp
      have x2 : (wr.alloc (.cells #[.int .i64 d.day, .int .i64 d.known, .int .i64 d.kind, .int .i64 d.subj, .int .i64 d.value] 27)).cell? ⟨X, 2, none⟩ = some (.int .i64 d.kind) := by rw [hX]; simp
      have x3 : (wr.alloc (.cells #[.int .i64 d.day, .int .i64 d.known, .int .i64 d.kind, .int .i64 d.subj, .int .i64 d.value] 27)).cell? ⟨X, 3, none⟩ = some (.int .i64 d.subj) := by rw [hX]; simp
      have x4 : (wr.alloc (.cells #[.int .i64 d.day, .int .i64 d.known, .int .i64 d.kind, .int .i64 d.subj, .int .i64 d.value] 27)).cell? ⟨X, 4, none⟩ = some (.int .i64 d.value) := by rw [hX]; simp
      have p0 := cell_of_row _ (B + 1 + 1) 0 _ _ _ hI2.b2
      simp at p0
      obtain ⟨av, cv, rfl⟩ := own_form0 hI2.own
      have HI2 := Lib.hid hI2
      have htk : k < m → l.take (min (k + 1) m) = L0 ++ [d] := fun h => by
        rw [HL0.out, show min (k + 1) m = k + 1 by omega, show min k m = k by omega, List.take_succ_eq_append_getElem hlt, hde]
      have htk2 : ¬ k < m → l.take (min (k + 1) m) = L0 := fun h => by rw [HL0.out, show min (k + 1) m = min k m by omega]
      have HTK := Lib.hid (And.intro htk htk2)
      clear hI hba hI2 htk htk2 hrow hblt hde
      go_upto_region 5 with (fail)
      rw [← hX]
      generalize wr.alloc (.cells #[.int .i64 d.day, .int .i64 d.known, .int .i64 d.kind, .int .i64 d.subj, .int .i64 d.value] 27) = W1 at *
      clear hX c0 c1 c2 c3 c4
      by_cases hkm : k < m
      · rw [decide_eq_true hkm] at hat
        have hone : ∀ u ∈ cells5 d, u.oneCell' = true := by
          intro u hu
          simp only [cells5, List.mem_cons, List.not_mem_nil, or_false] at hu
          rcases hu with rfl | rfl | rfl | rfl | rfl <;> rfl
        have H1 := Lib.hid hone
        have HNW := Lib.hid (World.news_of_block (cs := (cells5 d).toArray) (t := 27) (fr := (0, 0)) (heap_alloc_new W1 _))
        have HO := Lib.hid (HI2.out.own.alloc (.cells (cells5 d).toArray 27))
        have hsz := lt_of_heap HI2.out.b2
        have hsz2 : B + 3 ≤ W1.heap.size + 1 := by omega
        clear hone
        go_wp2_with (at_builtin; refine wpList_append_own _ rfl _ _ 23 rfl (B + 3) 27 i0 (.agg #[.int .i64 0, .int .i64 0, .int .i64 0, .int .i64 0, .int .i64 0]) 5 40 Try.underlying23 hi hz0 hz1 hz2 rfl (by decide) _ _ _ rfl HO.out ⟨W1.heap.size, 0, none⟩ 1 1 (cells5 d) rfl rfl HNW.out H1.out (by unfold maxLen; omega) (by omega) (by simp; omega) ?_; intro v' W6 hown' hgrow _; obtain ⟨z0, z1⟩ := HI2.out.after hgrow; obtain ⟨g5, cap5, rfl⟩ := own_form hown' (by omega); have HA6 := Lib.hid (HI2.out.appended hown' hgrow); clear hown' hgrow)
        go_roundw
        case rel => exact ⟨k + 1, _, by go_num, by omega, by rw [HTK.out.1 hkm]; exact HA6.out⟩
        case measure => simp [intOf]; omega
      · rw [decide_eq_false hkm] at hat
        go_wp2_with fail
        go_roundw
        case rel => exact ⟨k + 1, _, by go_num, by omega, by rw [HTK.out.2 hkm]; exact HI2.out⟩
        case measure => simp [intOf]; omega
    · have e1 : min k m = m := by omega
      have HM := Lib.hid (show l.take m = L0 by rw [HL0.out, e1])
      have p0 := cell_of_row _ (B + 1 + 1) 0 _ _ _ hI.b2
      have q0 := cell_of_row _ (B + 1) 0 _ _ _ hI.b1
      have qf : wr.frozen? ⟨B + 1, 0, none⟩ = false := by simp only [World.frozen?, hI.b1]; rfl
      simp at p0 q0
      obtain ⟨av, cv, rfl⟩ := own_form0 hI.own
      have HI2 := Lib.hid hI
      clear hI e1
      go_wp2_with fail
      exact th_fin HI2.out HM.out.symm rfl rfl
end Go.Proofs.Ytogcpjkgliijmaa
