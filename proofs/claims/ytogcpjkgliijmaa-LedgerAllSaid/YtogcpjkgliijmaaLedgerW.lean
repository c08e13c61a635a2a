/- The walk of move.Ledger. -/
import Derived.Test.YtogcpjkgliijmaaLedger
import Derived.Deep.Cut
namespace Go.Proofs.Ytogcpjkgliijmaa
open Go.RowKit

theorem dec_small {l : List Dec} (h : (l.getLastD dz).day ≤ 2 * l.length ∧ (l.getLastD dz).known ≤ l.length) (hg : Good l) (hl : l.length ≤ 100) :
    (0 ≤ (l.getLastD dz).day ∧ (l.getLastD dz).day ≤ 30000) ∧ (0 ≤ (l.getLastD dz).known ∧ (l.getLastD dz).known ≤ 30000) := by
  rcases Nat.eq_zero_or_pos l.length with h0 | h0
  · rw [List.length_eq_zero_iff.1 h0]; decide
  · have hv := validB_true (hg.1 (l.length - 1) (by omega))
    rw [getLastD_eq h0] at h ⊢
    omega

set_option maxHeartbeats 4000000 in
theorem ledger_any (w : World) (g most : Nat) (h : DiceAt w g) (hm : most ≤ 100) :
    Calls Try.prog 16 #[.pointer (some ⟨g, 0, none⟩), .int .i64 most] w (Made w g most) := by
  obtain ⟨i0, hi, hz0, hz1, hz2⟩ := info_parts info27
  obtain ⟨B, hB⟩ : ∃ B, B = w.heap.size := ⟨_, rfl⟩
  have hL : LMid w (((w.alloc (.cells #[.slice none 0 0] 25)).alloc (.cells #[.slice none 0 0] 25)).alloc (.cells #[.int .i64 0, .int .i64 0, .int .i64 0, .int .i64 0, .int .i64 0] 27)) g B (.slice none 0 0) [] dz := by
    have hlt := h.lt
    subst hB
    refine ⟨((h.below ((Below.refl _ _).alloc (Nat.le_refl _) _)).below ((Below.refl _ _).alloc (Nat.le_refl _) _)).below ((Below.refl _ _).alloc (Nat.le_refl _) _), ((World.grownBy_alloc _ _ _).trans (World.grownBy_alloc _ _ _)).trans (World.grownBy_alloc _ _ _), World.ownsRow_nil _ _ _ _, ?_, ?_, ?_, rfl, hlt⟩
    · rw [heap_alloc_old _ _ (by simp; omega), heap_alloc_old _ _ (by simp)]; exact heap_alloc_new _ _
    · rw [heap_alloc_old _ _ (by simp)]
      have := heap_alloc_new (w.alloc (.cells #[.slice none 0 0] 25)) (.cells #[.slice none 0 0] 25)
      simpa using this
    · change _ = some (Obj.cells #[.int .i64 0, .int .i64 0, .int .i64 0, .int .i64 0, .int .i64 0] 27 (0, 0))
      have := heap_alloc_new ((w.alloc (.cells #[.slice none 0 0] 25)).alloc (.cells #[.slice none 0 0] 25)) (.cells #[.int .i64 0, .int .i64 0, .int .i64 0, .int .i64 0, .int .i64 0] 27)
      simpa using this
  go_enter Try.func16, Try.ntmps16
  go_wp2_with fail
  rw [← hB]
  generalize ((w.alloc (.cells #[.slice none 0 0] 25)).alloc (.cells #[.slice none 0 0] 25)).alloc (.cells #[.int .i64 0, .int .i64 0, .int .i64 0, .int .i64 0, .int .i64 0] 27) = W at *
  clear hB h
  refine (next_any W g (most + 1) (by omega) (by omega) hL.dice).mono ?_
  rintro e W1 ⟨k0, rfl, hk0, hk1, hd, hg⟩
  have hL1 := hL.threw hd hg
  obtain ⟨k, rfl⟩ := Int.eq_ofNat_of_zero_le hk0
  clear hL hd hg
  go_wp2_with fail
  go_loopw [7] (fun kv wr => ∃ (k : Nat) (v : Value) (l : List Dec), kv = .int .i64 k ∧ k + l.length ≤ most ∧ LMid w wr g B v l (l.getLastD dz) ∧ Good l ∧ (l.getLastD dz).day ≤ 2 * l.length ∧ (l.getLastD dz).known ≤ l.length) (fun kv _ => (intOf kv).toNat)
  case atStart => exact ⟨k, .slice none 0 0, [], rfl, by simp; omega, hL1, Good.nil, by decide, by decide⟩
  case round =>
    clear hL1
    obtain ⟨k, v, l, rfl, hkl, hI, hgood, hs1, hs2⟩ := hrel
    by_cases hk : 0 < k
    · obtain ⟨⟨a0, a1⟩, a2, a3⟩ := dec_small ⟨hs1, hs2⟩ hgood (by omega)
      obtain ⟨x, hx⟩ : ∃ x, x = l.getLastD dz := ⟨_, rfl⟩
      rw [← hx] at hI hs1 hs2 a0 a1 a2 a3
      have HX := Lib.hid hx; clear hx
      have e6 := hI.c6
      have f0 := cell_of_row wr (B + 1 + 1) 0 _ _ _ e6
      have f1 := cell_of_row wr (B + 1 + 1) 1 _ _ _ e6
      have f2 := cell_of_row wr (B + 1 + 1) 2 _ _ _ e6
      have f3 := cell_of_row wr (B + 1 + 1) 3 _ _ _ e6
      have f4 := cell_of_row wr (B + 1 + 1) 4 _ _ _ e6
      simp [cells5] at f0 f1 f2 f3 f4
      clear e6
      go_wp2_with fail
      refine (decision_any wr g x hI.dice ⟨a0, a1⟩ ⟨a2, a3⟩).mono ?_
      rintro e W2 ⟨d, rfl, q1, q2, q3, q4, q5, hd2, hg2⟩
      have hI2 := hI.threw hd2 hg2
      have e6 := hI2.c6
      have p0 := cell_of_row W2 (B + 1 + 1) 0 _ _ _ e6
      have p1 := cell_of_row W2 (B + 1 + 1) 1 _ _ _ e6
      have p2 := cell_of_row W2 (B + 1 + 1) 2 _ _ _ e6
      have p3 := cell_of_row W2 (B + 1 + 1) 3 _ _ _ e6
      have p4 := cell_of_row W2 (B + 1 + 1) 4 _ _ _ e6
      simp [cells5] at p0 p1 p2 p3 p4
      have pf : ∀ j, W2.frozen? ⟨B + 1 + 1, j, none⟩ = false := fun j => by simp [World.frozen?, e6]
      have hI3 := hI2.store d
      have HI3 := Lib.hid hI3
      clear e6 f0 f1 f2 f3 f4 hI hI2 hI3 hd2 hg2
      unfold Dec.val
      dsimp only
      refine ‹∀ (a : Act) (w : World), wpList Try.prog _ _ _ a w → _› _ _ ?_
      go_upto_region 7 with (fail)
      change Code.wp _ _ _ _ (resW W2 (B + 1 + 1) d.day d.known d.kind d.subj d.value)
      generalize resW W2 (B + 1 + 1) d.day d.known d.kind d.subj d.value = W3 at HI3
      clear p0 p1 p2 p3 p4 pf
      have hI3 := HI3.out
      have e7 := hI3.c6
      have e5 := hI3.c5
      have r0 := cell_of_row _ (B + 1 + 1) 0 _ _ _ e7
      have r1 := cell_of_row _ (B + 1 + 1) 1 _ _ _ e7
      have r2 := cell_of_row _ (B + 1 + 1) 2 _ _ _ e7
      have r3 := cell_of_row _ (B + 1 + 1) 3 _ _ _ e7
      have r4 := cell_of_row _ (B + 1 + 1) 4 _ _ _ e7
      have r5 := cell_of_row _ (B + 1) 0 _ _ _ e5
      simp [cells5] at r0 r1 r2 r3 r4 r5
      have hown := hI3.own
      have hbase := hI3.size
      clear e7 e5 hI3
      have hnews : ∀ (j : Nat) (u : Value), (cells5 d)[j]? = some u → (W3.alloc (.cells (cells5 d).toArray 27)).cell? ((⟨W3.heap.size, 0, none⟩ : Addr).add j) = some u := by
        intro j u hu
        have hadd : (⟨W3.heap.size, 0, none⟩ : Addr).add j = ⟨W3.heap.size, j, none⟩ := by unfold Addr.add; split <;> simp_all
        rw [hadd, cell_of_row _ W3.heap.size j _ 27 (0, 0) (heap_alloc_new _ _)]
        simpa using hu
      have HN := Lib.hid hnews; clear hnews
      have hone : ∀ u ∈ cells5 d, u.oneCell' = true := by
        intro u hu
        simp only [cells5, List.mem_cons, List.not_mem_nil, or_false] at hu
        rcases hu with rfl | rfl | rfl | rfl | rfl <;> rfl
      have HO := Lib.hid (hown.alloc (.cells (cells5 d).toArray 27)); clear hown
      have H1 := Lib.hid hone; clear hone
      go_wp2_with (at_builtin; refine wpList_append_own _ rfl _ _ 23 rfl (B + 3) 27 i0 (.agg #[.int .i64 0, .int .i64 0, .int .i64 0, .int .i64 0, .int .i64 0]) 5 40 Try.underlying23 hi hz0 hz1 hz2 rfl (by decide) _ _ _ rfl HO.out ⟨W3.heap.size, 0, none⟩ 1 1 (cells5 d) rfl rfl HN.out H1.out (by unfold maxLen; omega) (by omega) (by simp; omega) ?_; intro v' W5 hown' hgrow _; obtain ⟨z0, z1⟩ := HI3.out.after hgrow; obtain ⟨g5, cap5, rfl⟩ := own_form hown' (by omega); have hL5 := HI3.out.appended hown' hgrow; have HL5 := Lib.hid hL5; clear hL5 hown' hgrow)
      have hlast : (l ++ [d]).getLastD dz = d := by simp
      have hdo : d.ok = true := validB_mk ⟨⟨by omega, by omega⟩, ⟨by omega, by omega⟩, q3, ⟨q4.1, by omega⟩, q5⟩
      have hg2 : Good (l ++ [d]) := hgood.snoc hdo (by rw [← HX.out]; exact q1.1) (by rw [← HX.out]; exact q2.1)
      go_roundw
      case rel => exact ⟨k - 1, _, l ++ [d], val_i (by omega), by simp; omega, by rw [hlast]; exact HL5.out, hg2, by rw [hlast]; simp; omega, by rw [hlast]; simp; omega⟩
      case measure => simp [intOf]; omega
    · have hk0' : k = 0 := by omega
      subst hk0'
      have e4 := hI.c4
      have e5 := hI.c5
      have r4 := cell_of_row _ B 0 _ _ _ e4
      have r5 := cell_of_row _ (B + 1) 0 _ _ _ e5
      have rf : wr.frozen? ⟨B, 0, none⟩ = false := by simp [World.frozen?, e4]
      simp at r4 r5
      have hown := hI.own
      have hform : v = .slice none 0 0 ∨ ∃ q cap, v = .slice (some ⟨q, 0, none⟩) l.length cap := by
        rcases hown.2 with ⟨hv, _⟩ | ⟨q, cap, cur, hv, _⟩
        · exact .inl hv
        · exact .inr ⟨q, cap, hv⟩
      clear e4 e5 hown
      have HI := Lib.hid hI; clear hI
      rcases hform with rfl | ⟨q, cap, rfl⟩
      all_goals
        go_wp2_with fail
        exact made_fin HI.out hgood (by omega) ⟨hs1, hs2⟩ rfl rfl
end Go.Proofs.Ytogcpjkgliijmaa
