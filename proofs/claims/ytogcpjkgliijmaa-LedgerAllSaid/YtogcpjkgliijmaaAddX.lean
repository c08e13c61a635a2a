/- The walk of ledger.Add. -/
import Derived.Test.YtogcpjkgliijmaaAddW
namespace Go.Proofs.Ytogcpjkgliijmaa
open Go.RowKit

/-- The first steps: the boxes, and the copy. -/
theorem add_start (w : World) {B : Nat} (hB : B = w.heap.size) {p : Option Addr} {c : Nat} (l : List Dec) (d : Dec) {W : World} {v : Value}
    (hown : W.ownsRow (B + 3) 27 5 v l.length (flat l))
    (hb : Below (B + 3) (((w.alloc (.cells #[.slice p l.length c] 25)).alloc (.cells (cells5 d).toArray 27)).alloc (.cells #[.slice none 0 0] 25)) W) : AInv w (W.setCell ⟨B, 0, none⟩ v) B v l d := by
  subst hB
  have hW0 : Below w.heap.size w (((w.alloc (.cells #[.slice p l.length c] 25)).alloc (.cells (cells5 d).toArray 27)).alloc (.cells #[.slice none 0 0] 25)) := (((Below.refl _ _).alloc (Nat.le_refl _) _).alloc (by simp) _).alloc (by simp; omega) _
  have hb6 : ∀ k, k ≠ w.heap.size → (W.setCell ⟨w.heap.size, 0, none⟩ v).heap[k]? = W.heap[k]? := fun k hk => heap_setCell_other W ⟨w.heap.size, 0, none⟩ k v hk
  refine ⟨⟨hown.1, ?_⟩, ?_, ?_, ?_, ?_, rfl⟩
  · rcases hown.2 with hn | ⟨q, cap, cur, hv, hq, hh, r⟩
    · exact .inl hn
    · exact .inr ⟨q, cap, cur, hv, hq, (hb6 _ (by omega)).trans hh, r⟩
  · have h5 : W.heap[w.heap.size]? = some (.cells #[.slice p l.length c] 25 (0, 0)) := by
      rw [hb.block _ (by omega), heap_alloc_old _ _ (by simp; omega), heap_alloc_old _ _ (by simp)]; exact heap_alloc_new _ _
    rw [heap_setCell_same W w.heap.size 0 _ _ v h5]; rfl
  · rw [hb6 _ (by omega), hb.block _ (by omega), heap_alloc_old _ _ (by simp)]
    have := heap_alloc_new (w.alloc (.cells #[.slice p l.length c] 25)) (.cells (cells5 d).toArray 27)
    rw [← this]; simp
  · rw [hb6 _ (by omega), hb.block _ (by omega)]
    have := heap_alloc_new ((w.alloc (.cells #[.slice p l.length c] 25)).alloc (.cells (cells5 d).toArray 27)) (.cells #[.slice none 0 0] 25)
    rw [← this]; simp
  · exact (hW0.trans (hb.mono (by omega))).setCell (by simp) _

def addN (l : List Dec) (d : Dec) : Int := if l.length = 128 then 3 else foll (lastOf l l.length) d

set_option maxHeartbeats 4000000 in
theorem add_walk (w : World) {N : Int} {L : List Dec} {p : Option Addr} {c : Nat} (l : List Dec) (d : Dec) (hg : Good l) (hl : l.length ≤ 128) (hr : l = [] ∨ ∃ b o, p = some ⟨b, o, none⟩ ∧ Row w b o l)
    (hN : Hid (N = addN l d)) (hL : Hid (L = if addN l d = 0 then l ++ [d] else l)) :
    Calls Try.prog 19 #[.agg #[.slice p l.length c], d.val] w (AddPost w L N) := by
  obtain ⟨i0, hi, hz0, hz1, hz2⟩ := info_parts info27
  obtain ⟨B, hB⟩ : ∃ B, B = w.heap.size := ⟨_, rfl⟩
  have hW0 : Below w.heap.size w (((w.alloc (.cells #[.slice p l.length c] 25)).alloc (.cells (cells5 d).toArray 27)).alloc (.cells #[.slice none 0 0] 25)) := (((Below.refl _ _).alloc (Nat.le_refl _) _).alloc (by simp) _).alloc (by simp; omega) _
  have cC := clone_any (((w.alloc (.cells #[.slice p l.length c] 25)).alloc (.cells (cells5 d).toArray 27)).alloc (.cells #[.slice none 0 0] 25)) (p := p) (c := c) l (by omega) (by
    rcases hr with h | ⟨b, o, hp, h⟩
    · exact .inl h
    · exact .inr ⟨b, o, hp, h.mono hW0⟩)
  have CC := Lib.hid cC; clear cC hW0 hr
  unfold Dec.val
  go_enter Try.func19, Try.ntmps19
  go_wp2_with fail
  refine CC.out.mono ?_
  rintro e W ⟨v, rfl, hown, hb⟩
  have hz : (((w.alloc (.cells #[.slice p l.length c] 25)).alloc (.cells (cells5 d).toArray 27)).alloc (.cells #[.slice none 0 0] 25)).heap.size = B + 3 := by simp; omega
  rw [hz] at hown hb
  have hA := add_start w hB l d hown hb
  have h5 : W.heap[B]? = some (.cells #[.slice p l.length c] 25 (0, 0)) := by
    rw [hb.block _ (by omega), hB, heap_alloc_old _ _ (by simp; omega), heap_alloc_old _ _ (by simp)]; exact heap_alloc_new _ _
  have hx0 : W.cell? ⟨B, 0, none⟩ = some (.slice p l.length c) := by rw [cell_of_row _ B 0 _ _ _ h5]; rfl
  have hf0 : W.frozen? ⟨B, 0, none⟩ = false := by simp [World.frozen?, h5]
  clear h5
  rw [← hB]
  obtain ⟨a, cap, rfl⟩ : ∃ a cap, v = .slice a l.length cap := by
    rcases hown.2 with ⟨hv, h0⟩ | ⟨q, cap, cur, hv, _⟩
    · exact ⟨none, 0, by rw [hv, h0]⟩
    · exact ⟨_, cap, hv⟩
  clear hown hb hz CC
  have HA := Lib.hid hA; clear hA
  have HB := Lib.hid hB; clear hB
  dsimp only
  refine ‹∀ (a : Act) (w : World), wpList Try.prog _ _ _ a w → _› _ _ ?_
  go_upto_region 2 with (fail)
  generalize W.setCell ⟨B, 0, none⟩ (.slice a l.length cap) = W1 at HA
  clear hx0 hf0
  have hrow : l.length ≤ cap ∧ (l = [] ∨ ∃ b o, a = some ⟨b, o, none⟩ ∧ Row W1 b o l) := by
    obtain ⟨p', c', hv, hc, hx⟩ := dv_of_own HA.out.own
    injection hv with h1 _ h3
    subst h1; subst h3
    refine ⟨hc, ?_⟩
    rcases hx with hx | ⟨b, hp, _, hrow⟩
    · exact .inl hx
    · exact .inr ⟨b, 0, hp, hrow⟩
  have cK := check_any W1 (p := a) (c := cap) l hl hrow.1 hrow.2
  rw [chk_good hg] at cK
  have e0 := HA.out.b0
  have r0 := cell_of_row _ B 0 _ _ _ e0
  simp at r0
  have CK := Lib.hid cK; have HR := Lib.hid hrow; clear cK hrow e0
  go_wp2_with fail
  refine CK.out.mono ?_
  rintro e W2 ⟨rfl, hb2⟩
  have hA2 := HA.out.below_ hb2
  have hrow2 : l = [] ∨ ∃ b o, a = some ⟨b, o, none⟩ ∧ Row W2 b o l := by
    rcases HR.out.2 with h | ⟨b, o, hp, h⟩
    · exact .inl h
    · exact .inr ⟨b, o, hp, h.mono hb2⟩
  have HA2 := Lib.hid hA2; clear hA2 HA hb2 r0
  have e0 := HA2.out.b0
  have e1 := HA2.out.b1
  have e2 := HA2.out.b2
  have r0 := cell_of_row _ B 0 _ _ _ e0
  have q0 := cell_of_row _ (B + 1) 0 _ _ _ e1
  have q1 := cell_of_row _ (B + 1) 1 _ _ _ e1
  have q2 := cell_of_row _ (B + 1) 2 _ _ _ e1
  have q3 := cell_of_row _ (B + 1) 3 _ _ _ e1
  have q4 := cell_of_row _ (B + 1) 4 _ _ _ e1
  have r2 := cell_of_row _ (B + 1 + 1) 0 _ _ _ e2
  have f2 : W2.frozen? ⟨B + 1 + 1, 0, none⟩ = false := by simp [World.frozen?, e2]
  simp [cells5] at r0 r2 q0 q1 q2 q3 q4
  clear e0 e1 e2 CK
  by_cases h128 : l.length = 128
  · have hb128 : ((l.length : Int) == 128) = true := by rw [beq_iff_eq]; omega
    have hNv : N = 3 := by rw [hN.out]; unfold addN; rw [if_pos h128]
    have hLv : L = l := by rw [hL.out]; unfold addN; rw [if_pos h128, if_neg (by decide)]
    subst hNv; subst hLv
    have H1 := Lib.hid h128; clear h128 hN hL
    go_wp2_with fail
    exact add_fin HA2.out rfl rfl rfl
  · have hb128 : ((l.length : Int) == 128) = false := by rw [beq_eq_false_iff_ne]; omega
    have hl2 : l.length < 128 := by omega
    clear h128
    have cF := follows_any W2 (p := a) (c := cap) l l.length (Nat.le_refl _) (by omega) hrow2 d
    have hNv : N = foll (lastOf l l.length) d := by rw [hN.out]; unfold addN; rw [if_neg (by omega)]
    rw [← hNv] at cF
    unfold Dec.val at cF
    have CF := Lib.hid cF; clear cF hrow2 HR
    by_cases hn0 : N = 0
    · have hLv : L = l ++ [d] := by rw [hL.out, ← hN.out, if_pos hn0]
      subst hn0; subst hLv
      clear hN hL hNv
      go_wp2_with fail
      refine CF.out.mono ?_
      rintro e W3 ⟨rfl, hb3⟩
      have hA3 := HA2.out.below_ hb3
      have HA3 := Lib.hid hA3; clear hA3 HA2 hb3 CF r0 q0 q1 q2 q3 q4 r2 f2
      have e0 := HA3.out.b0
      have e1 := HA3.out.b1
      have r0 := cell_of_row _ B 0 _ _ _ e0
      have q0 := cell_of_row _ (B + 1) 0 _ _ _ e1
      have q1 := cell_of_row _ (B + 1) 1 _ _ _ e1
      have q2 := cell_of_row _ (B + 1) 2 _ _ _ e1
      have q3 := cell_of_row _ (B + 1) 3 _ _ _ e1
      have q4 := cell_of_row _ (B + 1) 4 _ _ _ e1
      simp [cells5] at r0 q0 q1 q2 q3 q4
      have hsz := HA3.out.size
      have hnews : ∀ (j : Nat) (u : Value), (cells5 d)[j]? = some u → (W3.alloc (.cells (cells5 d).toArray 27)).cell? ((⟨W3.heap.size, 0, none⟩ : Addr).add j) = some u := by
        intro j u hu
        have hadd : (⟨W3.heap.size, 0, none⟩ : Addr).add j = ⟨W3.heap.size, j, none⟩ := by unfold Addr.add; split <;> simp_all
        rw [hadd, cell_of_row _ W3.heap.size j _ 27 (0, 0) (heap_alloc_new _ _)]
        simpa using hu
      have HN := Lib.hid hnews; clear hnews
      have hone : ∀ u ∈ cells5 d, u.oneCell' = true := by
        intro u hu
        simp only [cells5, List.mem_cons, List.not_mem_nil, or_false] at hu
        rcases hu with rfl | rfl | rfl | rfl | rfl <;> rfl
      have HO := Lib.hid (HA3.out.own.alloc (.cells (cells5 d).toArray 27))
      have H1 := Lib.hid hone; clear hone e0 e1
      go_wp2_with (at_builtin; refine wpList_append_own _ rfl _ _ 23 rfl (B + 3) 27 i0 (.agg #[.int .i64 0, .int .i64 0, .int .i64 0, .int .i64 0, .int .i64 0]) 5 40 Try.underlying23 hi hz0 hz1 hz2 rfl (by decide) _ _ _ rfl HO.out ⟨W3.heap.size, 0, none⟩ 1 1 (cells5 d) rfl rfl HN.out H1.out (by unfold maxLen; omega) (by omega) (by simp; omega) ?_; intro v' W5 hown' hgrow _; obtain ⟨z0, z1, z2, z3⟩ := HA3.out.after hgrow; obtain ⟨g5, cap5, rfl⟩ := own_form hown' (by omega); have hA5 := HA3.out.appended hown' hgrow; have HA5 := Lib.hid hA5; clear hA5 hown' hgrow)
      exact add_fin HA5.out rfl rfl rfl
    · have hLv : L = l := by rw [hL.out, ← hN.out, if_neg hn0]
      subst hLv
      have hnb : (N != 0) = true := by simpa using hn0
      clear hN hL hNv hn0
      go_wp2_with fail
      refine CF.out.mono ?_
      rintro e W3 ⟨rfl, hb3⟩
      have hA3 := HA2.out.below_ hb3
      have HA3 := Lib.hid hA3; clear hA3 HA2 hb3 CF r0 q0 q1 q2 q3 q4 r2 f2
      have e0 := HA3.out.b0
      have e2 := HA3.out.b2
      have r0 := cell_of_row _ B 0 _ _ _ e0
      have r2 := cell_of_row _ (B + 1 + 1) 0 _ _ _ e2
      have f2 : W3.frozen? ⟨B + 1 + 1, 0, none⟩ = false := by simp [World.frozen?, e2]
      simp at r0 r2
      clear e0 e2
      go_wp2_with fail
      exact add_fin HA3.out rfl rfl rfl

theorem add_any (w : World) {p : Option Addr} {c : Nat} (l : List Dec) (d : Dec) (hg : Good l) (hl : l.length ≤ 128) (hr : l = [] ∨ ∃ b o, p = some ⟨b, o, none⟩ ∧ Row w b o l) :
    Calls Try.prog 19 #[.agg #[.slice p l.length c], d.val] w (AddPost w (if addN l d = 0 then l ++ [d] else l) (addN l d)) :=
  add_walk w l d hg hl hr (Lib.hid rfl) (Lib.hid rfl)
end Go.Proofs.Ytogcpjkgliijmaa
