/- The reference's Copy. -/
import Derived.Test.YtogcpjkgliijmaaRChk
import Derived.Test.YtogcpjkgliijmaaAddsM
namespace Go.Proofs.Ytogcpjkgliijmaa
open Go.RowKit

theorem copy_fin {w W2 : World} {B : Nat} {l : List Dec} {v : Value} {a : Act} (hB : B = w.heap.size) (hb : Below B w W2) (hs : B + 2 ≤ W2.heap.size) (hh : W2.heap[B + 1]? = some (.cells #[.slice none 0 0] 25 (0, 0))) (ho : W2.ownsRow (B + 2) 27 5 v l.length (flat l))
    (ht : a.tmps.getD 2 undef = .pointer (some ⟨B + 1, 0, none⟩)) (hd : a.defers = []) :
    bodyPost Try.prog Try.f59 (Copied59 w l) .ret a (W2.setCell ⟨B + 1, 0, none⟩ v) := by
  have hr := heap_setCell_same W2 (B + 1) 0 _ _ v hh
  refine bodyPost_ret (res59_run (v := v) (by rw [hr]; rfl) ht) hd ⟨v, rfl, ?_, ?_⟩
  · rw [← hB]
    refine ⟨ho.1, ?_⟩
    rcases ho.2 with hn | ⟨q, cap, cur, hv, hq, hhq, r⟩
    · exact .inl hn
    · exact .inr ⟨q, cap, cur, hv, hq, (heap_setCell_other W2 ⟨B + 1, 0, none⟩ q v (by simp only; omega)).trans hhq, r⟩
  · rw [← hB]; exact hb.setCell (by simp only; omega) _

theorem own_form0 {w : World} {base : Nat} {e : TypeId} {size : Nat} {v : Value} {n : Nat} {xs : List Value} (h : w.ownsRow base e size v n xs) : ∃ av cv, v = .slice av n cv := by
  rcases h.2 with ⟨hv, h0⟩ | ⟨q, cap, cur, hv, _⟩
  · exact ⟨none, 0, by rw [hv, h0]⟩
  · exact ⟨_, cap, hv⟩

theorem copy_after {W w1 : World} {B : Nat} (hs : W.heap.size = B + 2) (hh : W.heap[B + 1]? = some (.cells #[.slice none 0 0] 25 (0, 0))) (hg : W.grownBy w1 (Value.slice none 0 0).ownBlock) :
    w1.heap[B + 1]? = some (.cells #[.slice none 0 0] 25 (0, 0)) ∧ w1.cell? ⟨B + 1, 0, none⟩ = some (.slice none 0 0) ∧ w1.frozen? ⟨B + 1, 0, none⟩ = false := by
  have h2 := (hg.block (B + 1) (by omega) (by intro e; cases e)).trans hh
  exact ⟨h2, by rw [cell_of_row _ (B + 1) 0 _ _ _ h2]; rfl, by simp [World.frozen?, h2]⟩

set_option maxHeartbeats 4000000 in
theorem refcopy_any (w : World) {p : Option Addr} {c : Nat} (l : List Dec) (hr : Reads w p l) (hn : p = none → c = 0) (hl : l.length ≤ 1000) :
    Calls Try.prog 59 #[.agg #[.slice p l.length c]] w (Copied59 w l) := by
  obtain ⟨i0, hi, hz0, hz1, hz2⟩ := info_parts info27
  obtain ⟨B, hB⟩ : ∃ B, B = w.heap.size := ⟨_, rfl⟩
  have hbW : Below B w ((w.alloc (.cells #[.slice p l.length c] 25)).alloc (.cells #[.slice none 0 0] 25)) := by rw [hB]; exact ((Below.refl _ _).alloc (Nat.le_refl _) _).alloc (by simp) _
  have hbo : ((w.alloc (.cells #[.slice p l.length c] 25)).alloc (.cells #[.slice none 0 0] 25)).cell? ⟨B, 0, none⟩ = some (.slice p l.length c) := by rw [hB, World.cell?_alloc_lt _ _ _ (by simp)]; simp
  have hh1 : ((w.alloc (.cells #[.slice p l.length c] 25)).alloc (.cells #[.slice none 0 0] 25)).heap[B + 1]? = some (.cells #[.slice none 0 0] 25 (0, 0)) := by rw [hB]; exact heap_alloc2_new w _ _
  have hsz : ((w.alloc (.cells #[.slice p l.length c] 25)).alloc (.cells #[.slice none 0 0] 25)).heap.size = B + 2 := by rw [hB]; simp
  have hrW : Reads ((w.alloc (.cells #[.slice p l.length c] 25)).alloc (.cells #[.slice none 0 0] 25)) p l := hr.mono (by rw [← hB]; exact hbW)
  cases p with
  | none =>
    have h0 := hn rfl
    subst h0
    have hl0 : l = [] := by
      rcases hr with h | ⟨b, o, hp, _⟩
      · exact h
      · cases hp
    subst hl0
    go_enter Try.func59, Try.ntmps59
    go_wp2_with fail
    rw [← hB]
    generalize (w.alloc (.cells #[.slice none 0 0] 25)).alloc (.cells #[.slice none 0 0] 25) = W at *
    refine bodyPost_ret (res59_run (v := .slice none 0 0) hh1 rfl) rfl ⟨_, rfl, World.ownsRow_nil _ _ _ _, ?_⟩
    rw [← hB]; exact hbW
  | some ad =>
    have hn0 : ∀ j u, (flat l)[j]? = some u → ((w.alloc (.cells #[.slice (some ad) l.length c] 25)).alloc (.cells #[.slice none 0 0] 25)).cell? (ad.add j) = some u := by
      rcases hrW with h | ⟨b, o, hp, h⟩
      · intro j u hu; rw [h] at hu; simp [flat] at hu
      · injection hp with hp
        subst hp
        exact cells_of_row h
    have z0 := cell_of_row _ (B + 1) 0 _ _ _ hh1
    simp at z0
    have HBW := Lib.hid hbW; have HH1 := Lib.hid hh1; have HSZ := Lib.hid hsz; have HN0 := Lib.hid hn0; have HB := Lib.hid hB; have HFL := Lib.hid (flat_len l)
    clear hbW hh1 hsz hrW hn0 hr hn
    go_enter Try.func59, Try.ntmps59
    go_upto_region 1 with (fail)
    rw [← hB]
    generalize (w.alloc (.cells #[.slice (some ad) l.length c] 25)).alloc (.cells #[.slice none 0 0] 25) = W at *
    clear hB
    go_wp2_with (at_builtin; refine wpList_append_own _ rfl _ _ 23 rfl (B + 2) 27 i0 (.agg #[.int .i64 0, .int .i64 0, .int .i64 0, .int .i64 0, .int .i64 0]) 5 40 Try.underlying23 hi hz0 hz1 hz2 rfl (by decide) (.slice none 0 0) 0 [] rfl (World.ownsRow_nil _ _ _ _) ad l.length c (flat l) rfl HFL.out HN0.out (flat_one l) (by unfold maxLen; omega) (by omega) (by have := HSZ.out; omega) ?_; intro v' w1 hown' hgrow _; have HOW := Lib.hid hown'; have HGR := Lib.hid hgrow; obtain ⟨hh2, u0, u1⟩ := copy_after HSZ.out HH1.out hgrow; have HH2 := Lib.hid hh2; obtain ⟨av, cv, rfl⟩ := own_form0 hown'; clear hown' hgrow hh2)
    have hb1 : Below B w w1 := HBW.out.grown HGR.out (by have := HSZ.out; omega) (fun k hk => by cases hk)
    have ho : w1.ownsRow (B + 2) 27 5 (.slice av l.length cv) l.length (flat l) := by
      have := HOW.out
      rw [List.nil_append, Nat.zero_add] at this
      exact this
    exact copy_fin HB.out hb1 (by have := HGR.out.size; have := HSZ.out; omega) HH2.out ho rfl rfl
end Go.Proofs.Ytogcpjkgliijmaa
