/- The sanity check: the example of chapter 29. -/
import Derived.Test.YtgeldpkopolnfaaDoorOmP
namespace Go.Proofs.YtgeldpkopolnfaaDoor
open Go.RowKit
set_option linter.all false

theorem ok_up {n : Nat} {L : List Rq} (h : ∀ x ∈ L, 0 ≤ x.1 ∧ x.1 < x.2 ∧ x.2 < (n : Int)) : Ok n L := by
  refine ⟨fun x hx => ?_, fun i _ hw => ?_⟩
  · have := h x hx
    omega
  · have hu : Up L := fun x hx => by have := h x hx; omega
    have := hw.lt hu
    omega
def L01 : List Rq := [(0, 1)]
theorem l01_at (W : World) : ReqsAt (W.alloc (.cells #[.int .i64 0, .int .i64 1] 47)) (some ⟨W.heap.size, 0, none⟩) L01 := by
  intro j hj
  obtain rfl : j = 0 := by simp [L01] at hj; omega
  have h := heap_alloc_new W (.cells #[.int .i64 0, .int .i64 1] 47)
  refine ⟨_, _, rfl, ?_, ?_⟩
  · rw [cell_of_row _ _ _ _ _ _ h]; rfl
  · rw [cell_of_row _ _ _ _ _ _ h]; rfl
set_option maxRecDepth 100000 in
set_option maxHeartbeats 1000000 in
theorem check1 (b : Nat) (W : World) (h0 : W.cell? ⟨b, 0, none⟩ = some (.int .i64 0)) (h1 : W.cell? ⟨b, 1, none⟩ = some (.int .i64 1)) :
    Calls Tryd.prog 23 #[.int .i64 1, .slice (some ⟨b, 0, none⟩) 1 1] W fun e w' => e = .returned (.int .i64 44) ∧ Below W.heap.size W w' := by
  have C : Calls Tryd.prog 39 #[.int .i64 1, .slice (some ⟨b, 0, none⟩) 1 1] W fun e w' => e = .returned (.int .i64 44) ∧ Below W.heap.size W w' := by
    go_enter Tryd.func39, Tryd.ntmps39
    go_wp2_with fail
    refine wp_loop_rounds 1 ?_
    rw [rounds_succ]
    go_wp2_with fail
    go_ret
    exact ⟨rfl, (Below.refl _ _).alloc (Nat.le_refl _) _⟩
  have C := Lib.hid C
  go_enter Tryd.func23, Tryd.ntmps23
  go_wp2_with (go_at_call 39; refine (C.out).mono ?_; rintro e w' ⟨rfl, hb⟩)
  go_ret
  exact ⟨rfl, hb⟩
theorem count01 {A : List Nat} (h : A.Nodup) (hm : ∀ x, x ∈ A ↔ x < 2 ^ 3 ∧ ClM L01 x) : A.length = 6 := by
  have hp : A.Perm ((List.range 8).filter fun x => clB L01 x) := by
    rw [List.perm_ext_iff_of_nodup h ((List.nodup_range).filter _)]
    intro x
    rw [hm, List.mem_filter, List.mem_range, clB_iff]
  rw [hp.length_eq]
  decide +kernel
set_option maxRecDepth 100000 in
set_option maxHeartbeats 4000000 in
theorem awake_any (w : World) (hT : Deb w) : Calls Tryd.prog 8 #[] w (BoolP true w) := by
  have hR0 : ReqV (w.alloc (.cells #[.int .i64 0, .int .i64 1] 47)) 3 (.slice (some ⟨w.heap.size, 0, none⟩) 1 1) L01 :=
    ReqV.mk' (a := some ⟨w.heap.size, 0, none⟩) (L := L01) (c := 1) (by decide) (by decide) (ok_up fun x hx => by simp [L01] at hx; subst hx; decide) (List.pairwise_singleton _ _) (by decide) (by decide) (l01_at w)
  have hb0 : Below w.heap.size w (w.alloc (.cells #[.int .i64 0, .int .i64 1] 47)) := (Below.refl _ _).alloc (Nat.le_refl _) _
  have hT0 := hT.step hb0
  have hcell0 : (w.alloc (.cells #[.int .i64 0, .int .i64 1] 47)).cell? ⟨w.heap.size, 0, none⟩ = some (.int .i64 0) := by
    rw [cell_of_row _ _ _ _ _ _ (heap_alloc_new w _)]; rfl
  have hcell1 : (w.alloc (.cells #[.int .i64 0, .int .i64 1] 47)).cell? ⟨w.heap.size, 1, none⟩ = some (.int .i64 1) := by
    rw [cell_of_row _ _ _ _ _ _ (heap_alloc_new w _)]; rfl
  have C1 := Lib.hid (hR0.sets hT0 (by decide))
  have C2 := Lib.hid (fun W (hb : Below (w.alloc (.cells #[.int .i64 0, .int .i64 1] 47)).heap.size (w.alloc (.cells #[.int .i64 0, .int .i64 1] 47)) W) s (hs : IdxR W s [1]) => (hR0.step hb).closed (l := [1]) ⟨List.pairwise_singleton _ _, by simp⟩ hs)
  have C3 := Lib.hid (fun W (hb : Below (w.alloc (.cells #[.int .i64 0, .int .i64 1] 47)).heap.size (w.alloc (.cells #[.int .i64 0, .int .i64 1] 47)) W) => check1 w.heap.size W (cell_later' hb hcell0) (cell_later' hb hcell1))
  have hcl : clB L01 (maskL [1]) = false := by decide +kernel
  rw [hcl] at C2
  have HB0 := Lib.hid hb0
  clear hcell0 hcell1 hT0 hR0 hcl hb0
  go_enter Tryd.func8, Tryd.ntmps8
  go_wp2_with fail
  obtain ⟨W0, hW0⟩ : ∃ W0, w.alloc (.cells #[.int .i64 0, .int .i64 1] 47) = W0 := ⟨_, rfl⟩
  obtain ⟨B, hB⟩ : ∃ B, w.heap.size = B := ⟨_, rfl⟩
  rw [hW0] at C1 C2 C3 HB0 ⊢
  rw [hB] at C1 C2 C3 ⊢
  clear hW0 hB
  refine (C1.out).mono ?_
  clear C1
  rintro e w1 ⟨sv, A, rfl, hnd, hmem, hsr, hb1⟩
  have hlen := count01 hnd hmem
  obtain ⟨ps, cs, rfl, _, _⟩ := hsr
  rw [List.length_map, hlen]
  have HB1 := Lib.hid hb1
  clear hnd hmem hb1 hlen
  go_wp2_with fail
  have hb2 := HB1.out.alloc HB1.out.size (.cells #[.int .i64 1] 3)
  have hs1 : IdxR (w1.alloc (.cells #[.int .i64 1] 3)) (.slice (some ⟨w1.heap.size, 0, none⟩) 1 1) [1] := by
    refine ⟨_, 1, rfl, Nat.le_refl _, fun j hj => ⟨_, _, rfl, ?_⟩⟩
    obtain rfl : j = 0 := by simp at hj; omega
    rw [cell_of_row _ _ _ _ _ _ (heap_alloc_new w1 _)]; rfl
  have C4 := Lib.hid (C2.out _ hb2 _ hs1)
  have HB2 := Lib.hid hb2
  clear hs1 hb2 C2
  generalize w1.alloc (.cells #[.int .i64 1] 3) = w2 at *
  refine (C4.out).mono ?_
  clear C4
  rintro e w3 ⟨rfl, hb3⟩
  have HB3 := Lib.hid (HB2.out.trans (hb3.mono HB2.out.size))
  clear hb3
  have C5 := Lib.hid (C3.out w3 HB3.out)
  clear C3
  go_wp2_with fail
  refine (C5.out).mono ?_
  clear C5
  rintro e w4 ⟨rfl, hb4⟩
  have HB4 := Lib.hid (HB3.out.trans (hb4.mono HB3.out.size))
  clear hb4
  go_wp2_with fail
  go_ret
  exact ⟨rfl, HB0.out.trans (HB4.out.mono HB0.out.size)⟩
end Go.Proofs.YtgeldpkopolnfaaDoor
