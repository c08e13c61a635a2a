/- AsList of both, of an element that is no list; the specification's Same of two elements without elements. -/
import Derived.Test.YtppodhbfjnekcaaLook
import Derived.Test.YtppodhbfjnekcaaRefAsBool
namespace Go.Proofs.Ytppodhbfjnekcaa
open Go.RowKit

theorem leaves_one (w : World) (n : Nat) (hn : w.heap.size = n) (x : Leaf) : Leaves (w.alloc (.cells #[.int .i64 x.t, .slice x.sp x.ll x.cl, .bool x.nb, .slice x.ep 0 x.ec] 30)) n 0 [x] := by
  subst hn
  intro i hi
  have : i = 0 := by simp at hi; omega
  subst this
  constructor <;> simp

set_option maxRecDepth 100000 in
set_option maxHeartbeats 1000000 in
theorem asList_der {t : Int} {nb : Bool} {sp ep : Option Addr} {ll cl ec : Nat} (w : World) (ht : (t != 48) = true) (hs : ll ≤ 2147483000) :
    Calls Try.prog 50 #[.agg #[.int .i64 t, .slice sp ll cl, .bool nb, .slice ep 0 ec]] w fun e w' => e = .returned (.tuple #[.slice none 0 0, .int .i64 1]) ∧ Below w.heap.size w w' := by
  have hlook := fun W b o ls n h1 h2 h3 h4 h5 => look_leaves b o 1 ls W n h1 h2 h3 h4 h5
  have hls := leaves_one (w.alloc (.cells #[.int .i64 t, .slice sp ll cl, .bool nb, .slice ep 0 ec] 30)) (w.heap.size + 1) (by simp) ⟨t, sp, ll, cl, nb, ep, ec⟩
  have hlk := look_leaves (w.heap.size + 1) 0 1 [⟨t, sp, ll, cl, nb, ep, ec⟩] _ 1 rfl (by omega) hls ⟨_, _, by have := heap_alloc_new (w.alloc (.cells #[.int .i64 t, .slice sp ll cl, .bool nb, .slice ep 0 ec] 30)) (.cells #[.int .i64 t, .slice sp ll cl, .bool nb, .slice ep 0 ec] 30); rwa [World.size_alloc] at this⟩ (by simp [sizeL]; omega)
  go_enter Try.func50, Try.ntmps50
  go_wp2_with fail
  refine hlk.mono ?_
  rintro e w1 ⟨rfl, hb1⟩
  obtain ⟨hc1, hf1⟩ := bcell hb1
  cases hsh : allShape [(⟨t, sp, ll, cl, nb, ep, ec⟩ : Leaf)]
  all_goals
    clear hsh
    go_wp2
    go_ret2
    exact ⟨rfl, below_step (((Below.refl _ _).alloc (Nat.le_refl _) _).alloc (by simp) _) hb1⟩

set_option maxRecDepth 100000 in
set_option maxHeartbeats 1000000 in
theorem asList_ref {t : Int} {nb : Bool} {sv ev : Value} (w : World) (ht : (t != 48) = true) :
    Calls Try.prog 51 #[.agg #[.int .i64 t, sv, .bool nb, ev]] w fun e w' => e = .returned (.tuple #[.slice none 0 0, .int .i64 1]) ∧ Below w.heap.size w w' := by
  go_enter Try.func51, Try.ntmps51
  go_wp2
  go_ret2
  exact ⟨rfl, (Below.refl _ _).alloc (Nat.le_refl _) _⟩

set_option maxHeartbeats 1000000 in
theorem sameAll_nil {pa pb : Option Addr} {ca cb : Nat} (w : World) :
    Calls Try.prog 44 #[.slice pa 0 ca, .slice pb 0 cb] w fun e w' => e = .returned (.bool true) ∧ w' = w := by
  go_enter Try.func44, Try.ntmps44
  go_wp2_with fail
  refine wp_loop_rounds 1 ?_; rw [rounds_succ]
  go_wp2
  go_ret
  exact ⟨rfl, rfl⟩

set_option maxRecDepth 100000 in
set_option maxHeartbeats 1000000 in
theorem same_ref_yes {t : Int} {nb : Bool} {va vb : Value} {l : List UInt8} {pa pb : Option Addr} {ca cb : Nat} (w : World) (ha : Bts w va l) (hb : Bts w vb l) :
    Calls Try.prog 15 #[.agg #[.int .i64 t, va, .bool nb, .slice pa 0 ca], .agg #[.int .i64 t, vb, .bool nb, .slice pb 0 cb]] w fun e w' => e = .returned (.bool true) ∧ Below w.heap.size w w' := by
  have hW := ((Below.refl w.heap.size w).alloc (Nat.le_refl _) (.cells #[.int .i64 t, va, .bool nb, .slice pa 0 ca] 30)).alloc (by simp) (.cells #[.int .i64 t, vb, .bool nb, .slice pb 0 cb] 30)
  have c1 := (ha.mono hW).convert (P := Try.prog) 27 5 9 (by kernel_rfl) (by kernel_rfl) (by kernel_rfl)
  have c2 := (hb.mono hW).convert (P := Try.prog) 27 5 9 (by kernel_rfl) (by kernel_rfl) (by kernel_rfl)
  clear ha hb
  go_enter Try.func15, Try.ntmps15
  go_wp2_with (go_at_call 44; refine (sameAll_nil _).mono ?_; rintro e w' ⟨rfl, rfl⟩)
  go_ret
  exact ⟨rfl, hW⟩
end Go.Proofs.Ytppodhbfjnekcaa
