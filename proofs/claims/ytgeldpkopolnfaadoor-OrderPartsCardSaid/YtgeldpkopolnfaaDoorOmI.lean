/- all, indices: the iterator over a set, and what it lists. -/
import Derived.RangeFuncNested
import Derived.RangeFuncBound
import Derived.RangeFuncCalls
import Derived.RangeFuncLeaves
import Derived.RangeFuncBox
import Derived.Shelf.Abstract
import Derived.WalkKit
import Derived.OwnWalkIn
import Derived.TacticsInMore
import Derived.LoopNIn
import Derived.LoopIn
import Derived.Maps.OwnIn
import Derived.Maps.AppendAt
import Derived.Test.YtgeldpkopolnfaaDoorOmC
namespace Go.Proofs.YtgeldpkopolnfaaDoor
open Go.RowKit Go.Shelf
set_option linter.all false
attribute [local go_sem] Oper.semAt_some

theorem Deb.below {W W' : World} {n : Nat} (h : Deb W) (hb : Below n W W') (hn : 1 ≤ n) : Deb W' :=
  ⟨Nat.lt_of_lt_of_le h.1 hb.size, fun k hk => (hb.cell (p := ⟨0, k, none⟩) hn).trans (h.2 k hk)⟩
/-- An index of a set. -/
abbrev Ix (s : Nat) := { i : Nat // i ∈ idx s }
def ixs (s : Nat) : List (Ix s) := (idx s).attach
theorem ixs_val (s : Nat) : (ixs s).map (·.1) = idx s := by unfold ixs; simp
theorem u32_least (k m : Nat) (h : 2 ^ (k + 1) * m + 2 ^ k < 4294967296) : bits .and .u32 ((2 ^ (k + 1) * m + 2 ^ k : Nat) : Int) ((2 ^ (k + 1) * m + 2 ^ k - 1 : Nat) : Int) = ((2 ^ (k + 1) * m : Nat) : Int) := by
  rw [u32_and_nat _ _ h (by omega), least_and]

set_option maxRecDepth 100000 in
set_option maxHeartbeats 2000000 in
theorem all1_in (n : Nat) (hn : 1 ≤ n) (l Bn n₀ : Nat) (hn₀ : 1 ≤ n₀) (s : Nat) (hs : s < 16777216) (J Jx : List (Ix s) → World → Prop)
    (hY : ∀ pre x W, J pre W → pre.length < (idx s).length → YieldAt Fence.wide (n - 1) Tryd.prog l #[.int .i64 ((x.1 : Nat) : Int)] W fun e W' =>
      (e = .returned (.bool true) ∧ J (pre ++ [x]) W' ∧ Below n₀ W W') ∨ (e = .returned (.bool false) ∧ Jx (pre ++ [x]) W'))
    (W : World) (hBn : W.cell? ⟨Bn, 0, none⟩ = some (.int .u32 (s : Int))) (hT : Deb W) (h0 : J [] W) :
    CallsIn Fence.wide n Tryd.prog 44 #[.func (.yield l) #[] #[], .pointer (some ⟨Bn, 0, none⟩)] W fun e W' => (∃ v, e = .returned v) ∧
      ((∃ ys, ys = ixs s ∧ J ys W') ∨ (∃ pre, pre <+: ixs s ∧ Jx pre W')) := by
  have hvs := ixs_val s
  have hlen : (ixs s).length = (idx s).length := by rw [← hvs, List.length_map]
  refine callsIn_of_wp Tryd.func44 rfl trivial ?_ rfl
  simp only [Tryd.ntmps44, List.size_toArray, List.length_cons, List.length_nil, Nat.reduceAdd, Nat.reduceSub, Array.replicate_succ, Array.replicate_zero, List.push_toArray, List.append_toArray, List.nil_append, List.cons_append]
  gi_wp2
  gi_loopw [3] (fun p wr => ∃ (pre rest : List (Ix s)) (y : Nat), p = .int .u32 (y : Int) ∧ y < 16777216 ∧ ixs s = pre ++ rest ∧ rest.map (·.1) = idx y ∧ J pre wr ∧ Deb wr) (fun p _ => (intOf p).toNat)
  case atStart => exact ⟨[], ixs s, s, rfl, hs, rfl, hvs, h0, hT⟩
  case round =>
    obtain ⟨pre, rest, y, rfl, hy24, hx, hr, hJs, hT⟩ := hrel
    rcases Nat.eq_zero_or_pos y with rfl | hy0
    · rw [idx_zero, List.map_eq_nil_iff] at hr
      subst hr
      gi_wp2
      go_end0
      exact ⟨⟨_, rfl⟩, .inl ⟨pre, by simp [hx], hJs⟩⟩
    · obtain ⟨k, m, hym⟩ := odd_part y hy0
      have hid := idx_cons k m (by rw [← hym]; exact hy24)
      rw [← hym] at hid
      rw [hid] at hr
      cases rest with
      | nil => cases hr
      | cons x rest =>
        rw [List.map_cons] at hr
        injection hr with hr1 hr2
        have hTZ := tz_any k m (by rw [← hym]; omega) wr hT
        have hle := u32_least k m (by rw [← hym]; omega)
        rw [← hym] at hTZ hle
        have hz : 2 ^ (k + 1) * m < y := by have := Nat.two_pow_pos k; omega
        generalize 2 ^ (k + 1) * m = z at *
        have hk24 := (idx_lt x.2).1
        rw [hr1] at hk24
        have hsub : IntKind.u32.wrap ((y : Int) - 1) = ((y - 1 : Nat) : Int) := by rw [IntKind.wrap_u32]; omega
        have hb0 : ((y : Int) == 0) = false := by simp; omega
        have hb1 : ¬ (y : Int) = 0 := by omega
        have hb2 : ¬ y = 0 := by omega
        obtain ⟨fn, tmps, assign, body, hyy, hR⟩ := hY pre x wr hJs (by rw [← hlen, hx]; simp)
        rw [hr1] at hyy
        have HTZ := Lib.hid hTZ; clear hTZ hym hid
        gi_wp2_with (refine ⟨trivial, ?_⟩; gi_at_call 45; refine (callsIn_wide.2 HTZ.out).mono ?_; rintro e w' ⟨rfl, rfl⟩)
        refine hR.mono ?_
        rintro e W3 (⟨rfl, hJ3, hk3⟩ | ⟨rfl, hJx3⟩)
        · gi_wp2
          go_roundw
          case rel => exact ⟨pre ++ [x], rest, z, rfl, by omega, by simp [hx], hr2, hJ3, hT.below hk3 hn₀⟩
          case measure => simp [intOf]; omega
        · gi_wp2
          refine bodyPost_ret (results_none rfl _ _ _) rfl ?_
          exact ⟨⟨_, rfl⟩, .inr ⟨pre ++ [x], ⟨rest, by simp [hx]⟩, hJx3⟩⟩

set_option maxHeartbeats 1000000 in
theorem all_in (n : Nat) (s : Nat) (w : World) :
    CallsIn Fence.wide n Tryd.prog 32 #[.int .u32 (s : Int)] w fun e w' => e = .returned (.func (.func 44) #[] #[.pointer (some ⟨w.heap.size, 0, none⟩)]) ∧ w' = w.alloc (.cells #[.int .u32 (s : Int)] 57) := by
  refine callsIn_of_wp Tryd.func32 rfl trivial ?_ rfl
  simp only [Tryd.ntmps32, List.size_toArray, List.length_cons, List.length_nil, Nat.reduceAdd, Nat.reduceSub, Array.replicate_succ, Array.replicate_zero, List.push_toArray, List.append_toArray, List.nil_append, List.cons_append]
  gi_wp2
  go_ret
  exact ⟨rfl, rfl⟩

theorem all_stops (n : Nat) (hn : 1 ≤ n) (Bn n₀ : Nat) (h1 : 1 ≤ n₀) (s : Nat) (hs : s < 16777216) (w : World) (hBn : Bn < w.heap.size) (hn₀ : n₀ ≤ w.heap.size)
    (hc : w.cell? ⟨Bn, 0, none⟩ = some (.int .u32 (s : Int))) (hT : Deb w) :
    SeqStopsK Fence.wide n Tryd.prog 44 #[.pointer (some ⟨Bn, 0, none⟩)] (fun x : Ix s => #[Value.int .i64 ((x.1 : Nat) : Int)]) (Below n₀) (fun ys => ys = ixs s) (fun pre => pre <+: ixs s) (idx s).length w := fun l J Jx W hW _ _ hY h0 =>
  all1_in n hn l Bn n₀ h1 s hs J Jx hY W ((hW.cell (p := ⟨Bn, 0, none⟩) hBn).trans hc) (hT.below hW (Nat.le_trans h1 hn₀)) h0
end Go.Proofs.YtgeldpkopolnfaaDoor
