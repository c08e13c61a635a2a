/- slices.Grow of nil, slices.Concat of two rows. -/
import Derived.Test.YtcppmkimfoajaaaNdG
import Derived.Lib.AppendZerosOnto
namespace Go.Proofs.Ytcppmkimfoajaaa
open Go.RowKit
set_option linter.all false

def OwnP (base : Nat) (L : List Rq) (w : World) (e : Ending) (w' : World) : Prop := ∃ v, e = .returned v ∧ w'.ownsRow base 87 2 v L.length (flatR L) ∧ Below w.heap.size w w'

set_option maxRecDepth 100000 in
set_option maxHeartbeats 2000000 in
theorem grow_nil (n : Nat) (hn : n ≤ 1000) (w : World) : Calls Try.prog 62 #[.slice none 0 0, .int .i64 (n : Int)] w (OwnP w.heap.size [] w) := by
  obtain ⟨i0, hi, hz0, hz1, hz2⟩ := info_parts info87
  have s0 : IntKind.i64.wrap (0 - 0) = 0 := rfl
  have s1 : IntKind.i64.wrap ((n : Int) - 0) = n := by rw [IntWalk.i64_in _ (by omega)]; omega
  have hnn : ¬ (n : Int) < 0 := by omega
  rcases Nat.eq_zero_or_pos n with h0 | h0
  · subst h0
    clear hi hz0 hz1 hz2
    go_enter Try.func62, Try.ntmps62
    go_wp2_with fail
    go_ret
    exact ⟨_, rfl, World.ownsRow_nil _ _ _ _, Below.refl _ _⟩
  · have hn0 : (0 : Int) < (n : Int) := by omega
    have hd0 : decide (0 < n) = true := decide_eq_true h0
    obtain ⟨G, hG⟩ : ∃ G, G = grownCap w n 0 87 := ⟨_, rfl⟩
    have hGn : n ≤ G := by have := grownCap_ge w n 0 87; omega
    have hGm : G ≤ maxLen := by rw [hG]; exact grownCap_le_maxLen w _ _ _ (by unfold maxLen; omega)
    obtain ⟨cs, hcs⟩ : ∃ cs, (Builtin.zeroCells #[Value.int IntKind.i64 0, Value.int IntKind.i64 0] n ++ Builtin.zeroCells #[Value.int IntKind.i64 0, Value.int IntKind.i64 0] (G - n)) = cs := ⟨_, rfl⟩
    have hsz : cs.size = G * 2 := by
      rw [← hcs]
      simp only [Array.size_append, size_zeroCells]
      show n * 2 + (G - n) * 2 = G * 2
      omega
    have hGq : (Question.appendCap n 0 87).cut (w.tape w.drawn (Question.appendCap n 0 87)) = G := by rw [hG]; rfl
    have hown : (w.drew.alloc (.cells cs 87)).ownsRow w.heap.size 87 2 (.slice (some ⟨w.heap.size, 0, none⟩) 0 G) 0 (flatR []) :=
      ⟨rfl, .inr ⟨w.heap.size, G, cs, rfl, Nat.le_refl _, heap_alloc_new w.drew _, Nat.zero_le _, hGm, hsz, rfl⟩⟩
    have hbl : Below w.heap.size w (w.drew.alloc (.cells cs 87)) := ((Below.refl w.heap.size w).drew).alloc (Nat.le_refl _) _
    have hb : Try.t87.bytes = 16 := rfl
    have hf : Builtin.nextslicecap n 0 * Try.t87.bytes ≤ 281474976710656 := by
      rw [hb]; exact growslice_fits (by omega) (by omega)
    have hf2 : (n : Int) * (Try.t87.bytes : Int) ≤ 281474976710656 := by rw [hb]; omega
    have HO := Lib.hid hown; have HB := Lib.hid hbl; have HQ := Lib.hid hGq; have HC := Lib.hid hcs
    clear hown hbl hcs hi hz0 hz1 hz2 hG hsz hGq hb
    have hG0 : (0 : Int) ≤ (G : Int) := by omega
    go_enter Try.func62, Try.ntmps62
    go_wp2_with fail
    go_ret
    have hq := HQ.out
    have hc := HC.out
    simp only [hq]
    rw [hc]
    exact ⟨_, rfl, HO.out, HB.out⟩
end Go.Proofs.Ytcppmkimfoajaaa
