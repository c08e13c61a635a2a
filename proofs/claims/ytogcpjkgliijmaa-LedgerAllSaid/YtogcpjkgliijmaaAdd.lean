/- slices.Clone of decisions. -/
import Derived.Test.YtogcpjkgliijmaaLedgerW
import Derived.Laws.OwnMore
namespace Go.Proofs.Ytogcpjkgliijmaa
open Go.RowKit

/-- What Clone answers: a row of the call's own, or nil. -/
def Cloned (w : World) (l : List Dec) (e : Ending) (w' : World) : Prop :=
  ∃ v, e = .returned v ∧ w'.ownsRow w.heap.size 27 5 v l.length (flat l) ∧ Below w.heap.size w w'

theorem eql_nil (w : World) (a : Option Addr) (n c n' c' : Nat) : (binOp .eql 23 (.slice a n c) (.slice none n' c')).run Try.prog w = .ok (.bool a.isNone) w :=
  Lib.run_eql_slice_nil w _ _ a n c n' c' Try.underlying23

set_option maxHeartbeats 1000000 in
theorem clone_nil (n c : Nat) (w : World) : Calls Try.prog 57 #[.slice none n c] w (Cloned w []) := by
  have q := eql_nil
  go_enter Try.func57, Try.ntmps57
  go_wp2_with fail
  go_ret
  exact ⟨_, rfl, World.ownsRow_nil _ _ _ _, Below.refl _ _⟩

set_option maxHeartbeats 1000000 in
theorem clone_some (w : World) (a : Addr) (c : Nat) (l : List Dec) (hr : ∀ W, Below w.heap.size w W → ∀ j u, (flat l)[j]? = some u → W.cell? (a.add j) = some u) (hl : l.length ≤ 1000) :
    Calls Try.prog 57 #[.slice (some a) l.length c] w (Cloned w l) := by
  obtain ⟨i0, hi, hz0, hz1, hz2⟩ := info_parts info27
  have q := eql_nil
  have hnew := World.ownsRow_lit (base := w.heap.size) (e := 27) (size := 5) w #[] 0 (by omega) (by unfold maxLen; omega) rfl
  have hb0 := (Below.refl w.heap.size w).alloc (Nat.le_refl _) (.cells #[] 27)
  have HSRC := Lib.hid (hr _ hb0); clear hr
  have HN := Lib.hid hnew; clear hnew
  have HL := Lib.hid (flat_len l)
  go_enter Try.func57, Try.ntmps57
  go_wp2_with (at_builtin; refine wpList_append_own _ rfl _ _ 23 rfl w.heap.size 27 i0 (.agg #[.int .i64 0, .int .i64 0, .int .i64 0, .int .i64 0, .int .i64 0]) 5 40 Try.underlying23 hi hz0 hz1 hz2 rfl (by decide) _ _ _ rfl HN.out a l.length c (flat l) rfl HL.out HSRC.out (flat_one l) (by unfold maxLen; omega) (by omega) (by simp) ?_; intro v' w1 hown' hgrow _)
  have hg2 : (w.alloc (.cells #[] 27)).grownBy w1 (some w.heap.size) := hgrow
  go_ret
  simp only [Nat.zero_add, Array.toList_empty, List.nil_append] at hown'
  exact ⟨_, rfl, hown', hb0.grown hg2 (by simp) (by intro k hk; cases hk; omega)⟩

theorem clone_any (w : World) {p : Option Addr} {c : Nat} (l : List Dec) (hl : l.length ≤ 1000) (hr : l = [] ∨ ∃ b o, p = some ⟨b, o, none⟩ ∧ Row w b o l) :
    Calls Try.prog 57 #[.slice p l.length c] w (Cloned w l) := by
  cases p with
  | none =>
    rcases hr with rfl | ⟨b, o, hp, _⟩
    · exact clone_nil 0 c w
    · cases hp
  | some a =>
    refine clone_some w a c l ?_ hl
    intro W hW
    rcases hr with rfl | ⟨b, o, hp, h⟩
    · intro j u hu; simp [flat] at hu
    · injection hp with hp
      subst hp
      exact cells_of_row (h.mono hW)
end Go.Proofs.Ytogcpjkgliijmaa
