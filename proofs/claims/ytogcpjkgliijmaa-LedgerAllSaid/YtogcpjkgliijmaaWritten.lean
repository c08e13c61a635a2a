/- The reference's Append; what was written. -/
import Derived.Test.YtogcpjkgliijmaaRefJ
import Derived.Test.YtogcpjkgliijmaaEq
namespace Go.Proofs.Ytogcpjkgliijmaa
open Go.RowKit

theorem ba_size (l : List UInt8) : (⟨l.toArray⟩ : ByteArray).size = l.length := by show l.toArray.size = _; simp

set_option maxHeartbeats 1000000 in
theorem refappend_ok (s : List UInt8) (d : Dec) (w : World) (h : d.ok = true) (hs : s.length ≤ 60000) :
    Calls Try.prog 43 #[.string ⟨s.toArray⟩, d.val] w fun e w' => e = .returned (.tuple #[.string ⟨(s ++ encS d).toArray⟩, .int .i64 0]) ∧ Below w.heap.size w w' := by
  have cE := fun W => refencode_ok d W h
  unfold Dec.val at cE ⊢
  have CE := Lib.hid cE
  have t1 : (encS d).length = 12 := encS_len d
  have h2 : decide ((65536 : Int) < (s.length : Int) + 12) = false := by rw [decide_eq_false_iff_not]; omega
  clear cE h
  go_enter Try.func43, Try.ntmps43
  go_wp2_with fail
  refine (CE.out _).mono ?_; rintro e w1 ⟨rfl, hb⟩
  have hb2 := below_of_alloc hb
  have HB := Lib.hid hb2
  clear hb hb2 CE
  go_wp2_with fail
  go_ret2
  exact ⟨by rw [← ba_append]; rfl, HB.out⟩

set_option maxHeartbeats 4000000 in
theorem written_any (w : World) {p : Option Addr} {c : Nat} (l : List Dec) (hr : Reads w p l) (hg : ∀ i (h : i < l.length), l[i].ok = true) (hl : l.length ≤ 100) :
    Calls Try.prog 39 #[.agg #[.slice p l.length c]] w fun e w' => e = .returned (.string ⟨(flatE l).toArray⟩) ∧ Below w.heap.size w w' := by
  have hb0 : Below w.heap.size w (w.alloc (.cells #[.slice p l.length c] 25)) := (Below.refl _ _).alloc (Nat.le_refl _) _
  have HR := Lib.hid hr; have HG := Lib.hid hg; have HB0 := Lib.hid hb0
  clear hr hg hb0
  go_enter Try.func39, Try.ntmps39
  go_wp2_with fail
  go_loopw [3, 9] (fun s i wr => ∃ k : Nat, k ≤ l.length ∧ i = .int .i64 k ∧ s = .string ⟨(flatE (l.take k)).toArray⟩ ∧ Below w.heap.size w wr) (fun _ i _ => l.length - (intOf i).toNat)
  case atStart => exact ⟨0, Nat.zero_le _, rfl, rfl, HB0.out⟩
  case round =>
    obtain ⟨k, hk, rfl, rfl, hb⟩ := hrel
    by_cases hlt : k < l.length
    · rcases HR.out with h | ⟨b, o, hp, hrow⟩
      · subst h; simp at hlt
      subst hp
      obtain ⟨c0, c1, c2, c3, c4⟩ := (hrow.mono hb) k hlt
      have hok := HG.out k hlt
      have hnx : flatE (l.take (k + 1)) = flatE (l.take k) ++ encS l[k] := by rw [List.take_succ_eq_append_getElem hlt, flatE_snoc]
      have hlen : (flatE (l.take k)).length ≤ 60000 := by rw [flatE_len]; simp; omega
      have cA := fun W => refappend_ok (flatE (l.take k)) l[k] W hok hlen
      rw [← hnx] at cA
      unfold Dec.val at cA
      have CA := Lib.hid cA
      have hb1 : Below wr.heap.size wr (wr.alloc (.cells #[.int .i64 l[k].day, .int .i64 l[k].known, .int .i64 l[k].kind, .int .i64 l[k].subj, .int .i64 l[k].value] 27)) := (Below.refl _ _).alloc (Nat.le_refl _) _
      have HB1 := Lib.hid (below_step hb hb1)
      clear cA hnx hlen hrow hok hb hb1
      go_wp2_with fail
      refine (CA.out _).mono ?_; rintro e w1 ⟨rfl, hb2⟩
      have HB2 := Lib.hid (below_step HB1.out hb2)
      clear hb2 CA
      go_wp2_with fail
      go_roundw
      case rel => exact ⟨k + 1, by omega, by go_num, rfl, HB2.out⟩
      case measure => simp [intOf]; omega
    · have hkl : k = l.length := by omega
      have he : l.take k = l := by rw [hkl, List.take_length]
      rw [he]
      have HB := Lib.hid hb
      clear he hb
      go_wp2_with fail
      go_ret
      exact ⟨rfl, HB.out⟩
end Go.Proofs.Ytogcpjkgliijmaa
