/- The reference's SameInts of equal lists. -/
import Derived.Test.YtogcpjkgliijmaaRChanged
namespace Go.Proofs.Ytogcpjkgliijmaa
open Go.RowKit

/-- What a slice of numbers reads as. -/
def RdN (w : World) (v : Value) (cs : List Nat) : Prop := ∃ (p : Option Addr) (c : Nat), v = .slice p cs.length c ∧ (cs = [] ∨ ∃ b, p = some ⟨b, 0, none⟩ ∧ ∀ i (h : i < cs.length), w.cell? ⟨b, i, none⟩ = some (.int .i64 (cs[i] : Nat)))

theorem rdN_of_own {w : World} {base : Nat} {v : Value} {cs : List Nat} (h : w.ownsRow base 3 1 v cs.length (nats cs)) : RdN w v cs := by
  rcases h.2 with ⟨hv, h0⟩ | ⟨b, cap, cur, hv, r⟩
  · exact ⟨none, 0, by rw [hv, h0], .inl (List.length_eq_zero_iff.1 h0)⟩
  · refine ⟨some ⟨b, 0, none⟩, cap, hv, .inr ⟨b, rfl, fun i hi => ?_⟩⟩
    subst hv
    rw [World.ownsRow.cellAt ⟨h.1, .inr ⟨b, cap, cur, rfl, r⟩⟩ i (by omega)]
    simp [nats, hi]

theorem RdN.mono {w W : World} {v : Value} {cs : List Nat} (h : RdN w v cs) (hb : Below w.heap.size w W) : RdN W v cs := by
  obtain ⟨p, c, hv, h⟩ := h
  refine ⟨p, c, hv, ?_⟩
  rcases h with h | ⟨b, hp, h⟩
  · exact .inl h
  · exact .inr ⟨b, hp, fun i hi => cell_later hb (h i hi)⟩

set_option maxHeartbeats 1000000 in
theorem sameints_same (w : World) {v u : Value} {cs : List Nat} (hl : cs.length ≤ 1000) (hv : RdN w v cs) (hu : RdN w u cs) :
    Calls Try.prog 34 #[v, u] w fun e w' => e = .returned (.bool true) ∧ Below w.heap.size w w' := by
  obtain ⟨p, c, rfl, hp⟩ := hv
  obtain ⟨q, d, rfl, hq⟩ := hu
  have HP := Lib.hid hp; have HQ := Lib.hid hq
  clear hp hq
  go_enter Try.func34, Try.ntmps34
  go_wp2_with fail
  go_loopw [13] (fun i wr => ∃ k : Nat, k ≤ cs.length ∧ i = .int .i64 k ∧ ∃ n, wr = w.drewN n) (fun i _ => cs.length - (intOf i).toNat)
  case atStart => exact ⟨0, Nat.zero_le _, rfl, 0, rfl⟩
  case round =>
    obtain ⟨k, hk, rfl, n, rfl⟩ := hrel
    by_cases hlt : k < cs.length
    · rcases HP.out with h | ⟨b, hp, ra⟩
      · subst h; simp at hlt
      rcases HQ.out with h | ⟨b2, hq, rb⟩
      · subst h; simp at hlt
      subst hp; subst hq
      have a0 := ra k hlt
      have b0 := rb k hlt
      have hi0 : (0 : Int) ≤ (k : Int) := by omega
      have hi1 : (k : Int) < (cs.length : Int) := by omega
      clear ra rb
      go_wp2_with fail
      go_quiet (fail)
      go_wp2_with fail
      go_roundw
      case rel => exact ⟨k + 1, by omega, by go_num, _, rfl⟩
      case measure => simp [intOf]; omega
    · go_wp2_with fail
      go_ret
      exact ⟨rfl, below_drewN (Below.refl _ _) _⟩
end Go.Proofs.Ytogcpjkgliijmaa
