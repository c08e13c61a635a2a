/- A slice of numbers that came in. -/
import Derived.Test.YtgeldpkopolnfaaDoorDice
import Derived.ProofKit
import Derived.OpenShut
namespace Go.Proofs.YtgeldpkopolnfaaDoor
open Go.RowKit

/-- It is nil, or leads to a row of numbers, each fitting its kind. -/
def IsRow (k : IntKind) (w : World) (a : Option Addr) (len cap : Nat) (zs : List Int) : Prop :=
  (a = none ∧ len = 0 ∧ cap = 0 ∧ zs = []) ∨
  ∃ x, a = some x ∧ len ≤ cap ∧ cap ≤ maxLen ∧ zs.length = cap ∧ (∀ i, i < zs.length → w.cell? (x.add i) = some (.int k (zs.getD i 0))) ∧ ∀ n ∈ zs, (Lit.int k n).wf = true

theorem ints_of_row {w : World} {a : Option Addr} {len cap : Nat} {zs : List Int} (h : IsRow .i64 w a len cap zs) : Ints w w.heap.size a len := by
  rcases h with ⟨_, h0, _⟩ | ⟨x, rfl, hl, hm, hz, hc, hw⟩
  · exact .inl h0
  · rcases Nat.eq_zero_or_pos len with h0 | h0
    · exact .inl h0
    · have hx : x.spot = none := by
        have := hc 0 (by omega)
        unfold World.cell? at this
        split at this
        · cases hs : x.spot with
          | none => rfl
          | some s => unfold Addr.add at this; split at this <;> simp_all
        · cases this
      obtain ⟨b, o, s⟩ := x
      simp only at hx; subst hx
      have hadd : ∀ j, (⟨b, o, none⟩ : Addr).add j = ⟨b, o + j, none⟩ := by intro j; unfold Addr.add; split <;> simp_all
      have hb : b < w.heap.size := by
        have := World.block_lt_of_cell? _ _ (hc 0 (by omega))
        rw [hadd] at this; exact this
      refine .inr ⟨b, o, rfl, hb, fun j hj => ?_⟩
      have h1 := hc j (by omega)
      rw [hadd] at h1
      have hj2 : j < zs.length := by omega
      have hwf := hw _ (List.getElem_mem hj2)
      simp only [Lit.wf, IntKind.min, IntKind.max, IntKind.signed, IntKind.bits, Bool.and_eq_true, decide_eq_true_eq] at hwf
      simp at hwf
      have e1 : zs.getD j 0 = zs[j] := by simp [List.getD, hj2]
      rw [e1] at h1
      exact ⟨_, h1, by omega, by omega⟩

theorem fits_byte {n : Int} (h : (Lit.int .u8 n).wf = true) : 0 ≤ n ∧ n ≤ 255 := by
  simp only [Lit.wf, IntKind.min, IntKind.max, IntKind.signed, IntKind.bits, Bool.and_eq_true, decide_eq_true_eq] at h
  simpa using h
end Go.Proofs.YtgeldpkopolnfaaDoor
