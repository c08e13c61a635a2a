/- slices.Compact of requirements. -/
import Derived.Test.YtcppmkimfoajaaaNdI
import Derived.Lib.SlicesCompact
import Derived.Shelf.GgSortFunc.RowK
import Derived.Laws.IdiomCopy
namespace Go.Proofs.Ytcppmkimfoajaaa
open Go.RowKit
set_option linter.all false

theorem run_clear_cells {P : Program} (w : World) (t e ty : TypeId) (z : Value) (ht : P.underlying t = some (.slice e)) (hv : ∀ w, (zeroValue e).run P w = .ok z w) (b o n c : Nat) (hn : 0 < n) (vs : List Value) (hvs : (Builtin.zeroCells z.cells n).toList = vs) (h1 : ∀ v ∈ vs, v.oneCell' = true)
    (hc : ∀ j, j < vs.length → (w.cell? ⟨b, o + j, none⟩).isSome = true) (hf : ∀ j, j < vs.length → w.frozen? ⟨b, o + j, none⟩ = false) :
    (Builtin.clear_ #[t] ty #[.slice (some ⟨b, o, none⟩) n c]).run P w = .ok (.tuple #[]) (w.setCells b o vs) := by
  have hst := run_storeCells_cells (P := P) b o vs 0 w (by simpa using hc) (by simpa using hf) h1
  simp only [Nat.add_zero] at hst
  obtain ⟨m, rfl⟩ : ∃ m, n = m + 1 := ⟨n - 1, by omega⟩
  simp [Builtin.clear_, run_underlying ht, hv, hvs, hst]

def encR (x : Rq) : List Value := [.int .i64 x.1, .int .i64 x.2]
/-- A row of requirements in the block q, writable. -/
def RowR (W : World) (q : Nat) (d : Array Rq) : Prop := Go.Sort.HoldsK encR 2 W q 0 d
theorem RowR.c {W : World} {q : Nat} {d : Array Rq} (h : RowR W q d) (i : Nat) (hi : i < d.size) : W.cell? ⟨q, i * 2, none⟩ = some (.int .i64 d[i]!.1) ∧ W.cell? ⟨q, i * 2 + 1, none⟩ = some (.int .i64 d[i]!.2) ∧ W.frozen? ⟨q, i * 2, none⟩ = false ∧ W.frozen? ⟨q, i * 2 + 1, none⟩ = false := by
  have h0 := Go.Sort.HoldsK.cell h hi (show 0 < 2 by omega)
  have h1 := Go.Sort.HoldsK.cell h hi (show 1 < 2 by omega)
  simp only [Nat.zero_add, Nat.add_zero] at h0 h1
  exact ⟨h0.1, h1.1, h0.2, h1.2⟩
theorem RowR.drewN {W : World} {q : Nat} {d : Array Rq} (h : RowR W q d) (n : Nat) : RowR (W.drewN n) q d := h
theorem RowR.reqs {W : World} {q : Nat} {d : Array Rq} {L : List Rq} (h : RowR W q d) (hl : L.length ≤ d.size) (he : ∀ j, j < L.length → L[j]? = some d[j]!) : ReqsAt W (some ⟨q, 0, none⟩) L := fun j hj => by
  obtain ⟨c0, c1, _⟩ := h.c j (by omega)
  refine ⟨q, 0, rfl, ?_, ?_⟩
  · rw [Nat.zero_add, c0, List.getD, he j hj]; rfl
  · rw [Nat.zero_add, c1, List.getD, he j hj]; rfl
end Go.Proofs.Ytcppmkimfoajaaa
