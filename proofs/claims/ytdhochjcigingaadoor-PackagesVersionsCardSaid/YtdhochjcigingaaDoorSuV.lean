/- The sixteen suites in a row; Suite, its results written out. -/
import Derived.Test.YtdhochjcigingaaDoorAwake
namespace Go.Proofs.YtdhochjcigingaaDoor
open Go.RowKit
set_option linter.all false

/-- The sixteen suites lie in a row. -/
def SuV (W : World) (b : Nat) : Prop := ∀ o, o < 192 → W.cell? ⟨b, o, none⟩ = (suitesC 16)[o]?
theorem SuV.below {W W' : World} {b : Nat} (h : SuV W b) (hb : Below W.heap.size W W') : SuV W' b := fun o ho => by
  have e := h o ho
  have hl : (suitesC 16).length = 192 := by decide +kernel
  obtain ⟨v, hv⟩ : ∃ v, (suitesC 16)[o]? = some v := ⟨_, List.getElem?_eq_getElem (by omega)⟩
  rw [hv] at e ⊢
  exact (hb.cell (p := ⟨b, o, none⟩) (block_lt_of_cell e)).trans e

theorem suitesC_len (n : Nat) : (suitesC n).length = n * 12 := by
  induction n with
  | zero => rfl
  | succ n ih => simp only [suitesC, List.length_append, ih, stC, List.length_cons, List.length_nil]; omega
theorem suitesC_get (n i k : Nat) (hi : i < n) (hk : k < 12) : (suitesC n)[i * 12 + k]? = (stC ((i + 1 : Nat) : Int) (rowAt (i + 1)))[k]? := by
  induction n with
  | zero => omega
  | succ n ih =>
    unfold suitesC
    by_cases h : i < n
    · rw [List.getElem?_append_left (by rw [suitesC_len]; omega)]
      exact ih h
    · have : i = n := by omega
      subst this
      rw [List.getElem?_append_right (by rw [suitesC_len]; omega), suitesC_len, show i * 12 + k - i * 12 = k from by omega]

/-- The twelve cells of a suite. -/
def At12 (W : World) (b o : Nat) (c : Int) (r : SRow) : Prop :=
  W.cell? ⟨b, o, none⟩ = some (.int .i64 c) ∧ W.cell? ⟨b, o + 1, none⟩ = some (.string ⟨r.name.toArray⟩) ∧ W.cell? ⟨b, o + 2, none⟩ = some (.int .i64 r.xa) ∧ W.cell? ⟨b, o + 3, none⟩ = some (.int .i64 r.xb) ∧ W.cell? ⟨b, o + 4, none⟩ = some (.int .i64 r.sign) ∧ W.cell? ⟨b, o + 5, none⟩ = some (.int .i64 0) ∧
  W.cell? ⟨b, o + 6, none⟩ = some (.int .i64 r.ca) ∧ W.cell? ⟨b, o + 7, none⟩ = some (.int .i64 r.cb) ∧ W.cell? ⟨b, o + 8, none⟩ = some (.int .i64 r.mac) ∧ W.cell? ⟨b, o + 9, none⟩ = some (.int .i64 0) ∧ W.cell? ⟨b, o + 10, none⟩ = some (.int .i64 r.least) ∧ W.cell? ⟨b, o + 11, none⟩ = some (.int .i64 r.most)
theorem SuV.at12 {W : World} {b : Nat} (h : SuV W b) (i : Nat) (hi : i < 16) : At12 W b (i * 12) ((i + 1 : Nat) : Int) (rowAt (i + 1)) := by
  have key : ∀ k, k < 12 → W.cell? ⟨b, i * 12 + k, none⟩ = (stC ((i + 1 : Nat) : Int) (rowAt (i + 1)))[k]? := fun k hk => by
    rw [h _ (by omega), suitesC_get 16 i k hi hk]
  exact ⟨key 0 (by omega), key 1 (by omega), key 2 (by omega), key 3 (by omega), key 4 (by omega), key 5 (by omega), key 6 (by omega), key 7 (by omega), key 8 (by omega), key 9 (by omega), key 10 (by omega), key 11 (by omega)⟩

def SuitesV (w : World) (e : Ending) (w' : World) : Prop := ∃ b cap, e = .returned (.slice (some ⟨b, 0, none⟩) 16 cap) ∧ 16 ≤ cap ∧ SuV w' b ∧ Below w.heap.size w w'
theorem suites_v {m : Int} (w : World) (h : Tabs m w) : Calls Tryd.prog 34 #[] w (SuitesV w) :=
  (suites_any w h).mono fun e w' ⟨v, he, ho, hb⟩ => by
    rcases ho.2 with ⟨_, h0⟩ | ⟨g, cap, cur, hv, hg, hh, hc, hcm, hcs, htk⟩
    · cases h0
    · subst hv
      exact ⟨g, cap, he, hc, fun o hlt => ho.cellAt o (by omega), hb⟩
/-- Suite's results, written out. -/
def Suite0L (w : World) (e : Ending) (w' : World) : Prop := e = .returned (.tuple #[.agg #[.int .i64 0, .string ⟨#[]⟩, .int .i64 0, .int .i64 0, .int .i64 0, .int .i64 0, .int .i64 0, .int .i64 0, .int .i64 0, .int .i64 0, .int .i64 0, .int .i64 0], .int .i64 8]) ∧ Below w.heap.size w w'
def Suite1L (c : Int) (r : SRow) (w : World) (e : Ending) (w' : World) : Prop := e = .returned (.tuple #[.agg #[.int .i64 c, .string ⟨r.name.toArray⟩, .int .i64 r.xa, .int .i64 r.xb, .int .i64 r.sign, .int .i64 0, .int .i64 r.ca, .int .i64 r.cb, .int .i64 r.mac, .int .i64 0, .int .i64 r.least, .int .i64 r.most], .int .i64 0]) ∧ Below w.heap.size w w'
theorem suite0_l (c : Int) (hc : c < 1 ∨ 17 ≤ c) (w : World) : Calls Tryd.prog 14 #[.int .i64 c] w (Suite0L w) := suite_none c hc w
theorem suite1_l {m : Int} (i : Nat) (h0 : 0 < i) (hi : i < 17) (w : World) (h : Tabs m w) : Calls Tryd.prog 14 #[.int .i64 i] w (Suite1L i (rowAt i) w) := suite_some i h0 hi w h

end Go.Proofs.YtdhochjcigingaaDoor
