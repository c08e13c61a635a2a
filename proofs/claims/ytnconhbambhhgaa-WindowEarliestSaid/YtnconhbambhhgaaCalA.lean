/- The dice's Of; what types hold. -/
import Derived.Test.YtnconhbambhhgaaReg
import Derived.Test.YtnconhbambhhgaaWnI
import Derived.OwnWalk
import Derived.Deep.AppendLies
namespace Go.Proofs.Ytnconhbambhhgaa
open Go.RowKit
set_option linter.all false

theorem info3 : (Try.prog.info? 3).map (fun i => (i.zero, i.size, i.bytes)) = some (some (.int .i64 0), 1, 8) := by kernel_rfl
theorem info58 : (Try.prog.info? 77).map (fun i => (i.zero, i.size, i.bytes)) = some (some (.agg #[.int .i64 0, .int .i64 0, .slice none 0 0]), 3, 40) := by kernel_rfl
theorem info_parts {t : TypeId} {z : Value} {s b : Nat} (h : (Try.prog.info? t).map (fun i => (i.zero, i.size, i.bytes)) = some (some z, s, b)) : ∃ i : TypeInfo, Try.prog.info? t = some i ∧ i.zero = some z ∧ i.size = s ∧ i.bytes = b := by
  cases hi : Try.prog.info? t with
  | none => rw [hi] at h; cases h
  | some i =>
    rw [hi] at h
    simp only [Option.map_some, Option.some.injEq, Prod.mk.injEq] at h
    exact ⟨i, rfl, h.1, h.2.1, h.2.2⟩

def OfP (w : World) (g : Nat) (zs : List Int) (e : Ending) (w' : World) : Prop := ∃ z ∈ zs, e = .returned (.int .i64 z) ∧ DiceAt w' g ∧ w.grownBy w' (some g)

set_option maxHeartbeats 1000000 in
theorem of_any (w : World) (g X : Nat) (zs : List Int) (h : DiceAt w g) (hX : X ≠ g) (h0 : 0 < zs.length) (h1 : zs.length ≤ 10) (hc : ∀ j (hj : j < zs.length), w.cell? ⟨X, j, none⟩ = some (.int .i64 zs[j])) (c : Nat) :
    Calls Try.prog 41 #[.pointer (some ⟨g, 0, none⟩), .slice (some ⟨X, 0, none⟩) zs.length c] w (OfP w g zs) := by
  have cN := next_any w g (zs.length : Int) (by omega) (by omega) h
  have HC := Lib.hid hc; clear hc
  have CN := Lib.hid cN; clear cN h
  go_enter Try.func41, Try.ntmps41
  go_wp2_with fail
  refine (CN.out).mono ?_
  rintro e w' ⟨r, rfl, hr0, hr1, hd, hg⟩
  obtain ⟨k, rfl⟩ : ∃ k : Nat, r = k := ⟨r.toNat, by omega⟩
  have hk : k < zs.length := by omega
  have hcell := HC.out k hk
  have hcell' : w'.cell? ⟨X, k, none⟩ = some (.int .i64 zs[k]) := hg.cell hcell (by simp; omega)
  have HD := Lib.hid hd; have HG := Lib.hid hg
  clear hd hg hcell
  go_wp2_with fail
  go_ret
  exact ⟨zs[k], List.getElem_mem _, rfl, HD.out, HG.out⟩

theorem of_new (w : World) (g : Nat) (zs : List Int) (h : DiceAt w g) (h0 : 0 < zs.length) (h1 : zs.length ≤ 10) :
    Calls Try.prog 41 #[.pointer (some ⟨g, 0, none⟩), .slice (some ⟨w.heap.size, 0, none⟩) zs.length zs.length] (w.alloc (.cells (zs.map (Value.int .i64)).toArray 3)) (OfP w g zs) := by
  have hlt := h.lt
  refine (of_any (w.alloc (.cells (zs.map (Value.int .i64)).toArray 3)) g w.heap.size zs (h.below ((Below.refl _ _).alloc (Nat.le_refl _) _)) (by omega) h0 h1 (fun j hj => ?_) zs.length).mono ?_
  · rw [cell_of_row _ _ j _ _ _ (heap_alloc_new _ _)]
    simp [hj]
  · rintro e w' ⟨z, hz, he, hd, hg⟩
    exact ⟨z, hz, he, hd, ⟨hg.os, hg.tape, hg.output, Nat.le_trans (by simp) hg.size, fun k hk hne => (hg.block k (by simp; omega) hne).trans (Below.heap_alloc _ _ _ hk)⟩⟩

theorem of3 (w : World) (g B : Nat) (hB : w.heap.size = B) (h : DiceAt w g) (x y z : Int) : Calls Try.prog 41 #[.pointer (some ⟨g, 0, none⟩), .slice (some ⟨B, 0, none⟩) 3 3] (w.alloc (.cells #[.int .i64 x, .int .i64 y, .int .i64 z] 3)) (OfP w g [x, y, z]) := by
  subst hB
  exact of_new w g [x, y, z] h (by simp) (by simp)
theorem of2 (w : World) (g B : Nat) (hB : w.heap.size = B) (h : DiceAt w g) (x y : Int) : Calls Try.prog 41 #[.pointer (some ⟨g, 0, none⟩), .slice (some ⟨B, 0, none⟩) 2 2] (w.alloc (.cells #[.int .i64 x, .int .i64 y] 3)) (OfP w g [x, y]) := by
  subst hB
  exact of_new w g [x, y] h (by simp) (by simp)

def vi (L : List Int) : List Value := L.map (Value.int .i64)
/-- The windows' cells, one after the other. -/
def flatW (L : List Win) : List Value := L.flatMap fun x => [.int .i64 x.from_, .int .i64 x.to_, .slice x.a x.n x.c]

/-- A window's teams, in a row that nobody writes. -/
def TRow (W : World) (C : Nat) (tp tq : Value) (x : Win) (t : List Int) : Prop :=
  x.n = t.length ∧ t ∈ [[0, 1], [0], [1], []] ∧ (t = [] ∨ ∃ b, x.a = some ⟨b, 0, none⟩ ∧ W.heap[b]? = some (.cells (vi t).toArray 3 (0, 0)) ∧ C < b ∧ tp.ownBlock ≠ some b ∧ tq.ownBlock ≠ some b)

/-- On the way through Calendar. -/
structure CMid (w W : World) (g C r : Nat) (r0 r1 : Int) (tp tq : Value) (Q : List Int) (L : List Win) (TL : List (List Int)) : Prop where
  dice : DiceAt W g
  grown : w.grownBy W (some g)
  hC : W.heap[C]? = some (.cells #[tp, tq, .slice (some ⟨r, 0, none⟩) 2 2] 38 (0, 0))
  hr : W.heap[r]? = some (.cells #[.int .i64 r0, .int .i64 r1] 3 (0, 0))
  ownq : W.ownsRow (C + 1) 3 1 tq Q.length (vi Q)
  ownp : W.ownsRow (C + 1) 77 3 tp L.length (flatW L)
  sep : ∀ k, tq.ownBlock = some k → tp.ownBlock ≠ some k
  len : TL.length = L.length
  teams : ∀ j, j < L.length → TRow W C tp tq (L.getD j win0) (TL.getD j [])
  hB : W.heap[w.heap.size]? = some (.cells #[.slice none 0 0, .slice none 0 0, .slice none 0 0] 38 (0, 0))
  ho : g < w.heap.size
  hr2 : w.heap.size < r
  hrC : r < C
/-- A slice of teams. -/
def SlT (W : World) (C : Nat) (tp tq u : Value) (t : List Int) : Prop := ∃ a n c, u = .slice a n c ∧ TRow W C tp tq ⟨0, 0, a, n, c⟩ t

/-- Windows with days, one behind the other, up to day f. -/
def Wok (f : Int) (L : List Win) : Prop := (∀ j, j < L.length → 0 ≤ (L.getD j win0).from_ ∧ (L.getD j win0).from_ < (L.getD j win0).to_ ∧ (L.getD j win0).to_ ≤ f) ∧ AscW L
theorem getD_snoc_lt {α : Type} (L : List α) (x d : α) {j : Nat} (h : j < L.length) : (L ++ [x]).getD j d = L.getD j d := by
  rw [List.getD, List.getD, List.getElem?_append_left h]
theorem getD_snoc_eq {α : Type} (L : List α) (x d : α) {j : Nat} (h : j = L.length) : (L ++ [x]).getD j d = x := by
  rw [h, List.getD]; simp
theorem Wok.snoc {f f' : Int} {L : List Win} {x : Win} (h : Wok f L) (h0 : 0 ≤ x.from_) (h1 : f ≤ x.from_) (h2 : x.from_ < x.to_) (h3 : x.to_ ≤ f') : Wok f' (L ++ [x]) := by
  have hl : (L ++ [x]).length = L.length + 1 := by simp
  refine ⟨fun j hj => ?_, fun j hj => ?_⟩
  · rcases Nat.lt_or_ge j L.length with h' | h'
    · rw [getD_snoc_lt _ _ _ h']
      obtain ⟨a, b, c⟩ := h.1 j h'
      exact ⟨a, b, by omega⟩
    · rw [getD_snoc_eq _ _ _ (by omega)]
      exact ⟨h0, h2, h3⟩
  · rcases Nat.lt_or_ge (j + 1) L.length with h' | h'
    · rw [getD_snoc_lt _ _ _ h', getD_snoc_lt _ _ _ (by omega)]
      exact h.2 j h'
    · rw [getD_snoc_eq _ _ _ (show j + 1 = L.length by omega), getD_snoc_lt _ _ _ (by omega)]
      obtain ⟨a, b, c⟩ := h.1 j (by omega)
      omega
end Go.Proofs.Ytnconhbambhhgaa
