/- CatalogTexts: a byte doubled: three appends. -/
import Derived.Test.YtdhochjcigingaaDoorTxB
import Derived.Deep.AppendLies
import Derived.Deep.RegionHeld3
namespace Go.Proofs.YtdhochjcigingaaDoor
open Go.RowKit
set_option linter.all false

def vb (l : List UInt8) : List Value := l.map fun b => Value.int .u8 b.toNat
theorem vb_one (l : List UInt8) : ∀ u ∈ vb l, u.oneCell' = true := by
  intro u hu
  obtain ⟨x, _, rfl⟩ := List.mem_map.1 hu
  rfl
theorem vb_get (l : List UInt8) (j : Nat) (hj : j < l.length) : (vb l)[j]? = some (.int .u8 (l.getD j 0).toNat) := by
  unfold vb
  rw [List.getElem?_map, List.getD, List.getElem?_eq_getElem hj]
  rfl

theorem info5 : (Tryd.prog.info? 5).map (fun i => (i.zero, i.size, i.bytes)) = some (some (.int .u8 0), 1, 1) := by kernel_rfl

theorem TW.grown {m : Int} {w : World} {B : Nat} {T : List UInt8} {W W' : World} (h : TW m w B T W) {row : Option Nat} (hg : W.grownBy W' row) (hr : ∀ k, row = some k → B < k) : TW m w B T W' := by
  have hle := h.le
  have hlt := h.lt
  have hb : Below w.heap.size W W' := ⟨hg.os, hg.tape, hg.output, hg.size, fun k hk => hg.block k (by omega) (fun e => by have := hr k e.symm; omega)⟩
  refine ⟨fun j hj => ?_, h.tabs.below hb h.base, h.below.trans hb, Nat.lt_of_lt_of_le hlt hg.size, h.le, h.base⟩
  obtain ⟨c1, c2⟩ := h.cells j hj
  have hn : some B ≠ row := fun e => by have := hr B e.symm; omega
  exact ⟨(hg.cell_far ⟨B, j, none⟩ hlt hn).trans c1, (hg.frozen_far ⟨B, j, none⟩ hlt hn).trans c2⟩
theorem TW.step {m : Int} {w : World} {B : Nat} {T : List UInt8} {W W' : World} (h : TW m w B T W) (hb : Below W.heap.size W W') : TW m w B T W' :=
  h.grown (row := none) ⟨hb.os, hb.tape, hb.output, hb.size, fun k hk _ => hb.block k hk⟩ (fun k e => by cases e)

/-- append at a step, of bytes l that lie at p, onto an own row; none or more. -/
theorem step_app {ops : Array Oper} {o : Oper} {a : Act} {W : World} {K : Act → World → Prop} {Q : Exit → Act → World → Prop} {E : Prop} (hgd : o.guard = none) (s x : Operand)
    (ho : o.op = .call { callee := .builtin .append, args := #[s, x], argTypes := #[44, 44] })
    (base n m c : Nat) (G cap : Nat) (xs : List Value) (l : List UInt8) (hs : a.eval s = .slice (some ⟨G, 0, none⟩) n cap) (hown : W.ownsRow base 5 1 (.slice (some ⟨G, 0, none⟩) n cap) n xs)
    (p q : Nat) (hx : a.eval x = .slice (some ⟨p, q, none⟩) m c) (hl : l.length = m) (hc : ∀ j, j < m → W.cell? ⟨p, q + j, none⟩ = some (.int .u8 (l.getD j 0).toNat))
    (hnm : n + m ≤ 2000) (hbase : base ≤ W.heap.size)
    (h : ∀ g cap' w', w'.ownsRow base 5 1 (.slice (some ⟨g, 0, none⟩) (n + m) cap') (n + m) (xs ++ vb l) → W.grownBy w' (some G) → (g = G ∨ g = W.heap.size) → g < w'.heap.size → K (a.put o.dst (.slice (some ⟨g, 0, none⟩) (n + m) cap')) w') :
    if Region.wanted o (yielded ops a.tmps) = true then Oper.wp Tryd.prog o a W K Q else E := by
  obtain ⟨i0, hi, hz0, hz1, hz2⟩ := info_parts info5
  have hu : Tryd.prog.underlying 44 = some (.slice 5) := by kernel_rfl
  have hvl : (vb l).length = m * 1 := by unfold vb; rw [List.length_map, hl, Nat.mul_one]
  have hnews : ∀ (j : Nat) (u : Value), (vb l)[j]? = some u → W.cell? ((⟨p, q, none⟩ : Addr).add j) = some u := by
    intro j u hu'
    have hj : j < l.length := by
      have := (List.getElem?_eq_some_iff.1 hu').1
      rw [hvl] at this; omega
    rw [vb_get l j hj] at hu'
    rw [Addr.add_lit]
    exact (hc j (by omega)).trans hu'
  by_cases hm : 0 < m
  · exact step_append_lies W hgd s x 44 ho base 5 i0 (.int .u8 0) 1 1 hu hi hz0 hz1 hz2 rfl Nat.one_pos _ n xs hs hown ⟨p, q, none⟩ m c (vb l) hx hvl hnews (vb_one l) hm (by unfold maxLen; omega) (by omega) hbase _ rfl
      (fun g cap' w' h1 h2 h3 h4 => h g cap' w' h1 h2 (h3.imp (fun e => by simpa [Value.ownBlock] using e.symm) id) h4)
  · have hm0 : m = 0 := by omega
    subst hm0
    have hl0 : l = [] := List.length_eq_zero_iff.1 hl
    subst hl0
    have hlt := (hown.lt G rfl).2
    refine step_append_room hgd s x 44 ho 5 i0 1 hu hi hz1 G 0 n cap hs ⟨p, q, none⟩ 0 c [] hx rfl (fun j u hj => by simp at hj) (fun u hu' => by cases hu') ?_ (fun j hj => by simp at hj) ?_
    · rcases hown.2 with ⟨e, _⟩ | ⟨g, cap', cur, e, _, _, h1, _⟩
      · cases e
      · injection e with e1 e2 e3; omega
    · refine h G cap W ?_ (World.grownBy.refl _ _) (.inl rfl) hlt
      show W.ownsRow base 5 1 _ n (xs ++ [])
      rw [List.append_nil]; exact hown

theorem own_out {m : Int} {w : World} {base g n cap : Nat} {W : World} {l : List UInt8} (h : W.ownsRow base 5 1 (.slice (some ⟨g, 0, none⟩) n cap) n (vb l)) (hl : l.length ≤ 1000) (hT : Tabs m W) (hb : Below w.heap.size w W) : OutR m w (.slice (some ⟨g, 0, none⟩) n cap) W := by
  have hn : l.length = n := by
    have := h.1
    unfold vb at this
    rw [List.length_map] at this; omega
  subst hn
  refine ⟨l, hl, ⟨_, cap, rfl, .inr ⟨g, 0, rfl, fun j hj => ?_⟩⟩, hT, hb⟩
  rw [Nat.zero_add, h.cellAt j (by omega), vb_get l j hj]
end Go.Proofs.YtdhochjcigingaaDoor
