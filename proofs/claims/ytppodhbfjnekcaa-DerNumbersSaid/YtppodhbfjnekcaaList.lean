/- der.List of elements without elements. -/
import Derived.Test.YtppodhbfjnekcaaCopied
namespace Go.Proofs.Ytppodhbfjnekcaa
open Go.RowKit

theorem Bts.off {G : Nat} {w : World} {v : Value} {l : List UInt8} (h : Bts w v l) (hG : w.heap.size ≤ G) : BtsN G w v l := by
  obtain ⟨p, c, hv, hl, h⟩ := h
  refine ⟨p, c, hv, hl, ?_⟩
  rcases h with h | ⟨b, o, hp, h⟩
  · exact .inl h
  · by_cases he : l = []
    · exact .inl he
    · have hb := World.block_lt_of_cell? _ _ (h 0 (List.length_pos_iff.2 he))
      simp only at hb
      exact .inr ⟨b, o, by omega, hp, h⟩

/-- What is read of the elements. -/
structure Reads (w : World) (ls : List Leaf) (xs : List (Int × Bool × List UInt8)) : Prop where
  len : ls.length = xs.length
  tag : ∀ i, i < ls.length → (ls.getD i default).t = (xs.getD i default).1
  nb : ∀ i, i < ls.length → (ls.getD i default).nb = (xs.getD i default).2.1
  bytes : ∀ i, i < ls.length → Bts w (ls.getD i default).bv (xs.getD i default).2.2

theorem Reads.as {w : World} {ls : List Leaf} {xs : List (Int × Bool × List UInt8)} (h : Reads w ls xs) {G : Nat} (hG : w.heap.size ≤ G) : ReadsAs G w ls xs :=
  ⟨h.len, h.tag, h.nb, fun i hi => (h.bytes i hi).off hG⟩

theorem ReadsAs.reads {G : Nat} {w : World} {ls : List Leaf} {xs : List (Int × Bool × List UInt8)} (h : ReadsAs G w ls xs) : Reads w ls xs :=
  ⟨h.len, h.tag, h.nb, fun i hi => (h.bytes i hi).bts⟩

theorem Reads.mono {w w' : World} {ls : List Leaf} {xs : List (Int × Bool × List UInt8)} (h : Reads w ls xs) (hb : Below w.heap.size w w') : Reads w' ls xs :=
  ⟨h.len, h.tag, h.nb, fun i hi => (h.bytes i hi).mono hb⟩

/-- A block in which there is no byte. -/
def NoU8 (w : World) (B : Nat) : Prop := ∀ o i, w.cell? ⟨B, o, none⟩ ≠ some (.int .u8 i)

theorem Bts.noU8 {B : Nat} {w : World} {v : Value} {l : List UInt8} (h : Bts w v l) (hB : NoU8 w B) : BtsN B w v l := by
  obtain ⟨p, c, hv, hl, h⟩ := h
  refine ⟨p, c, hv, hl, ?_⟩
  rcases h with h | ⟨b, o, hp, h⟩
  · exact .inl h
  · by_cases he : l = []
    · exact .inl he
    · refine .inr ⟨b, o, ?_, hp, h⟩
      intro e; subst e
      exact hB _ _ (h 0 (List.length_pos_iff.2 he))

theorem noU8_four {w : World} {B : Nat} {i : Int} {p1 p2 : Option Addr} {n1 c1 n2 c2 : Nat} {q : Bool} {t : TypeId} {fr : Nat × Nat} (h : w.heap[B]? = some (.cells #[.int .i64 i, .slice p1 n1 c1, .bool q, .slice p2 n2 c2] t fr)) : NoU8 w B := by
  intro o k
  have e : w.cell? ⟨B, o, none⟩ = (#[.int .i64 i, .slice p1 n1 c1, .bool q, .slice p2 n2 c2] : Array Value)[o]? := by simp [World.cell?, h]
  rw [e]
  match o with
  | 0 => simp
  | 1 => simp
  | 2 => simp
  | 3 => simp
  | o + 4 => simp

theorem NoU8.other {w : World} {B : Nat} (h : NoU8 w B) {a : Addr} (u : Value) (hne : a.block ≠ B) : NoU8 (w.setCell a u) B := by
  intro o i
  rw [World.cell?_setCell_other _ _ _ _ (fun e => hne (by rw [e]))]
  exact h o i

theorem ReadsAs.again {G : Nat} {w : World} {ls : List Leaf} {xs : List (Int × Bool × List UInt8)} (h : ReadsAs G w ls xs) {B : Nat} (hB : NoU8 w B) : ReadsAs B w ls xs :=
  ⟨h.len, h.tag, h.nb, fun i hi => (h.bytes i hi).bts.noU8 hB⟩

/-- A list of elements without elements, as der.List makes it. -/
def ListPost (w : World) (n : Nat) (xs : List (Int × Bool × List UInt8)) (e : Ending) (w' : World) : Prop :=
  ∃ g cap ls, e = .returned (.agg #[.int .i64 48, .slice none 0 0, .bool true, .slice (some ⟨g, 0, none⟩) n cap]) ∧ ls.length = n ∧ Leaves w' g 0 ls ∧ Reads w' ls xs ∧ Plain w' g ∧ Below w.heap.size w w'

set_option maxRecDepth 100000 in
set_option maxHeartbeats 2000000 in
theorem list_leaves (b o n c : Nat) (ls : List Leaf) (xs : List (Int × Bool × List UInt8)) (w : World) (hl : ls.length = n) (hn : 0 < n) (h : Leaves w b o ls) (hr : Reads w ls xs) (hp : Plain w b) (hs : sizeL ls ≤ 2147483647) :
    Calls Try.prog 32 #[.slice (some ⟨b, o, none⟩) n c] w (ListPost w n xs) := by
  have hll := sizeL_len ls
  have hby : ∀ i, i < n → (xs.getD i default).2.2.length ≤ 140737488351232 := by
    intro i hi
    obtain ⟨p, c', hv, _⟩ := hr.bytes i (by omega)
    unfold Leaf.bv at hv
    simp only [Value.slice.injEq] at hv
    have h1 := sizeL_take ls i (by omega)
    have h2 := sizeL_le ls (i + 1)
    omega
  have hW := ((Below.refl w.heap.size w).alloc (Nat.le_refl _) (.cells #[.int .i64 0, .slice none 0 0, .bool false, .slice none 0 0] 30)).alloc (by simp) (.cells #[.int .i64 48, .slice none 0 0, .bool true, .slice none 0 0] 30)
  have hlook := look_leaves b o c ls _ n hl hn (h.mono hW) (hp.mono hW) hs
  have hcopy := fun {W : World} (hb : Below w.heap.size w W) => copied_leaves b o n c ls xs W hl hn (by omega) (h.mono hb) (fun G hG => (hr.mono hb).as hG) hby
  clear h hr hp hby hs hll hl
  go_enter Try.func32, Try.ntmps32
  go_wp2_with fail
  refine hlook.mono ?_
  rintro e w1 ⟨rfl, hb1⟩
  generalize allShape ls = sh
  go_wp2_with fail
  refine (hcopy (below_step hW hb1)).mono ?_
  rintro e w2 ⟨g, cap, ls', rfl, hgb, hown, hread, hb2⟩
  have hB : Below (w.heap.size + 1 + 1) ((w.alloc (.cells #[.int .i64 0, .slice none 0 0, .bool false, .slice none 0 0] 30)).alloc (.cells #[.int .i64 48, .slice none 0 0, .bool true, .slice none 0 0] 30)) w2 := by
    refine Below.trans (hb1.mono (by simp)) (hb2.mono ?_)
    have := hb1.size; simp at this; omega
  have hc := fun b o (hlt : b < w.heap.size + 1 + 1) => hB.cell (p := ⟨b, o, none⟩) hlt
  have hf := fun b o (hlt : b < w.heap.size + 1 + 1) => hB.frozen (p := ⟨b, o, none⟩) hlt
  have hsz : w.heap.size + 1 + 1 ≤ w2.heap.size := by have := hB.size; simpa using this
  have a0 := hc w.heap.size 0 (by omega)
  have a1 := hc w.heap.size 1 (by omega)
  have a2 := hc w.heap.size 2 (by omega)
  have a3 := hc w.heap.size 3 (by omega)
  have b0 := hc (w.heap.size + 1) 0 (by omega)
  have b1 := hc (w.heap.size + 1) 1 (by omega)
  have b2 := hc (w.heap.size + 1) 2 (by omega)
  have b3 := hc (w.heap.size + 1) 3 (by omega)
  have fa0 := hf w.heap.size 0 (by omega)
  have fa1 := hf w.heap.size 1 (by omega)
  have fa2 := hf w.heap.size 2 (by omega)
  have fa3 := hf w.heap.size 3 (by omega)
  have fb3 := hf (w.heap.size + 1) 3 (by omega)
  simp at a0 a1 a2 a3 b0 b1 b2 b3 fa0 fa1 fa2 fa3 fb3
  clear hc hf
  go_wp2_with fail
  have n0 : NoU8 w2 w.heap.size := noU8_four ((hB.block w.heap.size (by omega)).trans ((Below.heap_alloc _ _ _ (by simp)).trans (heap_alloc_new w _)))
  have n1 : NoU8 w2 (w.heap.size + 1) := noU8_four ((hB.block (w.heap.size + 1) (by omega)).trans (by have := heap_alloc_new (w.alloc (.cells #[.int .i64 0, .slice none 0 0, .bool false, .slice none 0 0] 30)) (.cells #[.int .i64 48, .slice none 0 0, .bool true, .slice none 0 0] 30); rwa [World.size_alloc] at this))
  have hsz1 : w.heap.size + 1 + 1 ≤ w1.heap.size := by have := hb1.size; simpa using this
  refine bodyPost_ret (v := .agg #[.int .i64 48, .slice none 0 0, .bool true, .slice (some ⟨g, 0, none⟩) n cap]) (by simp [results, Try.results32, go_sem, a0, a1, a2, a3, hsz]) rfl ⟨g, cap, ls', rfl, ?_, ?_, ?_, ?_, ?_⟩
  · have := hown.1; rw [rowCells_length] at this; omega
  · exact own_leaves (ownsRow_setCell_below (ownsRow_setCell_below (ownsRow_setCell_below (ownsRow_setCell_below (ownsRow_setCell_below hown (by simp; omega) _) (by simp; omega) _) (by simp; omega) _) (by simp; omega) _) (by simp; omega) _)
  · have r1 := (hread.again n1).setCell (j := 3) (u := .slice (some ⟨g, 0, none⟩) n cap)
    have r2 := r1.again (n0.other (a := ⟨w.heap.size + 1, 3, none⟩) (.slice (some ⟨g, 0, none⟩) n cap) (by simp))
    exact r2.setCell.setCell.setCell.setCell.reads
  · exact own_plain (ownsRow_setCell_below (ownsRow_setCell_below (ownsRow_setCell_below (ownsRow_setCell_below (ownsRow_setCell_below hown (by simp; omega) _) (by simp; omega) _) (by simp; omega) _) (by simp; omega) _) (by simp; omega) _)
  · exact (((((below_step (below_step hW hb1) hb2).setCell (by simp) _).setCell (by simp) _).setCell (by simp) _).setCell (by simp) _).setCell (by simp) _
end Go.Proofs.Ytppodhbfjnekcaa
