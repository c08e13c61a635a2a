/- CatalogTexts: bytes of a text, and their changes. -/
import Derived.Test.YtdhochjcigingaaDoorRawN
import Derived.Test.YtdhochjcigingaaDoorRefText
import Derived.Test.YtdhochjcigingaaDoorBack
import Derived.Lib.ConvBytes
import Derived.Deep.RegionLaw
namespace Go.Proofs.YtdhochjcigingaaDoor
open Go.RowKit
set_option linter.all false

/-- A slice value that reads as a list of bytes. -/
def Bts (w : World) (v : Value) (l : List UInt8) : Prop :=
  ∃ (p : Option Addr) (c : Nat), v = .slice p l.length c ∧
    (l = [] ∨ ∃ b o, p = some ⟨b, o, none⟩ ∧ ∀ j, j < l.length → w.cell? ⟨b, o + j, none⟩ = some (.int .u8 (l.getD j 0).toNat))

theorem Bts.mono {w w' : World} {v : Value} {l : List UInt8} (h : Bts w v l) (hb : Below w.heap.size w w') : Bts w' v l := by
  obtain ⟨p, c, hv, h⟩ := h
  refine ⟨p, c, hv, ?_⟩
  rcases h with h | ⟨b, o, hp, h⟩
  · exact .inl h
  · exact .inr ⟨b, o, hp, fun j hj => cell_later' hb (h j hj)⟩

/-- 'string(b)'. -/
theorem Bts.convert {w : World} {v : Value} {l : List UInt8} (h : Bts w v l) : (Go.convert 44 9 v).run Tryd.prog w = .ok (.string ⟨l.toArray⟩) w := by
  have hs : Tryd.prog.underlying 44 = some (.slice 5) := by kernel_rfl
  have he : Tryd.prog.underlying 5 = some (.int .u8) := by kernel_rfl
  have hd : Tryd.prog.underlying 9 = some .string := by kernel_rfl
  obtain ⟨p, c, rfl, h⟩ := h
  rcases h with h | ⟨b, o, rfl, h⟩
  · subst h
    cases p with
    | none => exact run_convert_bytes_nil w 44 5 hs he 0 c 9 hd
    | some a =>
      show (Go.convert 44 9 (.slice (some a) 0 c)).run Tryd.prog w = _
      rw [run_convert_bytes_string w 44 9 5 _ 0 c hs he hd]
      rw [run_bytesToString w a 0 c [] (run_loadCells_list (P := Tryd.prog) w a [] (fun j v hj => by simp at hj))]
      rfl
  · have hx : (l.map fun b => (b.toNat : Int)).length = l.length := by simp
    rw [run_convert_bytes_arg (P := Tryd.prog) w 44 5 hs he b o l.length c (l.map fun b => (b.toNat : Int)) hx (by
      intro i hi
      rw [h i hi]
      simp [List.getD, hi]) 9 hd]
    simp [strOfNums, Function.comp_def]

/-- '[]byte(s)' in plain words. -/
theorem conv_new (W : World) (n : Nat) (hn : W.heap.size = n) (T : List UInt8) (hT : T.length ≤ 1000) : ∃ (c : Nat) (w1 : World), (Go.convert 9 44 (.string ⟨T.toArray⟩)).run Tryd.prog W = .ok (.slice (some ⟨n, 0, none⟩) T.length c) w1 ∧ Below n W w1 ∧
    (∀ j, j < T.length → w1.cell? ⟨n, j, none⟩ = some (.int .u8 (T.getD j 0).toNat) ∧ w1.frozen? ⟨n, j, none⟩ = false) ∧ T.length ≤ c ∧ c ≤ 9223372036854775807 ∧ n < w1.heap.size := by
  subst hn
  have h := Lib.run_convert_string_bytes (P := Tryd.prog) W 9 44 5 ⟨T.toArray⟩ (u := .string) (by kernel_rfl) (by kernel_rfl) (by kernel_rfl)
  have hz : (⟨T.toArray⟩ : ByteArray).size = T.length := by simp [ByteArray.size]
  rw [hz] at h
  have hm := grownCap_le_maxLen W T.length 0 5 (by unfold maxLen; omega)
  unfold maxLen at hm
  refine ⟨_, _, h, ⟨rfl, rfl, rfl, ?_, fun k hk => Lib.bytesWorld_at_old W 5 _ k hk⟩, fun j hj => ?_, grownCap_ge W _ 0 5, hm, by rw [Lib.bytesWorld_size]; omega⟩
  · rw [Lib.bytesWorld_size]; omega
  · have hc := Lib.bytesWorld_cell W 5 ⟨T.toArray⟩ j (by omega)
    refine ⟨hc, ?_⟩
    have hb := Lib.bytesWorld_at_new W 5 ⟨T.toArray⟩
    have hlt : j < (Lib.bytesCells W 5 ⟨T.toArray⟩).size := by
      unfold World.cell? at hc
      rw [hb] at hc
      simp only at hc
      rcases Nat.lt_or_ge j (Lib.bytesCells W 5 ⟨T.toArray⟩).size with hq | hq
      · exact hq
      · exfalso; revert hc; simp [hq]
    unfold World.frozen?
    rw [hb]
    simp; omega

/-- The bytes' block B on the law's way. -/
structure TW (m : Int) (w : World) (B : Nat) (T : List UInt8) (W : World) : Prop where
  cells : ∀ j, j < T.length → W.cell? ⟨B, j, none⟩ = some (.int .u8 (T.getD j 0).toNat) ∧ W.frozen? ⟨B, j, none⟩ = false
  tabs : Tabs m W
  below : Below w.heap.size w W
  lt : B < W.heap.size
  le : w.heap.size ≤ B
  base : 10 ≤ w.heap.size

/-- What the changes leave: some bytes, at most 1000. -/
def OutR (m : Int) (w : World) (v : Value) (W : World) : Prop := ∃ l : List UInt8, l.length ≤ 1000 ∧ Bts W v l ∧ Tabs m W ∧ Below w.heap.size w W

theorem TW.out {m : Int} {w : World} {B : Nat} {T : List UInt8} {W : World} (h : TW m w B T W) (hl : T.length ≤ 1000) (N c : Nat) (hN : N = T.length) : OutR m w (.slice (some ⟨B, 0, none⟩) N c) W := by
  subst hN
  exact ⟨T, hl, ⟨_, c, rfl, .inr ⟨B, 0, rfl, fun j hj => by rw [Nat.zero_add]; exact (h.cells j hj).1⟩⟩, h.tabs, h.below⟩
theorem TW.drew {m : Int} {w : World} {B : Nat} {T : List UInt8} {W : World} (h : TW m w B T W) : TW m w B T W.drew :=
  ⟨h.cells, h.tabs.drew, h.below.drew, h.lt, h.le, h.base⟩
theorem byte_ofNat (v : Int) (h : 0 ≤ v ∧ v ≤ 255) : ((UInt8.ofNat v.toNat).toNat : Int) = v := by
  rw [UInt8.toNat_ofNat']; omega
theorem TW.store {m : Int} {w : World} {B : Nat} {T : List UInt8} {W : World} (h : TW m w B T W) (i : Nat) (hi : i < T.length) (v : Int) (hv : 0 ≤ v ∧ v ≤ 255) : TW m w B (T.set i (UInt8.ofNat v.toNat)) (W.setCell ⟨B, i, none⟩ (.int .u8 v)) := by
  have hb := h.base
  have hle := h.le
  refine ⟨fun j hj => ?_, h.tabs.setCell (by simp only; omega) _, h.below.setCell hle _, by simpa [World.setCell] using h.lt, h.le, h.base⟩
  rw [List.length_set] at hj
  obtain ⟨c1, c2⟩ := h.cells j hj
  refine ⟨?_, by rw [World.frozen?_setCell]; exact c2⟩
  by_cases hji : j = i
  · subst hji
    rw [World.cell?_setCell_same _ _ _ c1]
    rw [List.getD, List.getElem?_set_self hj]
    simp only [Option.getD_some]
    rw [byte_ofNat v hv]
  · rw [World.cell?_setCell_other _ _ _ _ (fun e => hji (by injection e with e1 e2; omega))]
    rw [c1, List.getD, List.getD, List.getElem?_set_ne (by omega)]

/-- The bytes that are moved one to the left: those behind index i. -/
def movedB (T : List UInt8) (i : Nat) : List Value := (T.drop (i + 1)).map fun b => Value.int .u8 b.toNat
theorem movedB_length (T : List UInt8) (i : Nat) : (movedB T i).length = T.length - (i + 1) := by simp [movedB]
theorem movedB_get (T : List UInt8) (i j : Nat) (hj : j < T.length - (i + 1)) : (movedB T i)[j]? = some (.int .u8 (T.getD (i + 1 + j) 0).toNat) := by
  unfold movedB
  rw [List.getElem?_map, List.getElem?_drop, List.getD, List.getElem?_eq_getElem (by omega)]
  rfl
theorem heap_setCells_other (W : World) (B : Nat) : ∀ (vs : List Value) (o k : Nat), k ≠ B → (W.setCells B o vs).heap[k]? = W.heap[k]? := by
  intro vs
  induction vs generalizing W with
  | nil => intro o k _; rfl
  | cons v r ih =>
    intro o k hk
    rw [World.setCells, ih _ _ _ hk]
    exact heap_setCell_other W ⟨B, o, none⟩ k v (fun e => hk e)
theorem size_setCells (W : World) (B : Nat) (o : Nat) (vs : List Value) : (W.setCells B o vs).heap.size = W.heap.size := by
  induction vs generalizing W o with
  | nil => rfl
  | cons v r ih => rw [World.setCells, ih]; simp [World.setCell]
theorem rest_setCells (W : World) (B : Nat) (o : Nat) (vs : List Value) : (W.setCells B o vs).os = W.os ∧ (W.setCells B o vs).tape = W.tape ∧ (W.setCells B o vs).output = W.output := by
  induction vs generalizing W o with
  | nil => exact ⟨rfl, rfl, rfl⟩
  | cons v r ih => rw [World.setCells]; exact ih _ _
theorem TW.erase {m : Int} {w : World} {B : Nat} {T : List UInt8} {W : World} (h : TW m w B T W) (i : Nat) (hi : i < T.length) : TW m w B (T.eraseIdx i) (W.setCells B (0 + i) (movedB T i)) := by
  have hb := h.base
  have hle := h.le
  have hlen : (movedB T i).length = T.length - (i + 1) := movedB_length T i
  have hlT : (T.eraseIdx i).length = T.length - 1 := by rw [List.length_eraseIdx, if_pos hi]
  have hblk : ∀ k, k ≠ B → (W.setCells B (0 + i) (movedB T i)).heap[k]? = W.heap[k]? := fun k hk => heap_setCells_other W B _ _ k hk
  have hsz := size_setCells W B (0 + i) (movedB T i)
  have hos := rest_setCells W B (0 + i) (movedB T i)
  have hbel : Below w.heap.size W (W.setCells B (0 + i) (movedB T i)) := ⟨hos.1, hos.2.1, hos.2.2, by omega, fun k hk => hblk k (by omega)⟩
  refine ⟨fun j hj => ?_, h.tabs.below hbel hb, h.below.trans hbel, by rw [hsz]; exact h.lt, h.le, h.base⟩
  rw [hlT] at hj
  obtain ⟨c1, c2⟩ := h.cells j (by omega)
  refine ⟨?_, by rw [World.frozen?_setCells]; exact c2⟩
  by_cases hji : j < i
  · rw [World.cell?_setCells_out B _ _ _ _ (fun _ _ => Or.inl (by simp only; omega)), c1, List.getD, List.getD, List.getElem?_eraseIdx, if_pos hji]
  · obtain ⟨k, rfl⟩ : ∃ k, j = i + k := ⟨j - i, by omega⟩
    have := World.cell?_setCells_in B (movedB T i) (0 + i) W (fun q hq => by
      rw [hlen] at hq
      rw [show 0 + i + q = i + q from by omega, (h.cells (i + q) (by omega)).1]; rfl) k (by omega)
    rw [show 0 + i + k = i + k from by omega] at this
    rw [this]
    have hm := movedB_get T i k (by omega)
    rw [List.getElem?_eq_getElem (by omega)] at hm
    rw [hm, List.getD, List.getD, List.getElem?_eraseIdx, if_neg (by omega), show i + 1 + k = i + k + 1 from by omega]
end Go.Proofs.YtdhochjcigingaaDoor
