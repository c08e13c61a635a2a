/- The tables of algorithms and of suites, and what a world holds of them. -/
import Derived.Test.YtdhochjcigingaaDoorShelf
import Derived.WalkKit
import Derived.ProofKit
import Derived.Below
import Derived.Lib.Hide
import Derived.Lib.LaidU8
import Derived.IntWalk
namespace Go.Proofs.YtdhochjcigingaaDoor
open Go.RowKit

/-- The algorithms: name, kind, strength. -/
def algL : List (List UInt8 × Int × Int) := [
  ([], 0, 0),
  ([109, 100, 53], 1, 18),
  ([115, 104, 97, 49], 1, 60),
  ([115, 104, 97, 50, 53, 54], 1, 128),
  ([115, 104, 97, 51, 56, 52], 1, 192),
  ([114, 115, 97], 2, 0),
  ([100, 115, 97], 2, 0),
  ([101, 99, 100, 115, 97], 2, 0),
  ([101, 100, 50, 53, 53, 49, 57], 2, 128),
  ([109, 108, 100, 115, 97], 2, 0),
  ([114, 115, 97, 107, 120], 3, 0),
  ([100, 104, 101], 3, 0),
  ([101, 99, 100, 104, 101], 3, 0),
  ([109, 108, 107, 101, 109], 3, 0),
  ([114, 99, 52], 4, 0),
  ([100, 101, 115, 51], 4, 0),
  ([97, 101, 115, 99, 98, 99], 4, 0),
  ([97, 101, 115, 103, 99, 109], 4, 0),
  ([99, 104, 97, 99, 104, 97], 4, 256),
  ([104, 109, 97, 99, 109, 100, 53], 5, 64),
  ([104, 109, 97, 99, 115, 104, 97, 49], 5, 80),
  ([104, 109, 97, 99, 115, 104, 97, 50, 53, 54], 5, 128),
  ([97, 101, 97, 100], 5, 256)]

def algCells (r : List UInt8 × Int × Int) : List Value := [.string ⟨r.1.toArray⟩, .int .u8 r.2.1, .int .u16 r.2.2]
def algC : List Value := algL.flatMap algCells

/-- A row of the table of suites. -/
structure SRow where
  name : List UInt8
  xa : Int
  xb : Int
  ca : Int
  cb : Int
  sign : Int
  mac : Int
  least : Int
  most : Int

def rowL : List SRow := [
  ⟨[], 0, 0, 0, 0, 0, 0, 0, 0⟩,
  ⟨[114, 115, 97, 45, 114, 99, 52, 45, 109, 100, 53], 10, 0, 14, 128, 5, 19, 1, 2⟩,
  ⟨[114, 115, 97, 45, 114, 99, 52, 45, 115, 104, 97], 10, 0, 14, 128, 5, 20, 1, 3⟩,
  ⟨[114, 115, 97, 45, 100, 101, 115, 51, 45, 115, 104, 97], 10, 0, 15, 168, 5, 20, 1, 3⟩,
  ⟨[100, 104, 101, 45, 100, 115, 97, 45, 100, 101, 115, 51, 45, 115, 104, 97], 11, 1024, 15, 168, 6, 20, 1, 3⟩,
  ⟨[100, 104, 101, 45, 114, 115, 97, 45, 100, 101, 115, 51, 45, 115, 104, 97], 11, 1024, 15, 168, 5, 20, 1, 3⟩,
  ⟨[114, 115, 97, 45, 97, 101, 115, 49, 50, 56, 45, 115, 104, 97], 10, 0, 16, 128, 5, 20, 1, 3⟩,
  ⟨[100, 104, 101, 45, 114, 115, 97, 45, 97, 101, 115, 49, 50, 56, 45, 115, 104, 97], 11, 2048, 16, 128, 5, 20, 1, 3⟩,
  ⟨[101, 99, 100, 104, 101, 45, 114, 115, 97, 45, 97, 101, 115, 49, 50, 56, 45, 115, 104, 97], 12, 256, 16, 128, 5, 20, 1, 3⟩,
  ⟨[101, 99, 100, 104, 101, 45, 101, 99, 100, 115, 97, 45, 97, 101, 115, 50, 53, 54, 45, 115, 104, 97, 50, 53, 54], 12, 256, 16, 256, 7, 21, 3, 3⟩,
  ⟨[101, 99, 100, 104, 101, 45, 114, 115, 97, 45, 97, 101, 115, 49, 50, 56, 45, 103, 99, 109], 12, 256, 17, 128, 5, 22, 3, 3⟩,
  ⟨[101, 99, 100, 104, 101, 45, 101, 99, 100, 115, 97, 45, 97, 101, 115, 50, 53, 54, 45, 103, 99, 109], 12, 384, 17, 256, 7, 22, 3, 3⟩,
  ⟨[101, 99, 100, 104, 101, 45, 114, 115, 97, 45, 99, 104, 97, 99, 104, 97], 12, 256, 18, 0, 5, 22, 3, 3⟩,
  ⟨[114, 115, 97, 45, 97, 101, 115, 50, 53, 54, 45, 103, 99, 109], 10, 0, 17, 256, 5, 22, 3, 3⟩,
  ⟨[97, 101, 115, 49, 50, 56, 45, 103, 99, 109], 12, 256, 17, 128, 0, 22, 4, 4⟩,
  ⟨[99, 104, 97, 99, 104, 97], 12, 256, 18, 0, 0, 22, 4, 4⟩,
  ⟨[109, 108, 107, 101, 109, 45, 97, 101, 115, 50, 53, 54, 45, 103, 99, 109], 13, 768, 17, 256, 0, 22, 4, 4⟩]

def rowCells (r : SRow) : List Value := [.string ⟨r.name.toArray⟩, .int .u8 r.xa, .int .u16 r.xb, .int .u8 r.ca, .int .u16 r.cb, .int .u8 r.sign, .int .u8 r.mac, .int .u8 r.least, .int .u8 r.most]
def rowC : List Value := rowL.flatMap rowCells

/-- The tables lie where they were laid. -/
structure Tabs (m : Int) (W : World) : Prop where
  alg : ∃ t, W.heap[0]? = some (.cells algC.toArray t (0, 0))
  rows : ∃ t, W.heap[1]? = some (.cells rowC.toArray t (0, 0))
  max : W.cell? ⟨2, 0, none⟩ = some (.int .i64 m)
  syn : ∃ te pe, W.cell? ⟨3, 0, none⟩ = some (.iface te pe)
  rng : ∃ te pe, W.cell? ⟨4, 0, none⟩ = some (.iface te pe)
  pow : Lib.TabIs Tryd.prog W "internal/strconv.uint64pow10" .u64 Lib.pow10Tab
  size : 10 ≤ W.heap.size

theorem Tabs.below {m : Int} {B : Nat} {W W' : World} (h : Tabs m W) (hb : Below B W W') (hB : 10 ≤ B) : Tabs m W' := by
  obtain ⟨⟨t1, h1⟩, ⟨t2, h2⟩, h3, ⟨a, b, h4⟩, ⟨c, d, h5⟩, h6, h7⟩ := h
  refine ⟨⟨t1, (hb.block 0 (by omega)).trans h1⟩, ⟨t2, (hb.block 1 (by omega)).trans h2⟩, (hb.cell (by simp only; omega)).trans h3, ⟨a, b, (hb.cell (by simp only; omega)).trans h4⟩, ⟨c, d, (hb.cell (by simp only; omega)).trans h5⟩, ?_, by have := hb.size; omega⟩
  unfold Lib.TabIs at h6 ⊢
  rw [← h6]
  have hg : Tryd.prog.globalNamed "internal/strconv.uint64pow10" = some 5 := by kernel_rfl
  unfold World.var?
  rw [hg]
  simp only [Option.bind_some]
  rw [hb.block 5 (by omega)]

theorem Tabs.step {m : Int} {W W' : World} (h : Tabs m W) (hb : Below W.heap.size W W') : Tabs m W' := h.below hb h.size
theorem Tabs.alloc {m : Int} {W : World} (h : Tabs m W) (o : Obj) : Tabs m (W.alloc o) := h.step ((Below.refl _ _).alloc (Nat.le_refl _) _)
theorem Tabs.drew {m : Int} {W : World} (h : Tabs m W) : Tabs m W.drew := h.step (Below.refl _ _).drew
theorem Tabs.drewN {m : Int} {W : World} (h : Tabs m W) : ∀ n, Tabs m (W.drewN n)
  | 0 => h
  | n + 1 => h.step ⟨rfl, rfl, rfl, Nat.le_refl _, fun _ _ => rfl⟩
theorem Tabs.setCell {m : Int} {W : World} (h : Tabs m W) {p : Addr} (hp : 10 ≤ p.block) (v : Value) : Tabs m (W.setCell p v) :=
  h.below ((Below.refl 10 _).setCell hp v) (Nat.le_refl _)

def anm (i : Nat) : List UInt8 := (algL.getD i ([], 0, 0)).1
def akd (i : Nat) : Int := (algL.getD i ([], 0, 0)).2.1
def ast (i : Nat) : Int := (algL.getD i ([], 0, 0)).2.2

theorem flatn_get {α : Type} (f : α → List Value) (n : Nat) (hf : ∀ x, (f x).length = n) (l : List α) : ∀ j (h : j < l.length) (i : Nat), i < n → (l.flatMap f)[j * n + i]? = (f l[j])[i]? := by
  induction l with
  | nil => intro j h; simp at h
  | cons d l ih =>
    intro j h i hi
    rw [List.flatMap_cons]
    cases j with
    | zero => rw [List.getElem?_append_left (by rw [hf]; omega)]; simp
    | succ j =>
      rw [List.getElem?_append_right (by rw [hf, Nat.succ_mul]; omega)]
      have e2 : (j + 1) * n + i - (f d).length = j * n + i := by rw [hf, Nat.succ_mul]; omega
      rw [e2, ih j (by simpa using h) i hi]; simp

theorem Tabs.alg_at {m : Int} {W : World} (h : Tabs m W) : ∀ i, i < 23 → W.cell? ⟨0, i * 3, none⟩ = some (.string ⟨(anm i).toArray⟩) ∧ W.cell? ⟨0, i * 3 + 1, none⟩ = some (.int .u8 (akd i)) ∧ W.cell? ⟨0, i * 3 + 2, none⟩ = some (.int .u16 (ast i)) := by
  obtain ⟨t, h1⟩ := h.alg
  have key : ∀ o, W.cell? ⟨0, o, none⟩ = algC[o]? := fun o => by
    simp [World.cell?, h1]
  intro i hi
  have hl : algL.length = 23 := rfl
  have hd : algL.getD i ([], 0, 0) = algL[i]'(by omega) := by rw [List.getD, List.getElem?_eq_getElem (by omega)]; rfl
  have g := flatn_get algCells 3 (fun _ => rfl) algL i (by omega)
  unfold anm akd ast
  rw [hd, key, key, key]
  exact ⟨g 0 (by omega), g 1 (by omega), g 2 (by omega)⟩

def rowAt (i : Nat) : SRow := rowL.getD i ⟨[], 0, 0, 0, 0, 0, 0, 0, 0⟩

theorem Tabs.row_at {m : Int} {W : World} (h : Tabs m W) (i : Nat) (hi : i < 17) : ∀ k, k < 9 → W.cell? ⟨1, i * 9 + k, none⟩ = (rowCells (rowAt i))[k]? := by
  obtain ⟨t, h1⟩ := h.rows
  have key : ∀ o, W.cell? ⟨1, o, none⟩ = rowC[o]? := fun o => by
    simp [World.cell?, h1]
  intro k hk
  have hl : rowL.length = 17 := rfl
  have hd : rowAt i = rowL[i]'(by omega) := by unfold rowAt; rw [List.getD, List.getElem?_eq_getElem (by omega)]; rfl
  rw [hd, key]
  exact flatn_get rowCells 9 (fun _ => rfl) rowL i (by omega) k hk
end Go.Proofs.YtdhochjcigingaaDoor
