/- A block of bytes, and journal.write. -/
import Derived.Test.YtogcpjkgliijmaaJValid
import Derived.Maps.AppendAt
import Derived.Laws.Rows
namespace Go.Proofs.Ytogcpjkgliijmaa
open Go.RowKit

theorem val_i {k : IntKind} {a b : Int} (h : a = b) : Value.int k a = .int k b := by rw [h]

def byteV (b : UInt8) : Value := .int .u8 b.toNat

/-- Block B is the array of these bytes, of element type t. -/
def BBlk (w : World) (B : Nat) (t : TypeId) (l : List UInt8) : Prop := w.heap[B]? = some (.cells (l.map byteV).toArray t (0, 0))

theorem BBlk.cell {w : World} {B : Nat} {t : TypeId} {l : List UInt8} (h : BBlk w B t l) (j : Nat) (hj : j < l.length) : w.cell? ⟨B, j, none⟩ = some (.int .u8 (l[j].toNat)) := by
  rw [cell_of_row w B j _ t (0, 0) h]
  simp [byteV, hj]
theorem BBlk.frozen {w : World} {B : Nat} {t : TypeId} {l : List UInt8} (h : BBlk w B t l) (j : Nat) : w.frozen? ⟨B, j, none⟩ = false := by
  unfold BBlk at h
  simp [World.frozen?, h]
theorem BBlk.lt {w : World} {B : Nat} {t : TypeId} {l : List UInt8} (h : BBlk w B t l) : B < w.heap.size := by
  unfold BBlk at h
  rcases Nat.lt_or_ge B w.heap.size with hl | hl
  · exact hl
  · rw [Array.getElem?_eq_none hl] at h; cases h
theorem BBlk.set {w : World} {B : Nat} {t : TypeId} {l : List UInt8} (h : BBlk w B t l) (j : Nat) (b : UInt8) : BBlk (w.setCell ⟨B, j, none⟩ (byteV b)) B t (l.set j b) := by
  unfold BBlk
  rw [heap_setCell_same w B j _ t (byteV b) h]
  simp [List.map_set]
theorem BBlk.below {w w' : World} {B : Nat} {t : TypeId} {l : List UInt8} (h : BBlk w B t l) (hb : Below w.heap.size w w') : BBlk w' B t l := (hb.block B h.lt).trans h

theorem grown_setCell {a w : World} {g : Nat} (h : a.grownBy w (some g)) (o : Nat) (v : Value) : a.grownBy (w.setCell ⟨g, o, none⟩ v) (some g) :=
  ⟨h.os, h.tape, h.output, by simpa [World.setCell] using h.size, fun k hk hne => (heap_setCell_other w ⟨g, o, none⟩ k v (fun e => hne (by rw [e]))).trans (h.block k hk hne)⟩

def byteOf (n : Int) : UInt8 := UInt8.ofNat (n % 256).toNat
theorem byteV_of (n : Int) : byteV (byteOf n) = .int .u8 (n % 256) := by
  unfold byteV byteOf
  have h1 : 0 ≤ n % 256 := Int.emod_nonneg _ (by omega)
  have h2 : n % 256 < 256 := Int.emod_lt_of_pos _ (by omega)
  rw [UInt8.toNat_ofNat']
  congr 1
  omega

/-- The number behind j rounds. -/
def shr8 (n : Int) : Nat → Int
  | 0 => n
  | j + 1 => shr8 n j / 256
/-- The bytes behind j rounds. -/
def putBE (l : List UInt8) (lo m : Nat) (n : Int) : Nat → List UInt8
  | 0 => l
  | j + 1 => (putBE l lo m n j).set (lo + (m - 1 - j)) (byteOf (shr8 n j))
theorem putBE_len (l : List UInt8) (lo m : Nat) (n : Int) (j : Nat) : (putBE l lo m n j).length = l.length := by
  induction j with
  | zero => rfl
  | succ j ih => simp [putBE, ih]
theorem shr8_nonneg (n : Int) (h : 0 ≤ n) (hb : n < 4294967296) (j : Nat) : 0 ≤ shr8 n j ∧ shr8 n j < 4294967296 := by
  induction j with
  | zero => exact ⟨h, hb⟩
  | succ j ih => simp only [shr8]; omega

set_option maxHeartbeats 1000000 in
theorem write_any (w : World) (B lo m c : Nat) (t : TypeId) (l : List UInt8) (n : Int) (h0 : 0 ≤ n) (h1 : n < 4294967296) (hB : BBlk w B t l) (hm : lo + m ≤ l.length) (hl : l.length ≤ 1000) :
    Calls Try.prog 64 #[.slice (some ⟨B, lo, none⟩) m c, .int .i64 n] w fun r w' => r = .returned (.tuple #[]) ∧ BBlk w' B t (putBE l lo m n m) ∧ w.grownBy w' (some B) := by
  go_enter Try.func64, Try.ntmps64
  go_wp2
  go_loopw [4, 1] (fun i x wr => ∃ j : Nat, j ≤ m ∧ i = .int .i64 ((m : Int) - 1 - j) ∧ x = .int .i64 (shr8 n j) ∧ BBlk wr B t (putBE l lo m n j) ∧ w.grownBy wr (some B)) (fun i _ _ => (intOf i + 1).toNat)
  case atStart => exact ⟨0, Nat.zero_le _, by simp, rfl, hB, World.grownBy.refl _ _⟩
  case round =>
    obtain ⟨j, hj, rfl, rfl, hb, hg⟩ := hrel
    have hx := shr8_nonneg n h0 h1 j
    by_cases hlt : j < m
    · have hc := hb.cell (lo + (m - 1 - j)) (by rw [putBE_len]; omega)
      have hf := hb.frozen (lo + (m - 1 - j))
      have hb2 := hb.set (lo + (m - 1 - j)) (byteOf (shr8 n j))
      rw [byteV_of] at hb2
      have HB := Lib.hid hb2
      have hg2 := grown_setCell hg (lo + (m - 1 - j)) (.int .u8 (shr8 n j % 256))
      have HG := Lib.hid hg2
      clear hb hb2 hg hg2
      go_wp2
      go_roundw
      case rel => exact ⟨j + 1, by omega, val_i (by omega), rfl, HB.out, HG.out⟩
      case measure => simp [intOf]; omega
    · obtain rfl : j = m := by omega
      have HB := Lib.hid hb; have HG := Lib.hid hg; clear hb hg
      go_wp2
      go_end0
      exact ⟨rfl, HB.out, HG.out⟩
end Go.Proofs.Ytogcpjkgliijmaa
