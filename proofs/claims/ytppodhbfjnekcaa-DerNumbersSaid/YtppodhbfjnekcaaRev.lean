/- slices.Reverse at []byte, over a row that the caller made. -/
import Derived.Test.YtppodhbfjnekcaaBase
namespace Go.Proofs.Ytppodhbfjnekcaa
open Go.RowKit

/-- Bytes as cells. -/
def u8s (l : List UInt8) : List Value := l.map fun b => Value.int .u8 (b.toNat : Int)

theorem u8s_get (l : List UInt8) (j : Nat) (h : j < l.length) : (u8s l)[j]? = some (Value.int .u8 ((l.getD j 0).toNat : Int)) := by
  simp [u8s, List.getD, h]

theorem u8s_length (l : List UInt8) : (u8s l).length = l.length := by simp [u8s]

theorem u8s_set (l : List UInt8) (j : Nat) (b : UInt8) : (u8s l).set j (.int .u8 (b.toNat : Int)) = u8s (l.set j b) := by
  simp [u8s, List.map_set]

theorem grownBy_trans {a b c : World} {row : Option Nat} (h : a.grownBy b row) (k : b.grownBy c row) : a.grownBy c row :=
  ⟨k.os.trans h.os, k.tape.trans h.tape, k.output.trans h.output, Nat.le_trans h.size k.size, fun i hi hne => (k.block i (Nat.lt_of_lt_of_le hi h.size) hne).trans (h.block i hi hne)⟩

theorem grownBy_drew {a b : World} {row : Option Nat} (h : a.grownBy b row) : a.grownBy b.drew row := ⟨h.os, h.tape, h.output, h.size, h.block⟩

/-- What the loop has done after k rounds. -/
structure RevAt (l d : List UInt8) (k : Nat) : Prop where
  len : d.length = l.length
  at' : ∀ t, t < l.length → d.getD t 0 = if t < k ∨ l.length - k ≤ t then l.getD (l.length - 1 - t) 0 else l.getD t 0

theorem RevAt.start (l : List UInt8) : RevAt l l 0 := ⟨rfl, fun t ht => by rw [if_neg (by omega)]⟩

theorem getD_set (l : List UInt8) (i : Nat) (b : UInt8) (hi : i < l.length) (t : Nat) : (l.set i b).getD t 0 = if t = i then b else l.getD t 0 := by
  simp only [List.getD, List.getElem?_set]
  by_cases h : i = t
  · subst h; simp [hi]
  · rw [if_neg h, if_neg (Ne.symm h)]

theorem RevAt.step {l d : List UInt8} {k : Nat} (h : RevAt l d k) (hk : 2 * k + 1 < l.length) :
    RevAt l ((d.set k (d.getD (l.length - 1 - k) 0)).set (l.length - 1 - k) (d.getD k 0)) (k + 1) := by
  refine ⟨by simp [h.len], fun t ht => ?_⟩
  rw [getD_set _ _ _ (by simp [h.len]; omega), getD_set _ _ _ (by rw [h.len]; omega)]
  by_cases h1 : t = l.length - 1 - k
  · rw [if_pos h1, if_pos (by omega), h.at' k (by omega), if_neg (by omega), h1]
    congr 1; omega
  · rw [if_neg h1]
    by_cases h2 : t = k
    · rw [if_pos h2, if_pos (by omega), h.at' _ (by omega), if_neg (by omega), h2]
    · rw [if_neg h2, h.at' t ht]
      by_cases h3 : t < k ∨ l.length - k ≤ t
      · rw [if_pos h3, if_pos (by omega)]
      · rw [if_neg h3, if_neg (by omega)]

theorem RevAt.stop {l d : List UInt8} {k : Nat} (h : RevAt l d k) (hk : l.length ≤ 2 * k + 1) : d = l.reverse := by
  apply List.ext_getElem (by simp [h.len])
  intro t h1 h2
  have hl : t < l.length := by rw [← h.len]; exact h1
  have e := h.at' t hl
  have e1 : d.getD t 0 = d[t] := by simp [List.getD, h1]
  rw [e1] at e
  rw [e, List.getElem_reverse]
  have e2 : l.getD (l.length - 1 - t) 0 = l[l.length - 1 - t] := by simp [List.getD, show l.length - 1 - t < l.length by omega]
  by_cases h3 : t < k ∨ l.length - k ≤ t
  · rw [if_pos h3, e2]
  · rw [if_neg h3, ← e2]
    congr 1; omega

set_option maxHeartbeats 1000000 in
theorem reverse_any (base g n cap : Nat) (l : List UInt8) (w : World) (hn : 0 < n) (hown : w.ownsRow base 5 1 (.slice (some ⟨g, 0, none⟩) n cap) n (u8s l)) :
    Calls Try.prog 53 #[.slice (some ⟨g, 0, none⟩) n cap] w fun e w' => e = .returned (.tuple #[]) ∧ w'.ownsRow base 5 1 (.slice (some ⟨g, 0, none⟩) n cap) n (u8s l.reverse) ∧ w.grownBy w' (some g) := by
  have hl : l.length = n := by have := hown.1; rw [u8s_length] at this; omega
  have hmax : n ≤ 9223372036854775807 := by
    rcases hown.2 with ⟨h, _⟩ | ⟨g', cap', cur, h, _, _, h1, h2, _⟩
    · cases h
    · unfold maxLen at h2; omega
  have HL := Lib.hid hl; clear hl
  go_enter Try.func53, Try.ntmps53
  go_wp2_with fail
  go_loopw [2, 3] (fun i j wr => ∃ (k m : Nat) (d : List UInt8), k ≤ m + 1 ∧ k + m + 1 = n ∧ i = .int .i64 k ∧ j = .int .i64 m ∧ RevAt l d k ∧ wr.ownsRow base 5 1 (.slice (some ⟨g, 0, none⟩) n cap) n (u8s d) ∧ w.grownBy wr (some g))
    (fun _ j _ => (intOf j + 1).toNat)
  case atStart => exact ⟨0, n - 1, l, by omega, by omega, rfl, by go_num, RevAt.start l, hown, ⟨rfl, rfl, rfl, Nat.le_refl _, fun _ _ _ => rfl⟩⟩
  case round =>
    obtain ⟨k, m, d, hk, hkm, rfl, rfl, hR, ho, hg⟩ := hrel
    have hd : d.length = n := hR.len.trans HL.out
    have HD := Lib.hid hd; clear hd
    have HK := Lib.hid hkm
    by_cases hlt : k < m
    · obtain ⟨x, hx⟩ : ∃ x, x = (d.getD k 0) := ⟨_, rfl⟩
      obtain ⟨y, hy⟩ : ∃ y, y = (d.getD m 0) := ⟨_, rfl⟩
      have HX := Lib.hid hx
      have HY := Lib.hid hy
      have cx : wr.cell? ⟨g, k, none⟩ = some (.int .u8 (x.toNat : Int)) := by
        rw [ho.cellAt k (by omega), u8s_get d k (by rw [HD.out]; omega), hx]
      have cy : wr.cell? ⟨g, m, none⟩ = some (.int .u8 (y.toNat : Int)) := by
        rw [ho.cellAt m (by omega), u8s_get d m (by rw [HD.out]; omega), hy]
      have fx : wr.frozen? ⟨g, k, none⟩ = false := ho.frozenAt k
      have fy : wr.frozen? ⟨g, m, none⟩ = false := ho.frozenAt m
      have hmn : m < n := by omega
      have hkn : k < n := by omega
      clear hkm hx hy
      go_wp2
      go_region
      go_wp2
      go_roundw
      case rel =>
        have s1 := ho.stored k (.int .u8 (y.toNat : Int))
        have s2 := s1.1.stored m (.int .u8 (x.toNat : Int))
        rw [u8s_set, u8s_set] at s2
        have st := hR.step (by rw [HL.out]; have := HK.out; omega)
        rw [show l.length - 1 - k = m from by rw [HL.out]; have := HK.out; omega, ← HX.out, ← HY.out] at st
        exact ⟨k + 1, m - 1, _, by omega, by have := HK.out; omega, by go_num, by congr 1; omega, st, s2.1, grownBy_drew (grownBy_trans (grownBy_trans hg s1.2) s2.2)⟩
      case measure => simp [intOf]
    · go_wp2
      go_end0
      refine ⟨rfl, ?_, hg⟩
      have := hR.stop (by rw [HL.out]; omega)
      rw [← this]
      exact ho

end Go.Proofs.Ytppodhbfjnekcaa
