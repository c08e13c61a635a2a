/- The walk of JournalSums. -/
import Derived.Test.YtogcpjkgliijmaaJAwake
namespace Go.Proofs.Ytogcpjkgliijmaa
open Go.RowKit

/-- '[]byte(s)' in plain words. -/
theorem conv_new (W : World) (n : Nat) (hn : W.heap.size = n) (s : ByteArray) : ∃ (c : Nat) (w1 : World), (Go.convert 9 60 (.string s)).run Try.prog W = .ok (.slice (some ⟨n, 0, none⟩) s.size c) w1 ∧ Below n W w1 ∧
    (∀ j (hj : j < s.data.toList.length), w1.cell? ⟨n, j, none⟩ = some (.int .u8 s.data.toList[j].toNat) ∧ w1.frozen? ⟨n, j, none⟩ = false) := by
  subst hn
  have h := Lib.run_convert_string_bytes (P := Try.prog) W 9 60 5 s (u := .string) (by kernel_rfl) (by kernel_rfl) (by kernel_rfl)
  refine ⟨_, _, h, ⟨rfl, rfl, rfl, ?_, fun k hk => Lib.bytesWorld_at_old W 5 s k hk⟩, fun j hj => ?_⟩
  · rw [Lib.bytesWorld_size]; omega
  · have hl : s.data.toList.length = s.size := Array.length_toList
    have hc := Lib.bytesWorld_cell W 5 s j (by omega)
    refine ⟨by rw [hc, List.getD, List.getElem?_eq_getElem hj]; rfl, ?_⟩
    have hb := Lib.bytesWorld_at_new W 5 s
    have hlt : j < (Lib.bytesCells W 5 s).size := by
      unfold World.cell? at hc
      rw [hb] at hc
      simp only at hc
      rcases Nat.lt_or_ge j (Lib.bytesCells W 5 s).size with hq | hq
      · exact hq
      · exfalso; revert hc; simp [hq]
    unfold World.frozen?
    rw [hb]
    simp; omega

theorem fits_u8 {n : Int} (h : (Lit.int .u8 n).wf = true) : 0 ≤ n ∧ n ≤ 255 := by
  simp only [Lit.wf, IntKind.min, IntKind.max, IntKind.signed, IntKind.bits, Bool.and_eq_true, decide_eq_true_eq] at h
  simpa using h

def strA : ByteArray := ⟨#[97]⟩
def strFoobar : ByteArray := ⟨#[102, 111, 111, 98, 97, 114]⟩

theorem sum_strA (W : World) : Calls Try.prog 55 #[.string ⟨#[97]⟩] W fun e w' => e = .returned (.int .i64 3826002220) ∧ w' = W := by
  have h := sum_any ⟨#[97]⟩ W (by decide)
  change Calls Try.prog 55 #[.string ⟨#[97]⟩] W fun e w' => e = .returned (.int .i64 ((sumS [97] : Nat) : Int)) ∧ w' = W at h
  rw [sumS_a] at h
  exact h
theorem sum_strFoobar (W : World) : Calls Try.prog 55 #[.string ⟨#[102, 111, 111, 98, 97, 114]⟩] W fun e w' => e = .returned (.int .i64 3214735720) ∧ w' = W := by
  have h := sum_any ⟨#[102, 111, 111, 98, 97, 114]⟩ W (by decide)
  change Calls Try.prog 55 #[.string ⟨#[102, 111, 111, 98, 97, 114]⟩] W fun e w' => e = .returned (.int .i64 ((sumS [102, 111, 111, 98, 97, 114] : Nat) : Int)) ∧ w' = W at h
  rw [sumS_foobar] at h
  exact h

set_option maxHeartbeats 1000000 in
theorem jsums_empty (s : ByteArray) (x y : Int) (w : World) (h : s.data.toList = []) :
    Calls Try.prog 12 #[.string s, .int .u8 x, .int .u8 y] w fun r w' => r = .returned (.bool true) ∧ Below w.heap.size w w' := by
  obtain rfl : s = ByteArray.empty := by cases s; simp_all; rfl
  clear h
  go_enter Try.func12, Try.ntmps12
  go_wp2_with fail
  refine (sum_strA _).mono ?_; rintro r w1 ⟨rfl, rfl⟩
  go_wp2_with fail
  refine (sum_strFoobar _).mono ?_; rintro r w1 ⟨rfl, rfl⟩
  go_wp2_with fail
  refine (jawake_any _).mono ?_; rintro r w1 ⟨rfl, hb⟩
  go_wp2_with fail
  go_ret
  exact ⟨rfl, hb⟩

set_option maxHeartbeats 1000000 in
theorem jsums_long (s : ByteArray) (x y : Int) (w : World) (h : s.toList.isEmpty = false) (h2 : decide ((1000 : Int) < (s.size : Int)) = true) :
    Calls Try.prog 12 #[.string s, .int .u8 x, .int .u8 y] w fun r w' => r = .returned (.bool true) ∧ Below w.heap.size w w' := by
  go_enter Try.func12, Try.ntmps12
  go_wp2_with fail
  refine (sum_strA _).mono ?_; rintro r w1 ⟨rfl, rfl⟩
  go_wp2_with fail
  refine (sum_strFoobar _).mono ?_; rintro r w1 ⟨rfl, rfl⟩
  go_wp2_with fail
  refine (jawake_any _).mono ?_; rintro r w1 ⟨rfl, hb⟩
  go_wp2_with fail
  go_ret
  exact ⟨rfl, hb⟩

set_option maxHeartbeats 4000000 in
theorem jsums_short (s : ByteArray) (x y : Int) (w : World) (h : s.toList.isEmpty = false) (hs : s.size ≤ 1000) (hx : 0 ≤ x ∧ x ≤ 255) (hy : 0 ≤ y ∧ y ≤ 255) :
    Calls Try.prog 12 #[.string s, .int .u8 x, .int .u8 y] w fun r w' => r = .returned (.bool true) ∧ Below w.heap.size w w' := by
  have h2 : decide ((1000 : Int) < (s.size : Int)) = false := by simp; omega
  have hl : s.data.toList.length = s.size := Array.length_toList
  have hpos : 0 < s.size := by
    rw [ByteArray.toList_eq] at h
    rcases Nat.eq_zero_or_pos s.size with h0 | h0
    · rw [h0] at hl; rw [List.length_eq_zero_iff.1 hl] at h; simp at h
    · exact h0
  obtain ⟨i, hi, hil⟩ : ∃ i : Nat, x % (s.size : Int) = i ∧ i < s.size := ⟨(x % (s.size : Int)).toNat, by rw [Int.toNat_of_nonneg (Int.emod_nonneg _ (by omega))], by have := Int.emod_lt_of_pos x (show (0 : Int) < s.size by omega); have := Int.emod_nonneg x (show (s.size : Int) ≠ 0 by omega); omega⟩
  obtain ⟨c, w1, hcv, hb1, hcell⟩ := conv_new w w.heap.size rfl s
  obtain ⟨hc0, hf0⟩ := hcell i (by omega)
  have hil' : i < s.data.toList.length := by omega
  have hne : byteOf ((s.data[i].toNat : Int) + (1 + y % 255)) ≠ s.data.toList[i] := by
    intro e
    have e2 : (byteOf ((s.data[i].toNat : Int) + (1 + y % 255))).toNat = s.data[i].toNat := by rw [e]; rfl
    unfold byteOf at e2
    rw [UInt8.toNat_ofNat'] at e2
    have hb := s.data[i].toNat_lt
    omega
  have hdiff := sumS_set s.data.toList i _ hil' hne
  have hcv2 : (Go.convert 60 9 (.slice (some ⟨w.heap.size, 0, none⟩) s.size c)).run Try.prog (w1.setCell ⟨w.heap.size, i, none⟩ (.int .u8 (((s.data[i].toNat : Int) + (1 + y % 255)) % 256))) =
      .ok (.string ⟨(s.data.toList.set i (byteOf ((s.data[i].toNat : Int) + (1 + y % 255)))).toArray⟩) (w1.setCell ⟨w.heap.size, i, none⟩ (.int .u8 (((s.data[i].toNat : Int) + (1 + y % 255)) % 256))) := by
    refine conv_cells (by rw [List.length_set, hl]) (fun j hj => ?_) 60 5 9 (by kernel_rfl) (by kernel_rfl) (by kernel_rfl)
    rw [Nat.zero_add]
    rw [List.length_set] at hj
    by_cases hji : j = i
    · subst hji
      rw [List.getElem_set_self, World.cell?_setCell_same _ _ _ hc0]
      rw [← byteV_of]; rfl
    · rw [List.getElem_set_ne (Ne.symm hji), World.cell?_setCell_other _ _ _ _ (by intro e; injection e with _ e; exact hji e.symm)]
      exact (hcell j hj).1
  have hz1 : (⟨(s.data.toList.set i (byteOf ((s.data[i].toNat : Int) + (1 + y % 255)))).toArray⟩ : ByteArray).size ≤ maxLen := by
    show (s.data.toList.set i (byteOf ((s.data[i].toNat : Int) + (1 + y % 255)))).toArray.size ≤ maxLen
    rw [List.size_toArray, List.length_set, hl]; unfold maxLen; omega
  have cA := fun W => sum_any _ W hz1
  have cB := fun W => sum_any s W (by unfold maxLen; omega)
  have hlt := sumS_lt s.data.toList
  have hb2 : Below w.heap.size w (w1.setCell ⟨w.heap.size, i, none⟩ (.int .u8 (((s.data[i].toNat : Int) + (1 + y % 255)) % 256))) := hb1.setCell (by simp) _
  change ∀ W, Calls Try.prog 55 _ W fun e w' => e = .returned (.int .i64 (sumS (s.data.toList.set i _) : Nat)) ∧ w' = W at cA
  generalize sumS (s.data.toList.set i (byteOf ((s.data[i].toNat : Int) + (1 + y % 255)))) = X at cA hdiff
  generalize sumS s.data.toList = Y at cB hdiff hlt
  have hXY : (((X : Nat) : Int) != ((Y : Nat) : Int)) = true := by rw [bne_iff_ne]; omega
  have hY : decide ((Y : Int) < 4294967296) = true := by simp; omega
  have hY0 : decide ((0 : Int) ≤ (Y : Int)) = true := by simp
  have CA := Lib.hid cA; have CB := Lib.hid cB; clear cA cB
  clear hne hcell hdiff hlt hz1
  go_enter Try.func12, Try.ntmps12
  go_wp2_with fail
  refine (sum_strA _).mono ?_; rintro r w2 ⟨rfl, rfl⟩
  go_wp2_with fail
  refine (sum_strFoobar _).mono ?_; rintro r w2 ⟨rfl, rfl⟩
  go_wp2_with fail
  refine (CA.out _).mono ?_; rintro r w3 ⟨rfl, rfl⟩
  go_wp2_with fail
  refine (CB.out _).mono ?_; rintro r w3 ⟨rfl, rfl⟩
  go_wp2_with fail
  refine (CB.out _).mono ?_; rintro r w3 ⟨rfl, rfl⟩
  go_wp2_with fail
  refine (CB.out _).mono ?_; rintro r w3 ⟨rfl, rfl⟩
  go_wp2_with fail
  refine (jawake_any _).mono ?_; rintro r w3 ⟨rfl, hb3⟩
  go_wp2_with fail
  go_ret
  exact ⟨rfl, below_step hb2 hb3⟩

theorem jsums_any (s : ByteArray) (x y : Int) (w : World) (hx : 0 ≤ x ∧ x ≤ 255) (hy : 0 ≤ y ∧ y ≤ 255) :
    Calls Try.prog 12 #[.string s, .int .u8 x, .int .u8 y] w fun r w' => r = .returned (.bool true) ∧ Below w.heap.size w w' := by
  by_cases h : s.toList.isEmpty = true
  · rw [ByteArray.toList_eq] at h
    exact jsums_empty s x y w (by simpa using h)
  · have h' : s.toList.isEmpty = false := by simpa using h
    by_cases hs : s.size ≤ 1000
    · exact jsums_short s x y w h' hs hx hy
    · exact jsums_long s x y w h' (by simp; omega)
end Go.Proofs.Ytogcpjkgliijmaa
