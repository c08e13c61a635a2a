/- The reference's number; the bytes of journal.Encode. -/
import Derived.Test.YtogcpjkgliijmaaJRead
namespace Go.Proofs.Ytogcpjkgliijmaa
open Go.RowKit

theorem shr8_shift (n : Int) (j : Nat) : shr8 (n / 256) j = shr8 n (j + 1) := by
  induction j with
  | zero => rfl
  | succ j ih => simp only [shr8] at ih ⊢; rw [ih]

theorem beS_front (j : Nat) : ∀ n : Int, beS n (j + 1) = byteOf (shr8 n j) :: beS n j := by
  induction j with
  | zero => intro n; rfl
  | succ j ih =>
    intro n
    rw [beS, ih (n / 256), shr8_shift]
    simp [beS]

theorem putBE_eq (l : List UInt8) (lo m : Nat) (n : Int) (hl : lo + m ≤ l.length) : ∀ j, j ≤ m → putBE l lo m n j = l.take (lo + (m - j)) ++ beS n j ++ l.drop (lo + m) := by
  intro j
  induction j with
  | zero => intro _; simp [putBE, beS]
  | succ j ih =>
    intro hj
    have ha : lo + (m - j) = lo + (m - 1 - j) + 1 := by omega
    have hlt : lo + (m - 1 - j) < l.length := by omega
    rw [putBE, ih (by omega), ha, List.take_succ_eq_append_getElem hlt, beS_front, show lo + (m - (j + 1)) = lo + (m - 1 - j) by omega]
    generalize hx : lo + (m - 1 - j) = x at *
    have hlen : (l.take x).length = x := by simp; omega
    simp only [List.append_assoc]
    rw [List.set_append_right _ _ (by omega), hlen, Nat.sub_self]
    rfl

theorem encB_eq (d : Dec) : encB d = encS d := by
  have e1 : enc1 d = beS d.day 3 ++ enc0.drop 3 := by unfold enc1; rw [putBE_eq _ _ _ _ (by rw [enc0_len]; decide) 3 (by omega)]; rfl
  have e2 : enc2 d = beS d.day 3 ++ (beS d.known 2 ++ enc0.drop 5) := by
    unfold enc2; rw [putBE_eq _ _ _ _ (by rw [enc1_len]; decide) 2 (by omega), e1]
    simp [enc0, beS]
  have e3 : enc3 d = beS d.day 3 ++ (beS d.known 2 ++ (beS d.kind 1 ++ enc0.drop 6)) := by
    unfold enc3; rw [putBE_eq _ _ _ _ (by rw [enc2_len]; decide) 1 (by omega), e2]
    simp [enc0, beS]
  have e4 : enc4 d = beS d.day 3 ++ (beS d.known 2 ++ (beS d.kind 1 ++ (beS d.subj 1 ++ enc0.drop 7))) := by
    unfold enc4; rw [putBE_eq _ _ _ _ (by rw [enc3_len]; decide) 1 (by omega), e3]
    simp [enc0, beS]
  have e5 : enc5 d = bodyS d ++ enc0.drop 8 := by
    unfold enc5; rw [putBE_eq _ _ _ _ (by rw [enc4_len]; decide) 1 (by omega), e4]
    simp [enc0, beS, bodyS]
  have e6 : (enc5 d).take 8 = bodyS d := by rw [e5, List.take_append_of_le_length (by rw [bodyS_len]; exact Nat.le_refl _), List.take_of_length_le (by rw [bodyS_len]; exact Nat.le_refl _)]
  unfold encB encS
  rw [putBE_eq _ _ _ _ (by rw [enc5_len]; decide) 4 (by omega), e6]
  have e7 : (enc5 d).drop (8 + 4) = [] := List.drop_of_length_le (by rw [enc5_len]; decide)
  rw [e7, List.append_nil]

theorem mk_bytes (m : Nat) (hm : m ≤ 4) (w : World) : (Instr.makeSlice 60 (.int .i64 m) (.int .i64 m)).run Try.prog w = .ok (.slice (some ⟨w.heap.size, 0, none⟩) m m) (w.alloc (.cells ((List.replicate m (0 : UInt8)).map byteV).toArray 5)) := by
  have h : m = 0 ∨ m = 1 ∨ m = 2 ∨ m = 3 ∨ m = 4 := by omega
  clear hm
  rcases h with rfl | rfl | rfl | rfl | rfl
  all_goals
    show _ = _
    kernel_rfl

set_option maxHeartbeats 1000000 in
theorem number_any (w : World) (n : Int) (m : Nat) (h0 : 0 ≤ n) (h1 : n < 4294967296) (hm : m ≤ 4) :
    Calls Try.prog 65 #[.int .i64 n, .int .i64 m] w fun e w' => e = .returned (.string ⟨(beS n m).toArray⟩) ∧ Below w.heap.size w w' := by
  have hmk := mk_bytes m hm w
  obtain ⟨B, hB⟩ : ∃ B, B = w.heap.size := ⟨_, rfl⟩
  have hblk : BBlk (w.alloc (.cells ((List.replicate m (0 : UInt8)).map byteV).toArray 5)) B 5 (List.replicate m 0) := by rw [hB]; exact heap_alloc_new _ _
  have hbel : Below B w (w.alloc (.cells ((List.replicate m (0 : UInt8)).map byteV).toArray 5)) := by rw [hB]; exact (Below.refl _ _).alloc (Nat.le_refl _) _
  rw [← hB] at hmk ⊢
  generalize w.alloc (.cells ((List.replicate m (0 : UInt8)).map byteV).toArray 5) = W at *
  clear hB
  go_enter Try.func65, Try.ntmps65
  go_wp2_with fail
  clear hmk
  go_loopw [0, 6] (fun x i wr => ∃ j : Nat, j ≤ m ∧ i = .int .i64 ((m : Int) - 1 - j) ∧ x = .int .i64 (shr8 n j) ∧ BBlk wr B 5 (putBE (List.replicate m 0) 0 m n j) ∧ Below B w wr) (fun _ i _ => (intOf i + 1).toNat)
  case atStart => exact ⟨0, Nat.zero_le _, by simp, rfl, hblk, hbel⟩
  case round =>
    obtain ⟨j, hj, rfl, rfl, hb, hg⟩ := hrel
    have hx := shr8_nonneg n h0 h1 j
    by_cases hlt : j < m
    · have hc := hb.cell (m - 1 - j) (by rw [putBE_len]; simp; omega)
      have hf := hb.frozen (m - 1 - j)
      have hb2 := hb.set (m - 1 - j) (byteOf (shr8 n j))
      rw [byteV_of] at hb2
      have HB := Lib.hid hb2
      have hg2 := hg.setCell (p := ⟨B, m - 1 - j, none⟩) (Nat.le_refl _) (.int .u8 (shr8 n j % 256))
      have HG := Lib.hid hg2
      have ha := i64_and255 (shr8 n j)
      clear hb hb2 hg hg2 hblk hbel
      go_wp2_with fail
      go_roundw
      case rel => exact ⟨j + 1, by omega, val_i (by omega), rfl, by simpa [putBE] using HB.out, HG.out⟩
      case measure => simp [intOf]; omega
    · obtain rfl : j = m := by omega
      have hl : (putBE (List.replicate j 0) 0 j n j).length = j := by rw [putBE_len]; simp
      have x := conv_blk (P := Try.prog) (w := wr) (k := j) (c := j) hb (by omega) 60 5 9 (by kernel_rfl) (by kernel_rfl) (by kernel_rfl)
      rw [List.take_of_length_le (by omega)] at x
      have e : putBE (List.replicate j 0) 0 j n j = beS n j := by
        rw [putBE_eq _ _ _ _ (by simp) j (Nat.le_refl _)]
        simp
      rw [e] at x
      have HG := Lib.hid hg
      clear hb hg hl e hblk hbel
      go_wp2_with fail
      go_ret
      exact ⟨rfl, HG.out⟩
end Go.Proofs.Ytogcpjkgliijmaa
