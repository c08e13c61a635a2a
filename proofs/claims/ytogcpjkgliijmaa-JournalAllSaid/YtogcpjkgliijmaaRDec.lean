/- The reference's value and Decode; both Decodes out of range. -/
import Derived.Test.YtogcpjkgliijmaaRefV
namespace Go.Proofs.Ytogcpjkgliijmaa
open Go.RowKit
attribute [local go_sem ↓] Go.wp_at_zero Go.wp_at_succ

set_option maxHeartbeats 1000000 in
theorem value_ba (w : World) (s : ByteArray) (hm4 : s.size ≤ 4) :
    Calls Try.prog 67 #[.string s] w fun e w' => e = .returned (.int .i64 (valS s.data.toList : Nat)) ∧ w' = w := by
  have hsl : s.data.toList.length = s.size := Array.length_toList
  have HSL := Lib.hid hsl; clear hsl
  go_enter Try.func67, Try.ntmps67
  go_wp2_with fail
  go_loop [3, 4] (fun n i => ∃ k : Nat, k ≤ s.size ∧ i = .int .i64 k ∧ n = .int .i64 (valS (s.data.toList.take k) : Nat)) (fun _ i => s.size - (intOf i).toNat)
  case atStart => exact ⟨0, Nat.zero_le _, rfl, by rw [List.take_zero]; rfl⟩
  case round =>
    obtain ⟨k, hk, rfl, rfl⟩ := hrel
    have hv := valS_lt k (s.data.toList.take k) (by rw [List.length_take, HSL.out]; omega)
    have hv2 : valS (s.data.toList.take k) < 4294967296 := Nat.lt_of_lt_of_le hv (Nat.pow_le_pow_right (by omega) (show k ≤ 4 by omega))
    by_cases hlt : k < s.size
    · have hn : valS (s.data.toList.take (k + 1)) = valS (s.data.toList.take k) * 256 + s[k].toNat := by rw [take_snoc s k hlt, valS_snoc]
      have hr := read_round (valS (s.data.toList.take k)) s[k] hv2
      rw [← hn] at hr
      have hb := s[k].toNat_lt
      generalize valS (s.data.toList.take k) = x at *
      have HR := Lib.hid hr
      clear hn hr hv
      go_wp2_with fail
      go_round
      case rel => exact ⟨k + 1, by omega, by go_num, by rw [HR.out]⟩
      case measure => simp [intOf]; omega
    · have he : s.data.toList.take k = s.data.toList := List.take_of_length_le (by rw [HSL.out]; omega)
      have HE := Lib.hid he
      clear he
      go_wp2_with fail
      go_ret
      exact ⟨ret_int (by first | rfl | rw [HE.out]), rfl⟩

theorem value_any (w : World) (l : List UInt8) (hm4 : l.length ≤ 4) :
    Calls Try.prog 67 #[.string ⟨l.toArray⟩] w fun e w' => e = .returned (.int .i64 (valS l : Nat)) ∧ w' = w :=
  value_ba w ⟨l.toArray⟩ (by rw [ba_size]; exact hm4)

set_option maxHeartbeats 1000000 in
theorem decode_out (s : List UInt8) (z : Int) (w : World) (hz : decide (z < 0) = true ∨ (decide (z < 0) = false ∧ decide ((s.length : Int) < z) = true)) :
    Calls Try.prog 53 #[.string ⟨s.toArray⟩, .int .i64 z] w fun e w' => e = .returned (.tuple #[dz.val, .int .i64 0, .int .i64 2]) ∧ Below w.heap.size w w' := by
  obtain ⟨R, hR⟩ : ∃ R, R = w.heap.size := ⟨_, rfl⟩
  have hI : DI w (w.alloc (.cells #[.int .i64 0, .int .i64 0, .int .i64 0, .int .i64 0, .int .i64 0] 27)) R := by
    subst hR
    exact ⟨heap_alloc_new _ _, (Below.refl _ _).alloc (Nat.le_refl _) _, rfl⟩
  obtain ⟨⟨y0, y1, y2, y3, y4⟩, yf⟩ := hI.cells
  have HI := Lib.hid hI
  clear hI
  rcases hz with f1 | ⟨f1, f2⟩
  all_goals
    go_enter Try.func53, Try.ntmps53
    go_upto_region 1 with (fail)
    rw [← hR]
    generalize w.alloc (.cells #[.int .i64 0, .int .i64 0, .int .i64 0, .int .i64 0, .int .i64 0] 27) = W at *
    clear hR
    go_wp2_with fail
    exact dec_fin dz HI.out rfl rfl rfl rfl

theorem res54_run {W : World} {b : Nat} {d : Dec} {n e : Int} {a : Act} (hh : W.heap[b]? = some (.cells (cells5 d).toArray 27 (0, 0))) (ht : a.tmps.getD 4 undef = .pointer (some ⟨b, 0, none⟩)) (h5 : a.tmps.getD 5 undef = .int .i64 n) (h6 : a.tmps.getD 6 undef = .int .i64 e) :
    (results Try.f54 a.tmps).run Try.prog W = .ok (.tuple #[d.val, .int .i64 n, .int .i64 e]) W := by
  have e0 := cell_of_row _ b 0 _ _ _ hh
  have e1 := cell_of_row _ b 1 _ _ _ hh
  have e2 := cell_of_row _ b 2 _ _ _ hh
  have e3 := cell_of_row _ b 3 _ _ _ hh
  have e4 := cell_of_row _ b 4 _ _ _ hh
  unfold Dec.val
  simp [cells5] at e0 e1 e2 e3 e4 ht h5 h6
  clear hh
  simp [results, Try.results54, go_sem, ht, h5, h6, e0, e1, e2, e3, e4]

theorem rdec_fin {w W : World} {R : Nat} (d : Dec) {n e : Int} {a : Act} (h : DI w W R) (ht : a.tmps.getD 4 undef = .pointer (some ⟨R, 0, none⟩)) (h5 : a.tmps.getD 5 undef = .int .i64 n) (h6 : a.tmps.getD 6 undef = .int .i64 e) (hd : a.defers = []) :
    bodyPost Try.prog Try.f54 (fun r w' => r = .returned (.tuple #[d.val, .int .i64 n, .int .i64 e]) ∧ Below w.heap.size w w') .ret a (resW W R d.day d.known d.kind d.subj d.value) := by
  refine bodyPost_ret (res54_run (resW_heap d.day d.known d.kind d.subj d.value h.res) ht h5 h6) hd ⟨rfl, ?_⟩
  have he := h.eq
  unfold resW
  exact ((((h.below.setCell (by simp only; omega) _).setCell (by simp only; omega) _).setCell (by simp only; omega) _).setCell (by simp only; omega) _).setCell (by simp only; omega) _

set_option maxHeartbeats 1000000 in
theorem refdecode_out (s : List UInt8) (z : Int) (w : World) (hz : decide (z < 0) = true ∨ (decide (z < 0) = false ∧ decide ((s.length : Int) < z) = true)) :
    Calls Try.prog 54 #[.string ⟨s.toArray⟩, .int .i64 z] w fun e w' => e = .returned (.tuple #[dz.val, .int .i64 0, .int .i64 2]) ∧ Below w.heap.size w w' := by
  obtain ⟨R, hR⟩ : ∃ R, R = w.heap.size := ⟨_, rfl⟩
  have hI : DI w (w.alloc (.cells #[.int .i64 0, .int .i64 0, .int .i64 0, .int .i64 0, .int .i64 0] 27)) R := by
    subst hR
    exact ⟨heap_alloc_new _ _, (Below.refl _ _).alloc (Nat.le_refl _) _, rfl⟩
  obtain ⟨⟨y0, y1, y2, y3, y4⟩, yf⟩ := hI.cells
  have HI := Lib.hid hI
  clear hI
  rcases hz with f1 | ⟨f1, f2⟩
  all_goals
    go_enter Try.func54, Try.ntmps54
    go_upto_region 1 with (fail)
    rw [← hR]
    generalize w.alloc (.cells #[.int .i64 0, .int .i64 0, .int .i64 0, .int .i64 0, .int .i64 0] 27) = W at *
    clear hR
    go_wp2_with fail
    exact rdec_fin dz HI.out rfl rfl rfl rfl

theorem ext_part (l : List UInt8) (a b : Nat) : (⟨l.toArray⟩ : ByteArray).extract a b = ⟨((l.take b).drop a).toArray⟩ := by
  apply ByteArray.ext
  simp [ByteArray.data_extract, List.drop_take]
end Go.Proofs.Ytogcpjkgliijmaa
