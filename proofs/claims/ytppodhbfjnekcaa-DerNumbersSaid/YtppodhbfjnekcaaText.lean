/- Text and Bool of both. -/
import Derived.Test.YtppodhbfjnekcaaRefAsInt
namespace Go.Proofs.Ytppodhbfjnekcaa
open Go.RowKit

/-- '[]byte(s)' in plain words. -/
theorem conv_bytes (W : World) (n : Nat) (hn : W.heap.size = n) (s : ByteArray) : ∃ (c : Nat) (w1 : World), (Go.convert 9 27 (.string s)).run Try.prog W = .ok (.slice (some ⟨n, 0, none⟩) s.size c) w1 ∧ Below n W w1 ∧ (∀ j, j < s.size → w1.cell? ⟨n, 0 + j, none⟩ = some (.int .u8 (s.data.toList.getD j 0).toNat)) := by
  subst hn
  have h := Lib.run_convert_string_bytes (P := Try.prog) W 9 27 5 s (u := .string) (by kernel_rfl) (by kernel_rfl) (by kernel_rfl)
  refine ⟨_, _, h, ⟨rfl, rfl, rfl, ?_, fun k hk => Lib.bytesWorld_at_old W 5 s k hk⟩, fun j hj => ?_⟩
  · rw [Lib.bytesWorld_size]; omega
  · rw [Nat.zero_add]; exact Lib.bytesWorld_cell W 5 s j hj

/-- The result's block is another one. -/
theorem cell_set4 {w : World} {B i j k m : Nat} {a b c d : Value} {p : Addr} (hp : B ≠ p.block) : ((((w.setCell ⟨B, i, none⟩ a).setCell ⟨B, j, none⟩ b).setCell ⟨B, k, none⟩ c).setCell ⟨B, m, none⟩ d).cell? p = w.cell? p := by
  rw [World.cell?_setCell_other _ _ _ _ (fun e => hp (by rw [← e])), World.cell?_setCell_other _ _ _ _ (fun e => hp (by rw [← e])), World.cell?_setCell_other _ _ _ _ (fun e => hp (by rw [← e])), World.cell?_setCell_other _ _ _ _ (fun e => hp (by rw [← e]))]

set_option maxHeartbeats 1000000 in
theorem text_der (s : ByteArray) (w : World) (hs : s.size ≤ 9223372036854775807) :
    Calls Try.prog 23 #[.string s] w fun e w' => ∃ v, e = .returned (.agg #[.int .i64 12, v, .bool false, .slice none 0 0]) ∧ Bts w' v s.data.toList ∧ Below w.heap.size w w' := by
  obtain ⟨c, w1, hcv, hb, hc⟩ := conv_bytes (w.alloc (.cells #[.int .i64 0, .slice none 0 0, .bool false, .slice none 0 0] 30)) (w.heap.size + 1) (by simp) s
  obtain ⟨⟨k0, k1, k2, k3⟩, ⟨f0, f1, f2, f3⟩, hz⟩ := res_kept hb
  have HC := Lib.hid hc; clear hc
  go_enter Try.func23, Try.ntmps23
  go_wp2
  refine bodyPost_ret (v := .agg #[.int .i64 12, .slice (some ⟨w.heap.size + 1, 0, none⟩) s.size c, .bool false, .slice none 0 0]) (by simp [results, Try.results23, go_sem, k0, k1, k2, k3, hz]) rfl ⟨_, rfl, ?_, ?_⟩
  · have hl : s.data.toList.length = s.size := Array.length_toList
    refine ⟨_, c, by rw [hl], by rw [hl]; exact hs, .inr ⟨w.heap.size + 1, 0, rfl, fun j hj => ?_⟩⟩
    rw [← HC.out j (by rw [← hl]; exact hj)]
    exact cell_set4 (by simp)
  · exact ((((below_of_res hb).setCell (by simp) _).setCell (by simp) _).setCell (by simp) _).setCell (by simp) _

set_option maxHeartbeats 1000000 in
theorem text_ref (s : ByteArray) (w : World) (hs : s.size ≤ 9223372036854775807) :
    Calls Try.prog 27 #[.string s] w fun e w' => ∃ v, e = .returned (.agg #[.int .i64 12, v, .bool false, .slice none 0 0]) ∧ Bts w' v s.data.toList ∧ Below w.heap.size w w' := by
  obtain ⟨c, w1, hcv, hb, hc⟩ := conv_bytes (w.alloc (.cells #[.int .i64 0, .slice none 0 0, .bool false, .slice none 0 0] 30)) (w.heap.size + 1) (by simp) s
  obtain ⟨⟨k0, k1, k2, k3⟩, ⟨f0, f1, f2, f3⟩, hz⟩ := res_kept hb
  have HC := Lib.hid hc; clear hc
  go_enter Try.func27, Try.ntmps27
  go_wp2
  refine bodyPost_ret (v := .agg #[.int .i64 12, .slice (some ⟨w.heap.size + 1, 0, none⟩) s.size c, .bool false, .slice none 0 0]) (by simp [results, Try.results27, go_sem, k0, k1, k2, k3, hz]) rfl ⟨_, rfl, ?_, ?_⟩
  · have hl : s.data.toList.length = s.size := Array.length_toList
    refine ⟨_, c, by rw [hl], by rw [hl]; exact hs, .inr ⟨w.heap.size + 1, 0, rfl, fun j hj => ?_⟩⟩
    rw [← HC.out j (by rw [← hl]; exact hj)]
    exact cell_set4 (by simp)
  · exact ((((below_of_res hb).setCell (by simp) _).setCell (by simp) _).setCell (by simp) _).setCell (by simp) _


/-- A new row of one byte reads so. -/
theorem bts_one (w : World) (n : Nat) (hn : w.heap.size = n) (x : UInt8) (i : Int) (hi : (x.toNat : Int) = i) (t : TypeId) : Bts (w.alloc (.cells #[.int .u8 i] t)) (.slice (some ⟨n, 0, none⟩) 1 1) [x] := by
  subst hn; subst hi
  refine ⟨_, 1, rfl, by simp, .inr ⟨w.heap.size, 0, rfl, fun j hj => ?_⟩⟩
  have : j = 0 := by simp at hj; omega
  subst this
  rw [Nat.add_zero, World.cell?_alloc_new]
  rfl

def boolB (b : Bool) : List UInt8 := if b then [255] else [0]

set_option maxHeartbeats 1000000 in
theorem bool_der (b : Bool) (w : World) :
    Calls Try.prog 25 #[.bool b] w fun e w' => ∃ v, e = .returned (.agg #[.int .i64 1, v, .bool false, .slice none 0 0]) ∧ Bts w' v (boolB b) ∧ Below w.heap.size w w' := by
  cases b
  · go_enter Try.func25, Try.ntmps25
    go_wp2
    exact bodyPost_ret (v := .agg #[.int .i64 1, .slice (some ⟨w.heap.size + 1, 0, none⟩) 1 1, .bool false, .slice none 0 0]) (by simp [results, Try.results25, go_sem]) rfl ⟨_, rfl, bts_one _ _ (by simp) 0 _ rfl _, ((Below.refl _ _).alloc (Nat.le_refl _) _).alloc (by simp) _⟩
  · go_enter Try.func25, Try.ntmps25
    go_wp2
    exact bodyPost_ret (v := .agg #[.int .i64 1, .slice (some ⟨w.heap.size + 1, 0, none⟩) 1 1, .bool false, .slice none 0 0]) (by simp [results, Try.results25, go_sem]) rfl ⟨_, rfl, bts_one _ _ (by simp) 255 _ rfl _, ((Below.refl _ _).alloc (Nat.le_refl _) _).alloc (by simp) _⟩

set_option maxHeartbeats 1000000 in
theorem bool_ref (b : Bool) (w : World) :
    Calls Try.prog 29 #[.bool b] w fun e w' => ∃ v, e = .returned (.agg #[.int .i64 1, v, .bool false, .slice none 0 0]) ∧ Bts w' v (boolB b) ∧ Below w.heap.size w w' := by
  cases b
  · go_enter Try.func29, Try.ntmps29
    go_wp2
    exact bodyPost_ret (v := .agg #[.int .i64 1, .slice (some ⟨w.heap.size + 1, 0, none⟩) 1 1, .bool false, .slice none 0 0]) (by simp [results, Try.results29, go_sem]) rfl ⟨_, rfl, bts_one _ _ (by simp) 0 _ rfl _, ((Below.refl _ _).alloc (Nat.le_refl _) _).alloc (by simp) _⟩
  · go_enter Try.func29, Try.ntmps29
    go_wp2
    exact bodyPost_ret (v := .agg #[.int .i64 1, .slice (some ⟨w.heap.size + 1, 0, none⟩) 1 1, .bool false, .slice none 0 0]) (by simp [results, Try.results29, go_sem]) rfl ⟨_, rfl, bts_one _ _ (by simp) 255 _ rfl _, ((Below.refl _ _).alloc (Nat.le_refl _) _).alloc (by simp) _⟩

end Go.Proofs.Ytppodhbfjnekcaa
