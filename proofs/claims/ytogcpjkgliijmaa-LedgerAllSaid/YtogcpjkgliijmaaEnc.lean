/- journal.Encode. -/
import Derived.Test.YtogcpjkgliijmaaWrite
import Derived.Test.YtogcpjkgliijmaaSum
import Derived.Lib.ConvBytes
namespace Go.Proofs.Ytogcpjkgliijmaa
open Go.RowKit

/-- 'string(b)' of cells that hold bytes. -/
theorem conv_cells {P : Program} {w : World} {b o k c : Nat} {l : List UInt8} (hk : l.length = k) (h : ∀ j (hj : j < l.length), w.cell? ⟨b, o + j, none⟩ = some (.int .u8 l[j].toNat)) (src e dst : TypeId)
    (hs : P.underlying src = some (.slice e)) (he : P.underlying e = some (.int .u8)) (hd : P.underlying dst = some .string) :
    (convert src dst (.slice (some ⟨b, o, none⟩) k c)).run P w = .ok (.string ⟨l.toArray⟩) w := by
  subst hk
  have hx : (l.map fun b => (b.toNat : Int)).length = l.length := by simp
  rw [run_convert_bytes_arg (P := P) w src e hs he b o l.length c (l.map fun b => (b.toNat : Int)) hx (by
    intro i hi
    rw [h i hi]
    simp [List.getD, hi]) dst hd]
  simp [strOfNums, Function.comp_def]

theorem conv_blk {P : Program} {w : World} {B k c : Nat} {t : TypeId} {l : List UInt8} (h : BBlk w B t l) (hk : k ≤ l.length) (src e dst : TypeId)
    (hs : P.underlying src = some (.slice e)) (he : P.underlying e = some (.int .u8)) (hd : P.underlying dst = some .string) :
    (convert src dst (.slice (some ⟨B, 0, none⟩) k c)).run P w = .ok (.string ⟨(l.take k).toArray⟩) w :=
  conv_cells (by simp; omega) (fun j hj => by
    have hj' : j < l.length := by simp at hj; omega
    have e : (l.take k)[j] = l[j] := by simp
    rw [e, Nat.zero_add]; exact h.cell j hj') src e dst hs he hd

def enc0 : List UInt8 := List.replicate 12 0
def enc1 (d : Dec) : List UInt8 := putBE enc0 0 3 d.day 3
def enc2 (d : Dec) : List UInt8 := putBE (enc1 d) 3 2 d.known 2
def enc3 (d : Dec) : List UInt8 := putBE (enc2 d) 5 1 d.kind 1
def enc4 (d : Dec) : List UInt8 := putBE (enc3 d) 6 1 d.subj 1
def enc5 (d : Dec) : List UInt8 := putBE (enc4 d) 7 1 d.value 1
def encB (d : Dec) : List UInt8 := putBE (enc5 d) 8 4 (sumS ((enc5 d).take 8) : Nat) 4
theorem enc0_len : enc0.length = 12 := by simp [enc0]
theorem enc1_len (d : Dec) : (enc1 d).length = 12 := by simp [enc1, putBE_len, enc0_len]
theorem enc2_len (d : Dec) : (enc2 d).length = 12 := by simp [enc2, putBE_len, enc1_len]
theorem enc3_len (d : Dec) : (enc3 d).length = 12 := by simp [enc3, putBE_len, enc2_len]
theorem enc4_len (d : Dec) : (enc4 d).length = 12 := by simp [enc4, putBE_len, enc3_len]
theorem enc5_len (d : Dec) : (enc5 d).length = 12 := by simp [enc5, putBE_len, enc4_len]
theorem encB_len (d : Dec) : (encB d).length = 12 := by simp [encB, putBE_len, enc5_len]

set_option maxHeartbeats 1000000 in
theorem encode_bad (d : Dec) (w : World) (h : d.ok = false) :
    Calls Try.prog 40 #[d.val] w fun r w' => r = .returned (.tuple #[.string ByteArray.empty, .int .i64 57]) ∧ Below w.heap.size w w' := by
  have c1 := fun W => jvalid_any d W
  rw [h] at c1
  unfold Dec.val at c1 ⊢
  have C1 := Lib.hid c1; clear c1
  go_enter Try.func40, Try.ntmps40
  go_wp2_with fail
  refine (C1.out _).mono ?_; rintro r w1 ⟨rfl, hb⟩
  go_wp2_with fail
  go_ret2
  exact ⟨rfl, below_of_alloc hb⟩

/-- What stays on the way through Encode. -/
structure EncS (d : Dec) (w W : World) (B : Nat) (l : List UInt8) : Prop where
  blk : BBlk W B 84 l
  lt : w.heap.size < B
  c0 : W.cell? ⟨w.heap.size, 0, none⟩ = some (.int .i64 d.day)
  c1 : W.cell? ⟨w.heap.size, 1, none⟩ = some (.int .i64 d.known)
  c2 : W.cell? ⟨w.heap.size, 2, none⟩ = some (.int .i64 d.kind)
  c3 : W.cell? ⟨w.heap.size, 3, none⟩ = some (.int .i64 d.subj)
  c4 : W.cell? ⟨w.heap.size, 4, none⟩ = some (.int .i64 d.value)
  below : Below w.heap.size w W

theorem EncS.step {d : Dec} {w W W' : World} {B : Nat} {l l' : List UInt8} (h : EncS d w W B l) (hg : W.drew.grownBy W' (some B)) (hb : BBlk W' B 84 l') : EncS d w W' B l' := by
  have hne : ∀ o, some (⟨w.heap.size, o, none⟩ : Addr).block ≠ some B := fun o e => by injection e with e; have := h.lt; simp only at e; omega
  exact ⟨hb, h.lt, hg.cell (w := W.drew) h.c0 (hne 0), hg.cell (w := W.drew) h.c1 (hne 1), hg.cell (w := W.drew) h.c2 (hne 2), hg.cell (w := W.drew) h.c3 (hne 3), hg.cell (w := W.drew) h.c4 (hne 4),
    ⟨hg.os.trans h.below.os, hg.tape.trans h.below.tape, hg.output.trans h.below.output, Nat.le_trans h.below.size hg.size, fun k hk => (hg.block k (Nat.lt_of_lt_of_le hk h.below.size) (fun e => by injection e with e; have := h.lt; omega)).trans (h.below.block k hk)⟩⟩

set_option maxHeartbeats 4000000 in
theorem encode_ok (d : Dec) (w : World) (h : d.ok = true) :
    Calls Try.prog 40 #[d.val] w fun r w' => r = .returned (.tuple #[.string ⟨(encB d).toArray⟩, .int .i64 0]) ∧ Below w.heap.size w w' := by
  obtain ⟨⟨d0, d1⟩, ⟨k0, k1⟩, ⟨n0, n1⟩, ⟨s0, s1⟩, ⟨v0, v1⟩⟩ := validB_true h
  have c1 := fun W => jvalid_any d W
  rw [h] at c1
  unfold Dec.val at c1 ⊢
  have C1 := Lib.hid c1; clear c1
  go_enter Try.func40, Try.ntmps40
  go_wp2_with fail
  refine (C1.out _).mono ?_; rintro r w1 ⟨rfl, hb⟩
  have x0 : w1.cell? ⟨w.heap.size, 0, none⟩ = some (.int .i64 d.day) := by rw [hb.cell (p := ⟨w.heap.size, 0, none⟩) (by simp)]; simp
  have x1 : w1.cell? ⟨w.heap.size, 1, none⟩ = some (.int .i64 d.known) := by rw [hb.cell (p := ⟨w.heap.size, 1, none⟩) (by simp)]; simp
  have x2 : w1.cell? ⟨w.heap.size, 2, none⟩ = some (.int .i64 d.kind) := by rw [hb.cell (p := ⟨w.heap.size, 2, none⟩) (by simp)]; simp
  have x3 : w1.cell? ⟨w.heap.size, 3, none⟩ = some (.int .i64 d.subj) := by rw [hb.cell (p := ⟨w.heap.size, 3, none⟩) (by simp)]; simp
  have x4 : w1.cell? ⟨w.heap.size, 4, none⟩ = some (.int .i64 d.value) := by rw [hb.cell (p := ⟨w.heap.size, 4, none⟩) (by simp)]; simp
  have hsz : w.heap.size < w1.heap.size := by have := hb.size; simp at this; omega
  have hb' := below_of_alloc hb
  have hX : EncS d w (w1.alloc (.cells #[.int .u8 0, .int .u8 0, .int .u8 0, .int .u8 0, .int .u8 0, .int .u8 0, .int .u8 0, .int .u8 0, .int .u8 0, .int .u8 0, .int .u8 0, .int .u8 0] 84)) w1.heap.size enc0 :=
    ⟨heap_alloc_new _ _, hsz, by rw [World.cell?_alloc_lt _ _ _ hsz]; exact x0, by rw [World.cell?_alloc_lt _ _ _ hsz]; exact x1, by rw [World.cell?_alloc_lt _ _ _ hsz]; exact x2, by rw [World.cell?_alloc_lt _ _ _ hsz]; exact x3, by rw [World.cell?_alloc_lt _ _ _ hsz]; exact x4, hb'.alloc (by omega) _⟩
  clear x0 x1 x2 x3 x4 hb
  obtain ⟨B, hB⟩ : ∃ B, B = w1.heap.size := ⟨_, rfl⟩
  rw [← hB] at hX
  go_wp2_with fail
  rw [← hB]
  generalize w1.alloc (.cells #[.int .u8 0, .int .u8 0, .int .u8 0, .int .u8 0, .int .u8 0, .int .u8 0, .int .u8 0, .int .u8 0, .int .u8 0, .int .u8 0, .int .u8 0, .int .u8 0] 84) = W at *
  clear hB hb'
  refine wp_region_still_tail 3 (by kernel_rfl) (by kernel_rfl) ?_
  change wpStill _ _ W.drew (fun a' => wpList _ _ _ _ a' W.drew) _ _
  have x := hX.c0
  simp only [List.take_succ_cons, List.take_zero, List.drop_succ_cons, List.drop_zero]
  repeat still_step
  refine wpStill_nil ?_
  clear x
  go_wp2_with fail
  refine (write_any W.drew B 0 3 _ 84 (enc0) d.day (by omega) (by omega) hX.blk (by rw [enc0_len]; decide) (by rw [enc0_len]; decide)).mono ?_
  rintro r W2 ⟨rfl, q1, q2⟩
  have hX2 := hX.step q2 q1
  change EncS d w W2 B (enc1 d) at hX2
  clear q1 q2 hX
  go_wp2_with fail
  refine wp_region_still_tail 3 (by kernel_rfl) (by kernel_rfl) ?_
  change wpStill _ _ W2.drew (fun a' => wpList _ _ _ _ a' W2.drew) _ _
  have x := hX2.c1
  simp only [List.take_succ_cons, List.take_zero, List.drop_succ_cons, List.drop_zero]
  repeat still_step
  refine wpStill_nil ?_
  clear x
  go_wp2_with fail
  refine (write_any W2.drew B 3 2 _ 84 (enc1 d) d.known (by omega) (by omega) hX2.blk (by rw [enc1_len]; decide) (by rw [enc1_len]; decide)).mono ?_
  rintro r W3 ⟨rfl, q1, q2⟩
  have hX3 := hX2.step q2 q1
  change EncS d w W3 B (enc2 d) at hX3
  clear q1 q2 hX2
  go_wp2_with fail
  refine wp_region_still_tail 3 (by kernel_rfl) (by kernel_rfl) ?_
  change wpStill _ _ W3.drew (fun a' => wpList _ _ _ _ a' W3.drew) _ _
  have x := hX3.c2
  simp only [List.take_succ_cons, List.take_zero, List.drop_succ_cons, List.drop_zero]
  repeat still_step
  refine wpStill_nil ?_
  clear x
  go_wp2_with fail
  refine (write_any W3.drew B 5 1 _ 84 (enc2 d) d.kind (by omega) (by omega) hX3.blk (by rw [enc2_len]; decide) (by rw [enc2_len]; decide)).mono ?_
  rintro r W4 ⟨rfl, q1, q2⟩
  have hX4 := hX3.step q2 q1
  change EncS d w W4 B (enc3 d) at hX4
  clear q1 q2 hX3
  go_wp2_with fail
  refine wp_region_still_tail 3 (by kernel_rfl) (by kernel_rfl) ?_
  change wpStill _ _ W4.drew (fun a' => wpList _ _ _ _ a' W4.drew) _ _
  have x := hX4.c3
  simp only [List.take_succ_cons, List.take_zero, List.drop_succ_cons, List.drop_zero]
  repeat still_step
  refine wpStill_nil ?_
  clear x
  go_wp2_with fail
  refine (write_any W4.drew B 6 1 _ 84 (enc3 d) d.subj (by omega) (by omega) hX4.blk (by rw [enc3_len]; decide) (by rw [enc3_len]; decide)).mono ?_
  rintro r W5 ⟨rfl, q1, q2⟩
  have hX5 := hX4.step q2 q1
  change EncS d w W5 B (enc4 d) at hX5
  clear q1 q2 hX4
  go_wp2_with fail
  refine wp_region_still_tail 3 (by kernel_rfl) (by kernel_rfl) ?_
  change wpStill _ _ W5.drew (fun a' => wpList _ _ _ _ a' W5.drew) _ _
  have x := hX5.c4
  simp only [List.take_succ_cons, List.take_zero, List.drop_succ_cons, List.drop_zero]
  repeat still_step
  refine wpStill_nil ?_
  clear x
  go_wp2_with fail
  refine (write_any W5.drew B 7 1 _ 84 (enc4 d) d.value (by omega) (by omega) hX5.blk (by rw [enc4_len]; decide) (by rw [enc4_len]; decide)).mono ?_
  rintro r W6 ⟨rfl, q1, q2⟩
  have hX6 := hX5.step q2 q1
  change EncS d w W6 B (enc5 d) at hX6
  clear q1 q2 hX5
  go_wp2_with fail
  refine wp_region_still_tail 4 (by kernel_rfl) (by kernel_rfl) ?_
  change wpStill _ _ W6.drew (fun a' => wpList _ _ _ _ a' W6.drew) _ _
  have x := conv_blk (P := Try.prog) (w := W6.drew) (k := 8) (c := 12) hX6.blk (by rw [enc5_len]; decide) 60 5 9 (by kernel_rfl) (by kernel_rfl) (by kernel_rfl)
  simp only [List.take_succ_cons, List.take_zero, List.drop_succ_cons, List.drop_zero]
  repeat still_step
  have cS := sum_any ⟨(List.take 8 (enc5 d)).toArray⟩ W6.drew (by show (List.take 8 (enc5 d)).toArray.size ≤ maxLen; rw [List.size_toArray, List.length_take]; unfold maxLen; omega)
  still_call cS
  refine wpStill_nil ?_
  clear x cS
  go_wp2_with fail
  have hlt : (sumS (List.take 8 (enc5 d)) : Int) < 4294967296 := by have := sumS_lt (List.take 8 (enc5 d)); omega
  refine (write_any W6.drew B 8 4 _ 84 (enc5 d) _ (by omega) hlt hX6.blk (by rw [enc5_len]; decide) (by rw [enc5_len]; decide)).mono ?_
  rintro r W7 ⟨rfl, q1, q2⟩
  have hX7 := hX6.step q2 q1
  change EncS d w W7 B (encB d) at hX7
  clear q1 q2 hX6 hlt
  have x := conv_blk (P := Try.prog) (w := W7) (k := 12) (c := 12) hX7.blk (by rw [encB_len]; decide) 60 5 9 (by kernel_rfl) (by kernel_rfl) (by kernel_rfl)
  rw [List.take_of_length_le (by rw [encB_len]; decide)] at x
  go_wp2_with fail
  go_ret2
  exact ⟨rfl, hX7.below⟩
end Go.Proofs.Ytogcpjkgliijmaa
