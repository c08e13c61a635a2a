/- The specification's Int: the same bytes. -/
import Derived.Test.YtppodhbfjnekcaaInt
namespace Go.Proofs.Ytppodhbfjnekcaa
open Go.RowKit

theorem rev_snoc_head (l : List UInt8) (b : UInt8) : (l ++ [b]).reverse = b :: l.reverse := by simp

/-- The length in a slot. -/
def lenOf : Value → Nat
  | .slice _ n _ => n
  | _ => 0

theorem lenOf_slice (p : Option Addr) (n c : Nat) : lenOf (.slice p n c) = n := rfl

set_option maxHeartbeats 1000000 in
theorem int_ref (n : Int) (w : World) (h1 : -9223372036854775808 ≤ n) (h2 : n ≤ 9223372036854775807) :
    Calls Try.prog 28 #[.int .i64 n] w fun e w' => ∃ v, e = .returned (.agg #[.int .i64 2, v, .bool false, .slice none 0 0]) ∧ Bts w' v (intB n) ∧ Below w.heap.size w w' := by
  obtain ⟨i0, hi, hz0, hz1, hz2⟩ := info_parts info5
  go_enter Try.func28, Try.ntmps28
  go_wp2_with fail
  go_loopw [3, 4] (fun b x wr => ∃ (m : Int) (l : List UInt8) (v : Value), x = .int .i64 (m / 256) ∧ -9223372036854775808 ≤ m ∧ m ≤ 9223372036854775807 ∧ b = v ∧ wr.ownsRow (w.heap.size + 1) 5 1 v (l.length + 1) (u8s (l ++ [byteOf m]).reverse) ∧ Hid (leB n = l ++ leB m) ∧ Below (w.heap.size + 1) (w.alloc (.cells #[Value.int IntKind.i64 0, Value.slice none 0 0, Value.bool false, Value.slice none 0 0] 30)) wr)
    (fun b _ _ => 10 - lenOf b)
  case atStart =>
    refine ⟨n, [], _, rfl, h1, h2, rfl, ?_, Lib.hid rfl, ?_⟩
    · have e : u8s ([] ++ [byteOf n]).reverse = [Value.int IntKind.u8 (n % 256)] := by simp [u8s, byteOf_toNat]
      rw [e]
      have := World.ownsRow_lit (base := w.heap.size + 1) (e := 5) (size := 1) (w.alloc (.cells #[Value.int IntKind.i64 0, Value.slice none 0 0, Value.bool false, Value.slice none 0 0] 30)) #[Value.int IntKind.u8 (n % 256)] 1 (by simp) (by unfold maxLen; omega) rfl
      simpa using this
    · exact (Below.refl _ _).alloc (by simp) _
  case round =>
    obtain ⟨m, l, v, rfl, hm1, hm2, rfl, hown, HE, hb⟩ := hrel
    obtain ⟨g, cap, rfl, hgb, hgs, hmx⟩ := own_form hown (by omega)
    have c0 : wr.cell? ⟨g, 0, none⟩ = some (.int .u8 (m % 256)) := by
      rw [hown.cellAt 0 (by omega), rev_snoc_head]
      simp [u8s, byteOf_toNat]
    by_cases hlt : -128 ≤ m ∧ m ≤ 127
    · have HM := Lib.hid hlt
      obtain ⟨⟨k0, k1, k2, k3⟩, ⟨f0, f1, f2, f3⟩, hz⟩ := res_kept hb
      have hx : (m / 256 = 0 ∧ m % 256 < 128) ∨ (m / 256 = -1 ∧ ¬ m % 256 < 128) := by omega
      clear hi hz0 hz1 hz2 hlt
      rcases hx with ⟨hx, hx2⟩ | ⟨hx, hx2⟩
      all_goals
        rw [hx]
        go_wp2
        refine bodyPost_ret (v := .agg #[.int .i64 2, .slice (some ⟨g, 0, none⟩) (l.length + 1) cap, .bool false, .slice none 0 0]) (by simp [results, Try.results28, go_sem, k0, k1, k2, k3, hz]) rfl ⟨_, rfl, ?_, ?_⟩
        · have e : intB n = (l ++ [byteOf m]).reverse := by unfold intB; rw [HE.out, leB_short HM.out]
          rw [e]
          exact own_bts (ownsRow_setCell_below (ownsRow_setCell_below (ownsRow_setCell_below (ownsRow_setCell_below hown (by simp) _) (by simp) _) (by simp) _) (by simp) _) (by omega)
        · exact ((((below_of_res hb).setCell (by simp) _).setCell (by simp) _).setCell (by simp) _).setCell (by simp) _
    · have HM := Lib.hid hlt
      have hlen : l.length ≤ 6 := by
        have h8 := leB_len8 n h1 h2
        rw [HE.out, leB_long HM.out, List.length_append, List.length_cons] at h8
        have := leB_ne (m / 256)
        omega
      have hx : (m / 256 = 0 ∧ ¬ m % 256 < 128) ∨ (m / 256 = -1 ∧ m % 256 < 128) ∨ ((m / 256 != 0) = true ∧ (m / 256 != -1) = true) := by
        rw [bne_iff_ne, bne_iff_ne]; omega
      have hnew : wr.alloc (.cells #[Value.int IntKind.u8 (m / 256 % 256)] 5) |>.ownsRow (w.heap.size + 1) 5 1 (.slice (some ⟨wr.heap.size, 0, none⟩) 1 1) 1 [Value.int IntKind.u8 (m / 256 % 256)] :=
        World.ownsRow_lit (base := w.heap.size + 1) (e := 5) (size := 1) wr #[Value.int IntKind.u8 (m / 256 % 256)] 1 (by have := hb.size; simp at this; omega) (by unfold maxLen; omega) rfl
      have hsrc : ∀ j u, (u8s (l ++ [byteOf m]).reverse)[j]? = some u → (wr.alloc (.cells #[Value.int IntKind.u8 (m / 256 % 256)] 5)).cell? ((⟨g, 0, none⟩ : Addr).add j) = some u := (hown.alloc _).cells rfl
      have hone : ∀ u ∈ u8s (l ++ [byteOf m]).reverse, u.oneCell' = true := by
        intro u hu; simp [u8s] at hu; rcases hu with h | ⟨b, _, h⟩ <;> (subst h; rfl)
      have hlen2 : (u8s (l ++ [byteOf m]).reverse).length = (l.length + 1) * 1 := by simp [u8s_length]
      have HSRC := Lib.hid hsrc; clear hsrc
      have HONE := Lib.hid hone; clear hone
      have HLEN := Lib.hid hlen2; clear hlen2
      have hfin : ∀ (w1 : World) (v' : Value), w1.ownsRow (w.heap.size + 1) 5 1 v' (1 + (l.length + 1)) ([Value.int IntKind.u8 (m / 256 % 256)] ++ u8s (l ++ [byteOf m]).reverse) → (wr.alloc (.cells #[Value.int IntKind.u8 (m / 256 % 256)] 5)).grownBy w1 (some wr.heap.size) →
          w1.ownsRow (w.heap.size + 1) 5 1 v' ((l ++ [byteOf m]).length + 1) (u8s ((l ++ [byteOf m]) ++ [byteOf (m / 256)]).reverse) ∧ Hid (leB n = (l ++ [byteOf m]) ++ leB (m / 256)) ∧ Below (w.heap.size + 1) (w.alloc (.cells #[Value.int IntKind.i64 0, Value.slice none 0 0, Value.bool false, Value.slice none 0 0] 30)) w1 := by
        intro w1 v' ho hg2
        refine ⟨?_, ?_, ?_⟩
        · have e : [Value.int IntKind.u8 (m / 256 % 256)] ++ u8s (l ++ [byteOf m]).reverse = u8s ((l ++ [byteOf m]) ++ [byteOf (m / 256)]).reverse := by
            simp [u8s, byteOf_toNat]
          rw [← e, show (l ++ [byteOf m]).length + 1 = 1 + (l.length + 1) by simp; omega]
          exact ho
        · apply Lib.hid
          rw [HE.out, leB_long HM.out]
          simp
        · exact (hb.alloc (by have := hb.size; simp at this ⊢; omega) _).grown hg2 (by have := hb.size; simp at this ⊢; omega) (by intro k hk; cases hk; have := hb.size; simp at this; omega)
      have HFIN := Lib.hid hfin; clear hfin
      have hsz := hb.size
      simp at hsz
      clear hlt
      rcases hx with ⟨hx, hx2⟩ | ⟨hx, hx2⟩ | ⟨hx, hx2⟩
      · have hy : m / 256 % 256 = 0 := by omega
        have hz3 : m / 256 / 256 = 0 := by omega
        have HZ3 := Lib.hid hz3; clear hz3
        rw [hy] at hnew HSRC HFIN
        rw [hx]
        have HX := Lib.hid hx; clear hx hy
        go_wp2_with (at_builtin; refine wpList_append_own _ rfl _ _ 27 rfl (w.heap.size + 1) 5 i0 (.int .u8 0) 1 1 Try.underlying27 hi hz0 hz1 hz2 rfl (by decide) _ _ _ rfl hnew ⟨g, 0, none⟩ (l.length + 1) cap (u8s (l ++ [byteOf m]).reverse) rfl HLEN.out HSRC.out HONE.out (by unfold maxLen; omega) (by omega) (by simp; omega) ?_; intro v' w1 hown' hgrow _)
        have hg2 : (wr.alloc (Obj.cells #[Value.int IntKind.u8 0] 5)).grownBy w1 (some wr.heap.size) := hgrow
        clear hgrow
        have HF := Lib.hid (HFIN.out w1 v' hown' hg2)
        go_roundw
        case rel =>
          refine ⟨m / 256, l ++ [byteOf m], v', by rw [HZ3.out], by omega, by omega, rfl, HF.out⟩
        case measure => 
          obtain ⟨g', cap', rfl, _⟩ := own_form hown' (by omega)
          simp [lenOf]; omega
      · have hy : m / 256 % 256 = 255 := by omega
        have hz3 : m / 256 / 256 = -1 := by omega
        have HZ3 := Lib.hid hz3; clear hz3
        rw [hy] at hnew HSRC HFIN
        rw [hx]
        have HX := Lib.hid hx; clear hx hy
        go_wp2_with (at_builtin; refine wpList_append_own _ rfl _ _ 27 rfl (w.heap.size + 1) 5 i0 (.int .u8 0) 1 1 Try.underlying27 hi hz0 hz1 hz2 rfl (by decide) _ _ _ rfl hnew ⟨g, 0, none⟩ (l.length + 1) cap (u8s (l ++ [byteOf m]).reverse) rfl HLEN.out HSRC.out HONE.out (by unfold maxLen; omega) (by omega) (by simp; omega) ?_; intro v' w1 hown' hgrow _)
        have hg2 : (wr.alloc (Obj.cells #[Value.int IntKind.u8 255] 5)).grownBy w1 (some wr.heap.size) := hgrow
        clear hgrow
        have HF := Lib.hid (HFIN.out w1 v' hown' hg2)
        go_roundw
        case rel =>
          refine ⟨m / 256, l ++ [byteOf m], v', by rw [HZ3.out], by omega, by omega, rfl, HF.out⟩
        case measure => 
          obtain ⟨g', cap', rfl, _⟩ := own_form hown' (by omega)
          simp [lenOf]; omega
      · go_wp2_with (at_builtin; refine wpList_append_own _ rfl _ _ 27 rfl (w.heap.size + 1) 5 i0 (.int .u8 0) 1 1 Try.underlying27 hi hz0 hz1 hz2 rfl (by decide) _ _ _ rfl hnew ⟨g, 0, none⟩ (l.length + 1) cap (u8s (l ++ [byteOf m]).reverse) rfl HLEN.out HSRC.out HONE.out (by unfold maxLen; omega) (by omega) (by simp; omega) ?_; intro v' w1 hown' hgrow _)
        have hg2 : (wr.alloc (Obj.cells #[Value.int IntKind.u8 (m / 256 % 256)] 5)).grownBy w1 (some wr.heap.size) := hgrow
        clear hgrow
        have HF := Lib.hid (HFIN.out w1 v' hown' hg2)
        go_roundw
        case rel =>
          refine ⟨m / 256, l ++ [byteOf m], v', rfl, by omega, by omega, rfl, HF.out⟩
        case measure => 
          obtain ⟨g', cap', rfl, _⟩ := own_form hown' (by omega)
          simp [lenOf]; omega
end Go.Proofs.Ytppodhbfjnekcaa
