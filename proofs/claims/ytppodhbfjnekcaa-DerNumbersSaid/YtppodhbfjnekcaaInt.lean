/- der.number, der.Int and their counterparts of the specification. -/
import Derived.Test.YtppodhbfjnekcaaRev
import Derived.Test.YtppodhbfjnekcaaNum
namespace Go.Proofs.Ytppodhbfjnekcaa
open Go.RowKit

theorem take_snoc (l : List UInt8) (k : Nat) (h : k < l.length) : l.take (k + 1) = l.take k ++ [l.getD k 0] := by
  rw [List.take_succ_eq_append_getElem h]
  simp [List.getD, h]

theorem numOf_eq (l : List UInt8) (s : Int) (h : s = if 128 ≤ (l.getD 0 0).toNat then -1 else 0) : numOf l = l.foldl numStep s := by rw [h]; rfl

set_option maxHeartbeats 1000000 in
theorem number_walk (b o n c : Nat) (l : List UInt8) (w : World) (hl : l.length = n) (hn : 0 < n) (hm : n ≤ 9223372036854775807) (hc : ∀ j, j < n → w.cell? ⟨b, o + j, none⟩ = some (.int .u8 (l.getD j 0).toNat)) :
    Calls Try.prog 52 #[.slice (some ⟨b, o, none⟩) n c] w fun e w' => e = .returned (.int .i64 (numOf l)) ∧ w' = w := by
  obtain ⟨x0, hx0⟩ : ∃ x, x = l.getD 0 0 := ⟨_, rfl⟩
  have c0 := hc 0 hn
  rw [← hx0, Nat.add_zero] at c0
  have HX := Lib.hid hx0; clear hx0
  have HC := Lib.hid hc; clear hc
  have HL := Lib.hid hl; clear hl
  by_cases h128 : (128 : Int) ≤ (x0.toNat : Int)
  all_goals
    go_enter Try.func52, Try.ntmps52
    go_wp2_with fail
    go_loop [3, 17] (fun a i => ∃ (k : Nat) (r : Int), k ≤ n ∧ i = .int .i64 k ∧ a = .int .i64 r ∧ Hid (r = (l.take k).foldl numStep (if 128 ≤ (l.getD 0 0).toNat then -1 else 0))) (fun _ i => n - (intOf i).toNat)
    case atStart => 
      refine ⟨0, _, by omega, rfl, rfl, ?_⟩
      apply Lib.hid
      rw [← HX.out]
      simp; omega
    case round =>
      obtain ⟨k, r, hk, rfl, rfl, HR⟩ := hrel
      by_cases hlt : k < n
      · obtain ⟨x, hx⟩ : ∃ x, x = l.getD k 0 := ⟨_, rfl⟩
        have ck := HC.out k hlt
        rw [← hx] at ck
        have HX2 := Lib.hid hx; clear hx
        go_wp2
        go_round
        case rel => 
          refine ⟨k + 1, _, by omega, by go_num, rfl, ?_⟩
          apply Lib.hid
          rw [take_snoc l k (by rw [HL.out]; exact hlt), foldl_snoc, ← HR.out, ← HX2.out]
          rfl
        case measure => simp [intOf]; omega
      · go_wp2
        go_ret
        refine ⟨?_, rfl⟩
        rw [HR.out, List.take_of_length_le (by rw [HL.out]; omega)]
        rfl

theorem number_any (v : Value) (l : List UInt8) (w : World) (h : Bts w v l) (hne : l ≠ []) :
    Calls Try.prog 52 #[v] w fun e w' => e = .returned (.int .i64 (numOf l)) ∧ w' = w := by
  obtain ⟨p, c, rfl, hm, h⟩ := h
  rcases h with h | ⟨b, o, rfl, h⟩
  · exact absurd h hne
  · exact number_walk b o l.length c l w rfl (List.length_pos_iff.2 hne) hm h

set_option maxHeartbeats 1000000 in
theorem number_nil (p : Option Addr) (c : Nat) (w : World) :
    Calls Try.prog 52 #[.slice p 0 c] w fun e w' => e = .returned (.int .i64 0) ∧ w' = w := by
  go_enter Try.func52, Try.ntmps52
  go_wp2_with fail
  refine wp_loop_rounds 1 ?_; rw [rounds_succ]
  go_wp2
  go_ret
  exact ⟨rfl, rfl⟩

theorem number_all (v : Value) (l : List UInt8) (w : World) (h : Bts w v l) :
    Calls Try.prog 52 #[v] w fun e w' => e = .returned (.int .i64 (numOf l)) ∧ w' = w := by
  by_cases hne : l = []
  · subst hne
    obtain ⟨p, c, rfl, hm, h⟩ := h
    exact number_nil p c w
  · exact number_any v l w h hne


theorem own_form {w : World} {base : Nat} {e : TypeId} {size : Nat} {v : Value} {n : Nat} {xs : List Value} (h : w.ownsRow base e size v n xs) (hn : 0 < n) :
    ∃ g cap, v = .slice (some ⟨g, 0, none⟩) n cap ∧ base ≤ g ∧ g < w.heap.size ∧ n ≤ 9223372036854775807 := by
  rcases h.2 with ⟨_, h0⟩ | ⟨g, cap, cur, hv, hb, hh, h1, h2, _⟩
  · omega
  · exact ⟨g, cap, hv, hb, (Array.getElem?_eq_some_iff.1 hh).1, by unfold maxLen at h2; omega⟩

/-- What is owned reads as its bytes. -/
theorem own_bts {w : World} {base g n cap : Nat} {e : TypeId} {l : List UInt8} (h : w.ownsRow base e 1 (.slice (some ⟨g, 0, none⟩) n cap) n (u8s l)) (hn : 0 < n) : Bts w (.slice (some ⟨g, 0, none⟩) n cap) l := by
  have hl : l.length = n := by have := h.1; rw [u8s_length] at this; omega
  obtain ⟨_, _, _, _, _, hm⟩ := own_form h hn
  subst hl
  refine ⟨_, cap, rfl, hm, .inr ⟨g, 0, rfl, fun j hj => ?_⟩⟩
  rw [Nat.zero_add, h.cellAt j (by omega), u8s_get l j hj]

/-- A new element's block, some steps later. -/
theorem res_kept {w w1 : World} {a b c d : Value} {t : TypeId} (h : Below (w.heap.size + 1) (w.alloc (.cells #[a, b, c, d] t)) w1) :
    (w1.cell? ⟨w.heap.size, 0, none⟩ = some a ∧ w1.cell? ⟨w.heap.size, 1, none⟩ = some b ∧ w1.cell? ⟨w.heap.size, 2, none⟩ = some c ∧ w1.cell? ⟨w.heap.size, 3, none⟩ = some d) ∧
    (w1.frozen? ⟨w.heap.size, 0, none⟩ = false ∧ w1.frozen? ⟨w.heap.size, 1, none⟩ = false ∧ w1.frozen? ⟨w.heap.size, 2, none⟩ = false ∧ w1.frozen? ⟨w.heap.size, 3, none⟩ = false) ∧ w.heap.size < w1.heap.size := by
  have hc := fun j => (h.cell (p := ⟨w.heap.size, j, none⟩) (by simp)).trans (World.cell?_alloc_new w #[a, b, c, d] t j)
  have hf := fun j => (h.frozen (p := ⟨w.heap.size, j, none⟩) (by simp)).trans (World.frozen?_alloc_new w #[a, b, c, d] t j)
  have hs := h.size
  simp only [World.size_alloc] at hs
  exact ⟨⟨hc 0, hc 1, hc 2, hc 3⟩, ⟨hf 0, hf 1, hf 2, hf 3⟩, by omega⟩

theorem below_of_res {w w1 : World} {o : Obj} (h : Below (w.heap.size + 1) (w.alloc o) w1) : Below w.heap.size w w1 :=
  ((Below.refl _ _).alloc (Nat.le_refl _) o).trans (h.mono (by omega))

theorem info5 : (Try.prog.info? 5).map (fun i => (i.zero, i.size, i.bytes)) = some (some (.int .u8 0), 1, 1) := by kernel_rfl

set_option maxHeartbeats 1000000 in
theorem int_der (n : Int) (w : World) (h1 : -9223372036854775808 ≤ n) (h2 : n ≤ 9223372036854775807) :
    Calls Try.prog 21 #[.int .i64 n] w fun e w' => ∃ v, e = .returned (.agg #[.int .i64 2, v, .bool false, .slice none 0 0]) ∧ Bts w' v (intB n) ∧ Below w.heap.size w w' := by
  obtain ⟨i0, hi, hz0, hz1, hz2⟩ := info_parts info5
  go_enter Try.func21, Try.ntmps21
  go_wp2_with fail
  go_loopw [0, 3] (fun a b wr => ∃ (m : Int) (l : List UInt8) (v : Value), a = .int .i64 m ∧ -9223372036854775808 ≤ m ∧ m ≤ 9223372036854775807 ∧ b = v ∧ wr.ownsRow (w.heap.size + 1) 5 1 v (l.length + 1) (u8s (l ++ [byteOf m])) ∧ Hid (leB n = l ++ leB m) ∧ Below (w.heap.size + 1) (w.alloc (.cells #[Value.int IntKind.i64 0, Value.slice none 0 0, Value.bool false, Value.slice none 0 0] 30)) wr)
    (fun a _ _ => (intOf a).natAbs)
  case atStart =>
    refine ⟨n, [], _, rfl, h1, h2, rfl, ?_, Lib.hid rfl, ?_⟩
    · have e : u8s ([] ++ [byteOf n]) = [Value.int IntKind.u8 (n % 256)] := by simp [u8s, byteOf_toNat]
      rw [e]
      have := World.ownsRow_lit (base := w.heap.size + 1) (e := 5) (size := 1) (w.alloc (.cells #[Value.int IntKind.i64 0, Value.slice none 0 0, Value.bool false, Value.slice none 0 0] 30)) #[Value.int IntKind.u8 (n % 256)] 1 (by simp) (by unfold maxLen; omega) rfl
      simpa using this
    · exact (Below.refl _ _).alloc (by simp) _
  case round => 
    obtain ⟨m, l, v, rfl, hm1, hm2, rfl, hown, HE, hb⟩ := hrel
    obtain ⟨g, cap, rfl, hgb, hgs, hmx⟩ := own_form hown (by omega)
    by_cases hlt : -128 ≤ m ∧ m ≤ 127
    · have HM := Lib.hid hlt
      obtain ⟨hlo, hhi⟩ := hlt
      clear hi hz0 hz1 hz2
      have hd1 : decide (m < -128) = false := by simp; omega
      have hd2 : decide (127 < m) = false := by simp; omega
      go_wp2_with fail
      refine (reverse_any _ g _ cap (l ++ [byteOf m]) _ (by omega) hown).mono ?_
      rintro e w1 ⟨rfl, hown1, hg1⟩
      have hb1 := hb.grown hg1 (by have := hb.size; simp at this; omega) (by intro k hk; cases hk; exact hgb)
      obtain ⟨⟨k0, k1, k2, k3⟩, ⟨f0, f1, f2, f3⟩, hz⟩ := res_kept hb1
      go_wp2
      refine bodyPost_ret (v := .agg #[.int .i64 2, .slice (some ⟨g, 0, none⟩) (l.length + 1) cap, .bool false, .slice none 0 0]) (by simp [results, Try.results21, go_sem, k0, k1, k2, k3, hz]) rfl ⟨_, rfl, ?_, ?_⟩
      · have e : intB n = (l ++ [byteOf m]).reverse := by unfold intB; rw [HE.out, leB_short HM.out]
        rw [e]
        repeat (first | exact own_bts (ownsRow_setCell_below (ownsRow_setCell_below (ownsRow_setCell_below (ownsRow_setCell_below hown1 (by simp) _) (by simp) _) (by simp) _) (by simp) _) (by omega))
      · exact ((((below_of_res hb1).setCell (by simp) _).setCell (by simp) _).setCell (by simp) _).setCell (by simp) _
    · have HM := Lib.hid hlt
      have hcase : m < -128 ∨ 127 < m := by omega
      have hlen : l.length ≤ 8 := by
        have := leB_len8 n h1 h2
        rw [HE.out, List.length_append] at this
        omega
      clear hlt
      have hd : (decide (m < -128) = true ∧ m / 256 < 0) ∨ (decide (m < -128) = false ∧ decide (127 < m) = true ∧ ¬ m / 256 < 0) := by
        rcases hcase with h | h
        · left; exact ⟨by simpa using h, by omega⟩
        · right; exact ⟨by simp; omega, by simpa using h, by omega⟩
      clear hcase
      rcases hd with ⟨hd1, hq⟩ | ⟨hd1, hd2, hq⟩
      all_goals
        have HQ := Lib.hid hq
        clear hq
        go_wp2_with (at_builtin; refine wpList_append_own _ rfl _ _ 27 rfl (w.heap.size + 1) 5 i0 (.int .u8 0) 1 1 Try.underlying27 hi hz0 hz1 hz2 rfl (by decide) _ _ _ rfl (hown.alloc _) ⟨wr.heap.size, 0, none⟩ 1 1 [.int .u8 ((m / 256) % 256)] rfl rfl (by intro j u hj; match j, hj with | 0, hj => (simp at hj; subst hj; simp [Addr.add])) (by intro u hu; simp at hu; subst hu; rfl) (by unfold maxLen; omega) (by omega) (by have := hb.size; simp at this ⊢; omega) ?_; intro v' w1 hown' hgrow _)
        have hg2 : (wr.alloc (Obj.cells #[Value.int IntKind.u8 (m / 256 % 256)] 5)).grownBy w1 (some g) := hgrow
        clear hgrow
        go_roundw
        case rel =>
          refine ⟨m / 256, l ++ [byteOf m], v', rfl, by omega, by omega, rfl, ?_, ?_, ?_⟩
          · have e : u8s (l ++ [byteOf m]) ++ [Value.int IntKind.u8 (m / 256 % 256)] = u8s ((l ++ [byteOf m]) ++ [byteOf (m / 256)]) := by
              simp [u8s, byteOf_toNat]
            rw [← e, show (l ++ [byteOf m]).length + 1 = l.length + 1 + 1 by simp]
            exact hown'
          · apply Lib.hid
            rw [HE.out, leB_long HM.out]
            simp
          · exact (hb.alloc (by have := hb.size; simp at this ⊢; omega) _).grown hg2 (by have := hb.size; simp at this ⊢; omega) (by intro k hk; cases hk; exact hgb)
        case measure => have := HM.out; simp [intOf]; omega
end Go.Proofs.Ytppodhbfjnekcaa
