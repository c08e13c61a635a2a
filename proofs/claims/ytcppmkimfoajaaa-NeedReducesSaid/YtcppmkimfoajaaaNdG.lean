/- compare: how requirements are compared by the program. -/
import Derived.Test.YtcppmkimfoajaaaNdF
import Derived.Lib.Small
import Derived.Sort.Grow
namespace Go.Proofs.Ytcppmkimfoajaaa
open Go.RowKit Go.Sort
set_option linter.all false

theorem isNaN_any (x : Int) (w : World) : Calls Try.prog 103 #[.int .i64 x] w fun e w' => e = .returned (.bool false) ∧ w' = w := by
  go_enter Try.func103, Try.ntmps103
  go_wp2_with fail
  go_ret
  exact ⟨rfl, rfl⟩
set_option maxHeartbeats 1000000 in
theorem cmpInt_any (x y : Int) (w : World) : Calls Try.prog 87 #[.int .i64 x, .int .i64 y] w fun e w' => e = .returned (.int .i64 (Lib.compareInt x y)) ∧ w' = w := by
  have C1 := Lib.hid (isNaN_any x w)
  have C2 := Lib.hid (isNaN_any y w)
  have hr : (x < y ∧ Lib.compareInt x y = -1) ∨ (¬ x < y ∧ y < x ∧ Lib.compareInt x y = 1) ∨ (¬ x < y ∧ ¬ y < x ∧ Lib.compareInt x y = 0) := by
    unfold Lib.compareInt
    by_cases h1 : x < y
    · exact .inl ⟨h1, if_pos h1⟩
    · by_cases h2 : y < x
      · exact .inr (.inl ⟨h1, h2, by rw [if_neg h1, if_pos h2]⟩)
      · exact .inr (.inr ⟨h1, h2, by rw [if_neg h1, if_neg h2]⟩)
  generalize Lib.compareInt x y = r at *
  rcases hr with ⟨h1, rfl⟩ | ⟨h1, h2, rfl⟩ | ⟨h1, h2, rfl⟩
  all_goals
    go_enter Try.func87, Try.ntmps87
    go_wp2_with fail
    refine (C1.out).mono ?_
    rintro e w1 ⟨rfl, rfl⟩
    go_wp2_with fail
    refine (C2.out).mono ?_
    rintro e w2 ⟨rfl, rfl⟩
    go_wp2_with fail
    go_ret
    exact ⟨rfl, rfl⟩
def orI (a b : Int) : Int := if a = 0 then b else a
set_option maxRecDepth 100000 in
set_option maxHeartbeats 2000000 in
theorem cmpOr_any (bb : Nat) (a b : Int) (w : World) (hh : w.heap[bb]? = some (.cells #[.int .i64 a, .int .i64 b] 3 (0, 0))) : Calls Try.prog 86 #[.slice (some ⟨bb, 0, none⟩) 2 2] w fun e w' => e = .returned (.int .i64 (orI a b)) ∧ w' = w := by
  have c0 := cell_of_row _ bb 0 _ _ _ hh
  have c1 := cell_of_row _ bb 1 _ _ _ hh
  simp at c0 c1
  clear hh
  have HO : Hid (orI a b = if a = 0 then b else a) := Lib.hid rfl
  generalize orI a b = r at *
  go_enter Try.func86, Try.ntmps86
  go_wp2_with fail
  go_loopw [5, 8] (fun _ iv wr => ∃ k : Nat, iv = .int .i64 (k : Int) ∧ k ≤ 2 ∧ (1 ≤ k → a = 0) ∧ (2 ≤ k → b = 0) ∧ w = wr) (fun _ iv _ => 2 - (intOf iv).toNat)
  case atStart => exact ⟨0, rfl, by omega, by omega, by omega, rfl⟩
  case round =>
    obtain ⟨k, rfl, hk, h1, h2, rfl⟩ := hrel
    have hk3 : k = 0 ∨ k = 1 ∨ k = 2 := by omega
    have HH1 := Lib.hid h1; have HH2 := Lib.hid h2
    clear h1 h2 hk
    rcases hk3 with rfl | rfl | rfl
    · by_cases ha : a = 0
      · subst ha
        go_wp2_with fail
        go_roundw
        case rel => exact ⟨1, by go_num, by omega, fun _ => (by first | trivial | rfl), by omega, by first | trivial | rfl⟩
        case measure => simp [intOf]
      · have hne : (a == 0) = false := by rw [beq_eq_false_iff_ne]; exact ha
        go_wp2_with fail
        go_ret
        exact ⟨by rw [HO.out, if_neg ha]; rfl, rfl⟩
    · have ha := HH1.out (by omega)
      by_cases hb : b = 0
      · subst hb
        clear ha
        go_wp2_with fail
        go_roundw
        case rel => exact ⟨2, by go_num, by omega, fun _ => HH1.out (by omega), fun _ => (by first | trivial | rfl), by first | trivial | rfl⟩
        case measure => simp [intOf]
      · have hne : (b == 0) = false := by rw [beq_eq_false_iff_ne]; exact hb
        clear ha
        go_wp2_with fail
        go_ret
        exact ⟨by rw [HO.out, if_pos (HH1.out (by omega))]; rfl, rfl⟩
    · go_wp2_with fail
      go_ret
      exact ⟨by rw [HO.out, if_pos (HH1.out (by omega)), HH2.out (by omega)]; rfl, rfl⟩

def cmpR (x y : Rq) : Int := orI (Lib.compareInt x.1 y.1) (Lib.compareInt x.2 y.2)
def G60 (B : Nat) (x1 x2 y1 y2 : Int) (_ : Array Bool) (i : Nat) (v : Value) (W : World) : Prop := match i with
  | 0 => v = .pointer (some ⟨B, 0, none⟩)
  | 1 => v = .int .i64 x1
  | 2 => v = .pointer (some ⟨B + 1, 0, none⟩)
  | 3 => v = .int .i64 y1
  | 4 => v = .int .i64 (Lib.compareInt x1 y1)
  | 5 => v = .pointer (some ⟨B, 1, none⟩)
  | 6 => v = .int .i64 x2
  | 7 => v = .pointer (some ⟨B + 1, 1, none⟩)
  | 8 => v = .int .i64 y2
  | 9 => v = .int .i64 (Lib.compareInt x2 y2)
  | 10 => ∃ bb, v = .slice (some ⟨bb, 0, none⟩) 2 2 ∧ W.heap[bb]? = some (.cells #[.int .i64 (Lib.compareInt x1 y1), .int .i64 (Lib.compareInt x2 y2)] 3 (0, 0))
  | 11 => v = .int .i64 (cmpR (x1, x2) (y1, y2))
  | 12 => v = .int .i64 (cmpR (x1, x2) (y1, y2))
  | _ => True

set_option maxRecDepth 100000 in
set_option maxHeartbeats 4000000 in
theorem compare_any (x1 x2 y1 y2 : Int) (w : World) : Calls Try.prog 60 #[.agg #[.int .i64 x1, .int .i64 x2], .agg #[.int .i64 y1, .int .i64 y2]] w fun e w' => e = .returned (.int .i64 (cmpR (x1, x2) (y1, y2))) ∧ ∃ q os, w' = grow (w.drewN q) os := by
  obtain ⟨B, hB⟩ : ∃ B, w.heap.size = B := ⟨_, rfl⟩
  have hx0 : ((w.alloc (.cells #[.int .i64 x1, .int .i64 x2] 120)).alloc (.cells #[.int .i64 y1, .int .i64 y2] 120)).heap[B]? = some (.cells #[.int .i64 x1, .int .i64 x2] 120 (0, 0)) := by
    subst hB
    rw [heap_alloc_old _ _ (by simp)]; exact heap_alloc_new _ _
  have hy0 : ((w.alloc (.cells #[.int .i64 x1, .int .i64 x2] 120)).alloc (.cells #[.int .i64 y1, .int .i64 y2] 120)).heap[B + 1]? = some (.cells #[.int .i64 y1, .int .i64 y2] 120 (0, 0)) := by
    subst hB
    have := heap_alloc_new (w.alloc (.cells #[.int .i64 x1, .int .i64 x2] 120)) (.cells #[.int .i64 y1, .int .i64 y2] 120)
    simpa using this
  have hxa := cell_of_row _ B 0 _ _ _ hx0
  have hxb := cell_of_row _ B 1 _ _ _ hx0
  have hya := cell_of_row _ (B + 1) 0 _ _ _ hy0
  have hyb := cell_of_row _ (B + 1) 1 _ _ _ hy0
  rw [show (#[Value.int .i64 x1, .int .i64 x2] : Array Value)[0]? = some (.int .i64 x1) from rfl] at hxa
  rw [show (#[Value.int .i64 x1, .int .i64 x2] : Array Value)[1]? = some (.int .i64 x2) from rfl] at hxb
  rw [show (#[Value.int .i64 y1, .int .i64 y2] : Array Value)[0]? = some (.int .i64 y1) from rfl] at hya
  rw [show (#[Value.int .i64 y1, .int .i64 y2] : Array Value)[1]? = some (.int .i64 y2) from rfl] at hyb
  have HX1 := Lib.hid hxa; have HX2 := Lib.hid hxb; have HY1 := Lib.hid hya; have HY2 := Lib.hid hyb
  clear hxa hxb hya hyb
  have HG0 := Lib.hid (show ∃ q os, ((w.alloc (.cells #[.int .i64 x1, .int .i64 x2] 120)).alloc (.cells #[.int .i64 y1, .int .i64 y2] 120)).drew = grow (w.drewN q) os from ⟨1, _, by rw [alloc_eq_grow, alloc_eq_grow, grow_grow]; rfl⟩)
  clear hx0 hy0
  go_enter Try.func60, Try.ntmps60
  go_upto_region 1 with fail
  generalize (w.alloc (.cells #[.int .i64 x1, .int .i64 x2] 120)).alloc (.cells #[.int .i64 y1, .int .i64 y2] 120) = W0 at *
  refine region_facts (by kernel_rfl) (G60 B x1 x2 y1 y2) (fun _ W => (∃ q os, W = grow (w.drewN q) os) ∧ Below W0.heap.size W0 W) (by kernel_rfl) (by kernel_rfl) ?h0 ?hstep ?hend
  case h0 => exact ⟨HG0.out, below_drewN (Below.refl _ _) 1⟩
  case hstep =>
    intro i o l a W ho hat K hK
    have hi : i < 13 := (Array.getElem?_eq_some_iff.1 ho).1
    obtain rfl | rfl | rfl | rfl | rfl | rfl | rfl | rfl | rfl | rfl | rfl | rfl | rfl : i = 0 ∨ i = 1 ∨ i = 2 ∨ i = 3 ∨ i = 4 ∨ i = 5 ∨ i = 6 ∨ i = 7 ∨ i = 8 ∨ i = 9 ∨ i = 10 ∨ i = 11 ∨ i = 12 := by omega
    all_goals
      have ho := Option.some.inj (show some _ = some o from ho)
      subst ho
    · have e0 : a.tmps[2]?.getD undef = .pointer (some ⟨B, 0, none⟩) := hat.out 2 (by kernel_rfl)
      have HF := Lib.hid (hK (.pointer (some ⟨B, 0, none⟩)) W rfl (fun _ _ _ h => h) hat.base)
      clear hat hK
      go_simp
      exact HF.out
    · have e0 : a.tmps[5]?.getD undef = .pointer (some ⟨B, 0, none⟩) := hat.have_ 0 5 (by kernel_rfl) (hat.dep 0 (by kernel_rfl))
      have d0 := cell_later' hat.base.2 HX1.out
      have HF := Lib.hid (hK (.int .i64 x1) W rfl (fun _ _ _ h => h) hat.base)
      clear hat hK
      go_simp
      exact HF.out
    · have e0 : a.tmps[3]?.getD undef = .pointer (some ⟨B + 1, 0, none⟩) := hat.out 3 (by kernel_rfl)
      have HF := Lib.hid (hK (.pointer (some ⟨B + 1, 0, none⟩)) W rfl (fun _ _ _ h => h) hat.base)
      clear hat hK
      go_simp
      exact HF.out
    · have e0 : a.tmps[7]?.getD undef = .pointer (some ⟨B + 1, 0, none⟩) := hat.have_ 2 7 (by kernel_rfl) (hat.dep 2 (by kernel_rfl))
      have d0 := cell_later' hat.base.2 HY1.out
      have HF := Lib.hid (hK (.int .i64 y1) W rfl (fun _ _ _ h => h) hat.base)
      clear hat hK
      go_simp
      exact HF.out
    · have e0 : a.tmps[6]?.getD undef = .int .i64 x1 := hat.have_ 1 6 (by kernel_rfl) (hat.dep 1 (by kernel_rfl))
      have e1 : a.tmps[8]?.getD undef = .int .i64 y1 := hat.have_ 3 8 (by kernel_rfl) (hat.dep 3 (by kernel_rfl))
      have CC := Lib.hid (cmpInt_any x1 y1 W)
      have HH := Lib.hid (And.intro hat hK)
      clear hat hK
      go_simp
      refine (CC.out).mono ?_
      rintro e w' ⟨rfl, rfl⟩
      obtain ⟨hat, hK⟩ := HH.out
      exact hK _ _ rfl (fun _ _ _ h => h) hat.base
    · have e0 : a.tmps[2]?.getD undef = .pointer (some ⟨B, 0, none⟩) := hat.out 2 (by kernel_rfl)
      have HF := Lib.hid (hK (.pointer (some ⟨B, 1, none⟩)) W rfl (fun _ _ _ h => h) hat.base)
      clear hat hK
      go_simp
      exact HF.out
    · have e0 : a.tmps[10]?.getD undef = .pointer (some ⟨B, 1, none⟩) := hat.have_ 5 10 (by kernel_rfl) (hat.dep 5 (by kernel_rfl))
      have d0 := cell_later' hat.base.2 HX2.out
      have HF := Lib.hid (hK (.int .i64 x2) W rfl (fun _ _ _ h => h) hat.base)
      clear hat hK
      go_simp
      exact HF.out
    · have e0 : a.tmps[3]?.getD undef = .pointer (some ⟨B + 1, 0, none⟩) := hat.out 3 (by kernel_rfl)
      have HF := Lib.hid (hK (.pointer (some ⟨B + 1, 1, none⟩)) W rfl (fun _ _ _ h => h) hat.base)
      clear hat hK
      go_simp
      exact HF.out
    · have e0 : a.tmps[12]?.getD undef = .pointer (some ⟨B + 1, 1, none⟩) := hat.have_ 7 12 (by kernel_rfl) (hat.dep 7 (by kernel_rfl))
      have d0 := cell_later' hat.base.2 HY2.out
      have HF := Lib.hid (hK (.int .i64 y2) W rfl (fun _ _ _ h => h) hat.base)
      clear hat hK
      go_simp
      exact HF.out
    · have e0 : a.tmps[11]?.getD undef = .int .i64 x2 := hat.have_ 6 11 (by kernel_rfl) (hat.dep 6 (by kernel_rfl))
      have e1 : a.tmps[13]?.getD undef = .int .i64 y2 := hat.have_ 8 13 (by kernel_rfl) (hat.dep 8 (by kernel_rfl))
      have CC := Lib.hid (cmpInt_any x2 y2 W)
      have HH := Lib.hid (And.intro hat hK)
      clear hat hK
      go_simp
      refine (CC.out).mono ?_
      rintro e w' ⟨rfl, rfl⟩
      obtain ⟨hat, hK⟩ := HH.out
      exact hK _ _ rfl (fun _ _ _ h => h) hat.base
    · have e0 : a.tmps[9]?.getD undef = .int .i64 (Lib.compareInt x1 y1) := hat.have_ 4 9 (by kernel_rfl) (hat.dep 4 (by kernel_rfl))
      have e1 : a.tmps[14]?.getD undef = .int .i64 (Lib.compareInt x2 y2) := hat.have_ 9 14 (by kernel_rfl) (hat.dep 9 (by kernel_rfl))
      have hb := hat.base
      have HF := Lib.hid (hK (.slice (some ⟨W.heap.size, 0, none⟩) 2 2) (W.alloc (.cells #[.int .i64 (Lib.compareInt x1 y1), .int .i64 (Lib.compareInt x2 y2)] 3)) ⟨_, rfl, heap_alloc_new _ _⟩ (fun k u hl h => by
        match k with
        | 0 => exact h
        | 1 => exact h
        | 2 => exact h
        | 3 => exact h
        | 4 => exact h
        | 5 => exact h
        | 6 => exact h
        | 7 => exact h
        | 8 => exact h
        | 9 => exact h
        | 10 => rw [hat.open_] at hl; cases hl
        | 11 => exact h
        | 12 => exact h
        | _ + 13 => exact h) ⟨by
          obtain ⟨q, os, e⟩ := hb.1
          exact ⟨q, os ++ #[_], by rw [e, alloc_eq_grow, grow_grow]⟩, hb.2.alloc hb.2.size _⟩)
      clear hat hK hb
      go_simp
      exact HF.out
    · obtain ⟨bb, e0, hh⟩ := hat.have_ 10 15 (by kernel_rfl) (hat.dep 10 (by kernel_rfl))
      have CO := Lib.hid (cmpOr_any bb (Lib.compareInt x1 y1) (Lib.compareInt x2 y2) W hh)
      have HH := Lib.hid (And.intro hat hK)
      clear hat hK hh
      go_simp
      refine (CO.out).mono ?_
      rintro e w' ⟨rfl, rfl⟩
      obtain ⟨hat, hK⟩ := HH.out
      exact hK _ _ rfl (fun _ _ _ h => h) hat.base
    · have e0 : a.tmps[16]?.getD undef = .int .i64 (cmpR (x1, x2) (y1, y2)) := hat.have_ 11 16 (by kernel_rfl) (hat.dep 11 (by kernel_rfl))
      have HF := Lib.hid (hK (.int .i64 (cmpR (x1, x2) (y1, y2))) W rfl (fun _ _ _ h => h) hat.base)
      clear hat hK
      go_simp
      exact HF.out
  case hend =>
    intro l u W hall hG hB
    have e12 : u 12 = .int .i64 (cmpR (x1, x2) (y1, y2)) := hG 12 4 (by kernel_rfl)
    have HBW := Lib.hid hB.1
    clear hG hB hall
    simp only [putAll, Act.put, List.setIfInBounds_toArray, List.set_cons_zero, List.set_cons_succ, Nat.zero_add, Nat.reduceAdd]
    rw [e12]
    clear e12
    generalize u 0 = v0
    generalize u 1 = v1
    generalize u 2 = v2
    generalize u 3 = v3
    generalize u 4 = v4
    generalize u 5 = v5
    generalize u 6 = v6
    generalize u 7 = v7
    generalize u 8 = v8
    generalize u 9 = v9
    generalize u 10 = v10
    generalize u 11 = v11
    go_wp2_with fail
    go_ret
    exact ⟨rfl, HBW.out⟩
end Go.Proofs.Ytcppmkimfoajaaa
