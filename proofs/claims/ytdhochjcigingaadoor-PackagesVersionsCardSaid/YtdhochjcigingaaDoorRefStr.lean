/- The document's Strength (23), Valid (21). -/
import Derived.Test.YtdhochjcigingaaDoorRefAm
import Derived.Great.BuildSlice
namespace Go.Proofs.YtdhochjcigingaaDoor
open Go.RowKit
set_option linter.all false

theorem refstren_mod (a b : Int) (w : World) (ha : a = 5 ∨ a = 6 ∨ a = 10 ∨ a = 11) : Calls Tryd.prog 23 #[.agg #[.int .i64 a, .int .i64 b]] w (IntP (modS b) w) := by
  have cM := fun W => refmodulus_any b W
  rcases ha with rfl | rfl | rfl | rfl
  all_goals
    go_enter Tryd.func23, Tryd.ntmps23
    go_wp2_with fail
    refine (cM _).mono ?_
    rintro e w1 ⟨rfl, rfl⟩
    go_wp2_with fail
    go_ret
    exact ⟨rfl, (Below.refl _ _).alloc (Nat.le_refl _) _⟩

theorem refstren_curve1 (a b : Int) (w : World) (ha : a = 7 ∨ a = 12) (hb : b = 160 ∨ b = 224 ∨ b = 256 ∨ b = 384 ∨ b = 521) : Calls Tryd.prog 23 #[.agg #[.int .i64 a, .int .i64 b]] w (IntP (b / 2) w) := by
  rcases ha with rfl | rfl
  all_goals
    rcases hb with rfl | rfl | rfl | rfl | rfl
    all_goals
      go_enter Tryd.func23, Tryd.ntmps23
      go_wp2_with fail
      go_ret
      exact ⟨rfl, (Below.refl _ _).alloc (Nat.le_refl _) _⟩
theorem refstren_curve0 (a b : Int) (w : World) (ha : a = 7 ∨ a = 12) (hb : ¬ (b = 160 ∨ b = 224 ∨ b = 256 ∨ b = 384 ∨ b = 521)) : Calls Tryd.prog 23 #[.agg #[.int .i64 a, .int .i64 b]] w (IntP 0 w) := by
  have k1 : (b == 160) = false := by simp; omega
  have k2 : (b == 224) = false := by simp; omega
  have k3 : (b == 256) = false := by simp; omega
  have k4 : (b == 384) = false := by simp; omega
  have k5 : (b == 521) = false := by simp; omega
  clear hb
  rcases ha with rfl | rfl
  all_goals
    go_enter Tryd.func23, Tryd.ntmps23
    go_wp2_with fail
    go_ret
    exact ⟨rfl, (Below.refl _ _).alloc (Nat.le_refl _) _⟩

theorem two_new3 (W : World) (t : TypeId) (x0 x1 x2 v0 v1 v2 : Int) : Two ((W.alloc (.cells #[.int .i64 x0, .int .i64 x1, .int .i64 x2] t)).alloc (.cells #[.int .i64 v0, .int .i64 v1, .int .i64 v2] t)) W.heap.size (W.heap.size + 1) [(x0, v0), (x1, v1), (x2, v2)] := by
  intro k hk
  have hc : k = 0 ∨ k = 1 ∨ k = 2 := by simp at hk; omega
  rcases hc with rfl | rfl | rfl <;> exact ⟨by simp, by simp⟩
theorem two_new2 (W : World) (t : TypeId) (x0 x1 v0 v1 : Int) : Two ((W.alloc (.cells #[.int .i64 x0, .int .i64 x1] t)).alloc (.cells #[.int .i64 v0, .int .i64 v1] t)) W.heap.size (W.heap.size + 1) [(x0, v0), (x1, v1)] := by
  intro k hk
  have hc : k = 0 ∨ k = 1 := by simp at hk; omega
  rcases hc with rfl | rfl <;> exact ⟨by simp, by simp⟩
theorem two_new1 (W : World) (t : TypeId) (x0 v0 : Int) : Two ((W.alloc (.cells #[.int .i64 x0] t)).alloc (.cells #[.int .i64 v0] t)) W.heap.size (W.heap.size + 1) [(x0, v0)] := by
  intro k hk
  have hc : k = 0 := by simp at hk; omega
  subst hc
  exact ⟨by simp, by simp⟩
theorem below3 (w : World) (a b c : Obj) : Below w.heap.size w (((w.alloc a).alloc b).alloc c) :=
  (((Below.refl _ _).alloc (Nat.le_refl _) a).alloc (by simp) b).alloc (by simp; omega) c


theorem am3 (b : Int) (W : World) (N : Nat) (hN : W.heap.size = N) (t : TypeId) (x0 x1 x2 v0 v1 v2 : Int) : Calls Tryd.prog 64 #[.int .i64 b, .slice (some ⟨N, 0, none⟩) 3 3, .slice (some ⟨N + 1, 0, none⟩) 3 3] ((W.alloc (.cells #[.int .i64 x0, .int .i64 x1, .int .i64 x2] t)).alloc (.cells #[.int .i64 v0, .int .i64 v1, .int .i64 v2] t)) fun e w' => e = .returned (.int .i64 (amS b [(x0, v0), (x1, v1), (x2, v2)])) ∧ (W.alloc (.cells #[.int .i64 x0, .int .i64 x1, .int .i64 x2] t)).alloc (.cells #[.int .i64 v0, .int .i64 v1, .int .i64 v2] t) = w' := by
  subst hN
  exact among_any b [(x0, v0), (x1, v1), (x2, v2)] (by simp) _ _ _ (two_new3 W t x0 x1 x2 v0 v1 v2)
theorem am2 (b : Int) (W : World) (N : Nat) (hN : W.heap.size = N) (t : TypeId) (x0 x1 v0 v1 : Int) : Calls Tryd.prog 64 #[.int .i64 b, .slice (some ⟨N, 0, none⟩) 2 2, .slice (some ⟨N + 1, 0, none⟩) 2 2] ((W.alloc (.cells #[.int .i64 x0, .int .i64 x1] t)).alloc (.cells #[.int .i64 v0, .int .i64 v1] t)) fun e w' => e = .returned (.int .i64 (amS b [(x0, v0), (x1, v1)])) ∧ (W.alloc (.cells #[.int .i64 x0, .int .i64 x1] t)).alloc (.cells #[.int .i64 v0, .int .i64 v1] t) = w' := by
  subst hN
  exact among_any b [(x0, v0), (x1, v1)] (by simp) _ _ _ (two_new2 W t x0 x1 v0 v1)
theorem am1 (b : Int) (W : World) (N : Nat) (hN : W.heap.size = N) (t : TypeId) (x0 v0 : Int) : Calls Tryd.prog 64 #[.int .i64 b, .slice (some ⟨N, 0, none⟩) 1 1, .slice (some ⟨N + 1, 0, none⟩) 1 1] ((W.alloc (.cells #[.int .i64 x0] t)).alloc (.cells #[.int .i64 v0] t)) fun e w' => e = .returned (.int .i64 (amS b [(x0, v0)])) ∧ (W.alloc (.cells #[.int .i64 x0] t)).alloc (.cells #[.int .i64 v0] t) = w' := by
  subst hN
  exact among_any b [(x0, v0)] (by simp) _ _ _ (two_new1 W t x0 v0)

set_option maxHeartbeats 1000000 in
theorem refstren_9 (b : Int) (w : World) : Calls Tryd.prog 23 #[.agg #[.int .i64 9, .int .i64 b]] w (IntP (amS b [(44, 128), (65, 192), (87, 256)]) w) := by
  go_enter Tryd.func23, Tryd.ntmps23
  go_wp2_with fail
  refine (am3 b _ (w.heap.size + 1) (by simp) _ _ _ _ _ _ _).mono ?_
  rintro e w1 ⟨rfl, rfl⟩
  go_wp2_with fail
  go_ret
  exact ⟨rfl, below3 _ _ _ _⟩
set_option maxHeartbeats 1000000 in
theorem refstren_13 (b : Int) (w : World) : Calls Tryd.prog 23 #[.agg #[.int .i64 13, .int .i64 b]] w (IntP (amS b [(512, 128), (768, 192), (1024, 256)]) w) := by
  go_enter Tryd.func23, Tryd.ntmps23
  go_wp2_with fail
  refine (am3 b _ (w.heap.size + 1) (by simp) _ _ _ _ _ _ _).mono ?_
  rintro e w1 ⟨rfl, rfl⟩
  go_wp2_with fail
  go_ret
  exact ⟨rfl, below3 _ _ _ _⟩
set_option maxHeartbeats 1000000 in
theorem refstren_14 (b : Int) (w : World) : Calls Tryd.prog 23 #[.agg #[.int .i64 14, .int .i64 b]] w (IntP (amS b [(40, 40), (128, 60)]) w) := by
  go_enter Tryd.func23, Tryd.ntmps23
  go_wp2_with fail
  refine (am2 b _ (w.heap.size + 1) (by simp) _ _ _ _ _).mono ?_
  rintro e w1 ⟨rfl, rfl⟩
  go_wp2_with fail
  go_ret
  exact ⟨rfl, below3 _ _ _ _⟩
set_option maxHeartbeats 1000000 in
theorem refstren_15 (b : Int) (w : World) : Calls Tryd.prog 23 #[.agg #[.int .i64 15, .int .i64 b]] w (IntP (amS b [(112, 80), (168, 112)]) w) := by
  go_enter Tryd.func23, Tryd.ntmps23
  go_wp2_with fail
  refine (am2 b _ (w.heap.size + 1) (by simp) _ _ _ _ _).mono ?_
  rintro e w1 ⟨rfl, rfl⟩
  go_wp2_with fail
  go_ret
  exact ⟨rfl, below3 _ _ _ _⟩
set_option maxHeartbeats 1000000 in
theorem refstren_16 (b : Int) (w : World) : Calls Tryd.prog 23 #[.agg #[.int .i64 16, .int .i64 b]] w (IntP (amS b [(128, 128), (256, 256)]) w) := by
  go_enter Tryd.func23, Tryd.ntmps23
  go_wp2_with fail
  refine (am2 b _ (w.heap.size + 1) (by simp) _ _ _ _ _).mono ?_
  rintro e w1 ⟨rfl, rfl⟩
  go_wp2_with fail
  go_ret
  exact ⟨rfl, below3 _ _ _ _⟩
set_option maxHeartbeats 1000000 in
theorem refstren_17 (b : Int) (w : World) : Calls Tryd.prog 23 #[.agg #[.int .i64 17, .int .i64 b]] w (IntP (amS b [(128, 128), (256, 256)]) w) := by
  go_enter Tryd.func23, Tryd.ntmps23
  go_wp2_with fail
  refine (am2 b _ (w.heap.size + 1) (by simp) _ _ _ _ _).mono ?_
  rintro e w1 ⟨rfl, rfl⟩
  go_wp2_with fail
  go_ret
  exact ⟨rfl, below3 _ _ _ _⟩

set_option maxHeartbeats 1000000 in
theorem refstren_rest (a b : Int) (w : World) (h : ¬ (a = 5 ∨ a = 6 ∨ a = 10 ∨ a = 11 ∨ a = 7 ∨ a = 12 ∨ a = 9 ∨ a = 13 ∨ a = 14 ∨ a = 15 ∨ a = 16 ∨ a = 17)) : Calls Tryd.prog 23 #[.agg #[.int .i64 a, .int .i64 b]] w (IntP (amS b [(0, asI a)]) w) := by
  have k5 : (a == 5) = false := by simp; omega
  have k6 : (a == 6) = false := by simp; omega
  have k10 : (a == 10) = false := by simp; omega
  have k11 : (a == 11) = false := by simp; omega
  have k7 : (a == 7) = false := by simp; omega
  have k12 : (a == 12) = false := by simp; omega
  have k9 : (a == 9) = false := by simp; omega
  have k13 : (a == 13) = false := by simp; omega
  have k14 : (a == 14) = false := by simp; omega
  have k15 : (a == 15) = false := by simp; omega
  have k16 : (a == 16) = false := by simp; omega
  have k17 : (a == 17) = false := by simp; omega
  clear h
  have cS := fun W => refsingle_any a W
  generalize asI a = s at *
  go_enter Tryd.func23, Tryd.ntmps23
  go_wp2_with fail
  refine (cS _).mono ?_
  rintro e w1 ⟨rfl, rfl⟩
  go_wp2_with fail
  refine (am1 b _ (w.heap.size + 1) (by simp) _ _ _).mono ?_
  rintro e w1 ⟨rfl, rfl⟩
  go_wp2_with fail
  go_ret
  exact ⟨rfl, below3 _ _ _ _⟩

theorem amS1 (b x v : Int) : amS b [(x, v)] = if b = x then v else 0 := by
  unfold amS
  by_cases h : b = x
  · subst h; simp
  · rw [if_neg h]; simp [List.find?]; 
    have : (x == b) = false := by simp; omega
    simp [this]
theorem amS2 (b x v y u : Int) : amS b [(x, v), (y, u)] = if b = x then v else if b = y then u else 0 := by
  by_cases h : b = x
  · subst h; simp [amS]
  · rw [if_neg h, ← amS1]
    have : (x == b) = false := by simp; omega
    simp [amS, List.find?, this]
theorem amS3 (b x v y u z t : Int) : amS b [(x, v), (y, u), (z, t)] = if b = x then v else if b = y then u else if b = z then t else 0 := by
  by_cases h : b = x
  · subst h; simp [amS]
  · rw [if_neg h, ← amS2]
    have : (x == b) = false := by simp; omega
    simp [amS, List.find?, this]

theorem refstren_any (a b : Int) (w : World) : Calls Tryd.prog 23 #[.agg #[.int .i64 a, .int .i64 b]] w (IntP (strS a b) w) := by
  by_cases h1 : a = 5 ∨ a = 6 ∨ a = 10 ∨ a = 11
  · have e : strS a b = modS b := by
      unfold strS modS
      rcases h1 with rfl | rfl | rfl | rfl <;> (rw [if_neg (by decide), if_pos (by decide)]; by_cases h : 512 ≤ b ∧ b ≤ 16384; (rw [if_pos h, if_neg (by omega)]); (rw [if_neg h, if_pos (by omega)]))
    rw [e]; exact refstren_mod a b w h1
  by_cases h2 : a = 7 ∨ a = 12
  · have e : strS a b = if curveB b then b / 2 else 0 := by
      unfold strS
      rcases h2 with rfl | rfl <;> rw [if_neg (by decide), if_neg (by decide), if_pos (by decide)]
    rw [e]
    have hc : curveB b = decide (b = 160 ∨ b = 224 ∨ b = 256 ∨ b = 384 ∨ b = 521) := by
      unfold curveB
      by_cases h : b = 160 ∨ b = 224 ∨ b = 256 ∨ b = 384 ∨ b = 521
      · rw [decide_eq_true h]; rcases h with rfl | rfl | rfl | rfl | rfl <;> rfl
      · rw [decide_eq_false h]; simp; omega
    by_cases h : b = 160 ∨ b = 224 ∨ b = 256 ∨ b = 384 ∨ b = 521
    · rw [hc, decide_eq_true h, if_pos rfl]; exact refstren_curve1 a b w h2 h
    · rw [hc, decide_eq_false h]; exact refstren_curve0 a b w h2 h
  by_cases h9 : a = 9
  · subst h9
    have e : strS 9 b = amS b [(44, 128), (65, 192), (87, 256)] := by
      rw [amS3]; unfold strS sizeS
      rw [if_neg (by decide), if_neg (by decide), if_neg (by decide), if_neg (by decide)]; simp
    rw [e]; exact refstren_9 b w
  by_cases h13 : a = 13
  · subst h13
    have e : strS 13 b = amS b [(512, 128), (768, 192), (1024, 256)] := by
      rw [amS3]; unfold strS sizeS
      rw [if_neg (by decide), if_neg (by decide), if_neg (by decide), if_neg (by decide)]; simp
    rw [e]; exact refstren_13 b w
  by_cases h14 : a = 14
  · subst h14
    have e : strS 14 b = amS b [(40, 40), (128, 60)] := by
      rw [amS2]; unfold strS sizeS
      rw [if_neg (by decide), if_neg (by decide), if_neg (by decide), if_neg (by decide)]; simp
    rw [e]; exact refstren_14 b w
  by_cases h15 : a = 15
  · subst h15
    have e : strS 15 b = amS b [(112, 80), (168, 112)] := by
      rw [amS2]; unfold strS sizeS
      rw [if_neg (by decide), if_neg (by decide), if_neg (by decide), if_neg (by decide)]; simp
    rw [e]; exact refstren_15 b w
  have h16 : ∀ a : Int, a = 16 ∨ a = 17 → strS a b = amS b [(128, 128), (256, 256)] := by
    intro a ha
    rw [amS2]; unfold strS
    rcases ha with rfl | rfl <;> (rw [if_neg (by decide), if_neg (by decide), if_neg (by decide), if_pos (by decide)]; by_cases h : b = 128; (subst h; rfl); by_cases h' : b = 256; (subst h'; rfl); simp [h, h'])
  by_cases h6 : a = 16
  · subst h6; rw [h16 _ (.inl rfl)]; exact refstren_16 b w
  by_cases h7 : a = 17
  · subst h7; rw [h16 _ (.inr rfl)]; exact refstren_17 b w
  have e : strS a b = amS b [(0, asI a)] := by
    rw [amS1]; unfold strS
    by_cases h0 : 0 < asI a
    · rw [if_pos h0]
    · rw [if_neg h0, if_neg h1, if_neg h2, if_neg (by omega)]
      have hz : asI a = 0 := by
        unfold asI at h0 ⊢
        split
        · rename_i hi
          rw [if_pos hi] at h0
          have : ∀ i, i < 23 → 0 ≤ ast i := by decide +kernel
          have := this a.toNat (by omega)
          omega
        · rfl
      rw [hz]
      unfold sizeS
      simp [h9, h13, h14, h15]
  rw [e]; exact refstren_rest a b w (by omega)

theorem refvalid_any (a b : Int) (w : World) : Calls Tryd.prog 21 #[.agg #[.int .i64 a, .int .i64 b]] w (BoolP (validB a b) w) := by
  have c := refstren_any a b (w.alloc (.cells #[.int .i64 a, .int .i64 b] 23))
  unfold validB
  generalize strS a b = s at *
  have C := Lib.hid c; clear c
  go_enter Tryd.func21, Tryd.ntmps21
  go_wp2_with fail
  refine (C.out).mono ?_
  rintro e w1 ⟨rfl, hb⟩
  go_wp2_with fail
  go_ret
  exact ⟨rfl, below_of_alloc hb⟩
end Go.Proofs.YtdhochjcigingaaDoor
