/- catalog.Strength, Valid, Name. -/
import Derived.Test.YtdhochjcigingaaDoorSize
namespace Go.Proofs.YtdhochjcigingaaDoor
open Go.RowKit
set_option linter.all false

def strS (a b : Int) : Int :=
  if 0 < asI a then (if b = 0 then asI a else 0)
  else if a = 5 ∨ a = 6 ∨ a = 10 ∨ a = 11 then (if 512 ≤ b ∧ b ≤ 16384 then longS b else 0)
  else if a = 7 ∨ a = 12 then (if curveB b then b / 2 else 0)
  else if a = 16 ∨ a = 17 then (if b = 128 ∨ b = 256 then b else 0)
  else sizeS a b

theorem field2 (x y z : Value) (W : World) : (Instr.field 86 (.agg #[x, y, z]) 2).run Tryd.prog W = .ok z W := by kernel_rfl
theorem field0 (x y z : Value) (W : World) : (Instr.field 86 (.agg #[x, y, z]) 0).run Tryd.prog W = .ok x W := by kernel_rfl

def IntP (n : Int) (w : World) (e : Ending) (w' : World) : Prop := e = .returned (.int .i64 n) ∧ Below w.heap.size w w'

theorem bcell {W w1 : World} (hb : Below W.heap.size W w1) : (∀ b o, b < W.heap.size → w1.cell? ⟨b, o, none⟩ = W.cell? ⟨b, o, none⟩) :=
  fun b o h => hb.cell (p := ⟨b, o, none⟩) h

theorem below_of_alloc {w w' : World} {o : Obj} (h : Below (w.alloc o).heap.size (w.alloc o) w') : Below w.heap.size w w' :=
  ((Below.refl _ _).alloc (Nat.le_refl _) _).trans (h.mono (by simp))

/-- What Strength's walk holds behind the call of algorithm: the use's box. -/
theorem box2 {w w1 : World} {a b : Int} {t : TypeId} (hb : Below (w.alloc (.cells #[.int .i64 a, .int .i64 b] t)).heap.size (w.alloc (.cells #[.int .i64 a, .int .i64 b] t)) w1) :
    w1.cell? ⟨w.heap.size, 0, none⟩ = some (.int .i64 a) ∧ w1.cell? ⟨w.heap.size, 1, none⟩ = some (.int .i64 b) ∧ Below w.heap.size w w1 ∧ w.heap.size < w1.heap.size := by
  refine ⟨?_, ?_, below_of_alloc hb, by have := hb.size; simp at this; omega⟩
  · rw [hb.cell (p := ⟨w.heap.size, 0, none⟩) (by simp)]; simp
  · rw [hb.cell (p := ⟨w.heap.size, 1, none⟩) (by simp)]; simp

set_option maxRecDepth 100000 in
set_option maxHeartbeats 1000000 in
theorem stren_fix {m : Int} (a b : Int) (w : World) (h : Tabs m w) (hs : 0 < asI a) (hs2 : asI a ≤ 256) : Calls Tryd.prog 22 #[.agg #[.int .i64 a, .int .i64 b]] w (IntP (if b = 0 then asI a else 0) w) := by
  have cA := algorithm_any a _ (h.alloc (.cells #[.int .i64 a, .int .i64 b] 23))
  generalize anI a = n1 at cA
  generalize akI a = k1 at cA
  generalize asI a = s1 at *
  by_cases h0 : b = 0
  · subst h0
    have CA := Lib.hid cA; clear cA
    have hf := field2 (.string ⟨n1.toArray⟩) (.int .u8 k1) (.int .u16 s1)
    go_enter Tryd.func22, Tryd.ntmps22
    go_wp2_with fail
    refine (CA.out).mono ?_
    rintro e w1 ⟨rfl, hb⟩
    obtain ⟨x0, x1, hb1, hz⟩ := box2 hb
    have HB := Lib.hid hb1
    clear hb hb1
    go_wp2_with (go_at_call 59; refine (only_any _ _ _).mono ?_; rintro e w' ⟨rfl, rfl⟩)
    go_ret
    exact ⟨rfl, HB.out⟩
  · have hne : (b == 0) = false := by simpa using h0
    have CA := Lib.hid cA; clear cA
    have hf := field2 (.string ⟨n1.toArray⟩) (.int .u8 k1) (.int .u16 s1)
    go_enter Tryd.func22, Tryd.ntmps22
    go_wp2_with fail
    refine (CA.out).mono ?_
    rintro e w1 ⟨rfl, hb⟩
    obtain ⟨x0, x1, hb1, hz⟩ := box2 hb
    have HB := Lib.hid hb1
    clear hb hb1
    go_wp2_with (go_at_call 59; refine (only_any _ _ _).mono ?_; rintro e w' ⟨rfl, rfl⟩)
    go_ret
    exact ⟨ret_i (by simp [h0]), HB.out⟩

theorem long_q (b : Int) (w : World) : Calls Tryd.prog 60 #[.int .i64 b] w fun e w' => e = .returned (.int .i64 (longS b)) ∧ w' = w := (long_any b w).mono fun _ _ ⟨h, k⟩ => ⟨h, k.symm⟩
theorem curve_q (b : Int) (w : World) : Calls Tryd.prog 61 #[.int .i64 b] w fun e w' => e = .returned (.bool (curveB b)) ∧ w' = w := (curve_any b w).mono fun _ _ ⟨h, k⟩ => ⟨h, k.symm⟩
theorem only_q (c : Bool) (s : Int) (w : World) : Calls Tryd.prog 59 #[.bool c, .int .i64 s] w fun e w' => e = .returned (.int .i64 (if c then s else 0)) ∧ w' = w := (only_any c s w).mono fun _ _ ⟨h, k⟩ => ⟨h, k.symm⟩

theorem below_drewN {B : Nat} {a w : World} (h : Below B a w) (n : Nat) : Below B a (w.drewN n) := h.trans ⟨rfl, rfl, rfl, Nat.le_refl _, fun _ _ => rfl⟩

set_option maxRecDepth 100000 in
set_option maxHeartbeats 4000000 in
theorem stren_long {m : Int} (a b : Int) (w : World) (h : Tabs m w) (ha : a = 5 ∨ a = 6 ∨ a = 10 ∨ a = 11) : Calls Tryd.prog 22 #[.agg #[.int .i64 a, .int .i64 b]] w (IntP (if 512 ≤ b ∧ b ≤ 16384 then longS b else 0) w) := by
  have cA := algorithm_any a _ (h.alloc (.cells #[.int .i64 a, .int .i64 b] 23))
  have hs : asI a = 0 := by rcases ha with rfl | rfl | rfl | rfl <;> rfl
  rw [hs] at cA
  clear hs
  generalize anI a = n1 at cA
  generalize akI a = k1 at cA
  have CA := Lib.hid cA; clear cA
  have hf := field2 (.string ⟨n1.toArray⟩) (.int .u8 k1) (.int .u16 0)
  by_cases h1 : 512 ≤ b
  · by_cases h2 : b ≤ 16384
    · rcases ha with rfl | rfl | rfl | rfl
      all_goals
        go_enter Tryd.func22, Tryd.ntmps22
        go_wp2_with fail
        refine (CA.out).mono ?_
        rintro e w1 ⟨rfl, hb⟩
        obtain ⟨x0, x1, hb1, hz⟩ := box2 hb
        have HB := Lib.hid hb1
        clear hb hb1
        go_wp2_with fail
        go_quiet ((first | (go_at_call 60; exact Calls.quiet_of_same (long_q _ _)) | (go_at_call 59; exact Calls.quiet_of_same (only_q _ _ _))))
        go_wp2_with fail
        go_ret
        exact ⟨ret_i (by simp [h1, h2]), below_drewN HB.out _⟩
    · have hd : decide (b ≤ 16384) = false := by simpa using h2
      rcases ha with rfl | rfl | rfl | rfl
      all_goals
        go_enter Tryd.func22, Tryd.ntmps22
        go_wp2_with fail
        refine (CA.out).mono ?_
        rintro e w1 ⟨rfl, hb⟩
        obtain ⟨x0, x1, hb1, hz⟩ := box2 hb
        have HB := Lib.hid hb1
        clear hb hb1
        go_wp2_with fail
        go_quiet ((first | (go_at_call 60; exact Calls.quiet_of_same (long_q _ _)) | (go_at_call 59; exact Calls.quiet_of_same (only_q _ _ _))))
        go_wp2_with fail
        go_ret
        exact ⟨ret_i (by simp [h1, h2]), below_drewN HB.out _⟩
  · have hd : decide (512 ≤ b) = false := by simpa using h1
    rcases ha with rfl | rfl | rfl | rfl
    all_goals
      go_enter Tryd.func22, Tryd.ntmps22
      go_wp2_with fail
      refine (CA.out).mono ?_
      rintro e w1 ⟨rfl, hb⟩
      obtain ⟨x0, x1, hb1, hz⟩ := box2 hb
      have HB := Lib.hid hb1
      clear hb hb1
      go_wp2_with fail
      go_quiet ((first | (go_at_call 60; exact Calls.quiet_of_same (long_q _ _)) | (go_at_call 59; exact Calls.quiet_of_same (only_q _ _ _))))
      go_wp2_with fail
      go_ret
      exact ⟨ret_i (by simp [h1]), below_drewN HB.out _⟩

theorem curve_pos {b : Int} (h : curveB b = true) : 0 ≤ b ∧ b ≤ 521 := by
  unfold curveB at h
  simp only [Bool.or_eq_true, beq_iff_eq] at h
  omega

set_option maxRecDepth 100000 in
set_option maxHeartbeats 4000000 in
theorem stren_curve1 {m : Int} (a b : Int) (w : World) (h : Tabs m w) (ha : a = 7 ∨ a = 12) (hc : curveB b = true) : Calls Tryd.prog 22 #[.agg #[.int .i64 a, .int .i64 b]] w (IntP (b / 2) w) := by
  have cA := algorithm_any a _ (h.alloc (.cells #[.int .i64 a, .int .i64 b] 23))
  have hs : asI a = 0 := by rcases ha with rfl | rfl <;> rfl
  rw [hs] at cA
  clear hs
  generalize anI a = n1 at cA
  generalize akI a = k1 at cA
  have cc := fun w => curve_q b w
  rw [hc] at cc
  obtain ⟨b0, b1⟩ := curve_pos hc
  have CA := Lib.hid cA; clear cA
  have CC := Lib.hid cc; clear cc hc
  have hf := field2 (.string ⟨n1.toArray⟩) (.int .u8 k1) (.int .u16 0)
  rcases ha with rfl | rfl
  all_goals
    go_enter Tryd.func22, Tryd.ntmps22
    go_wp2_with fail
    refine (CA.out).mono ?_
    rintro e w1 ⟨rfl, hb⟩
    obtain ⟨x0, x1, hb1, hz⟩ := box2 hb
    have HB := Lib.hid hb1
    clear hb hb1
    go_wp2_with fail
    go_quiet ((first | (go_at_call 61; exact Calls.quiet_of_same (CC.out _)) | (go_at_call 59; exact Calls.quiet_of_same (only_q true _ _))))
    go_wp2_with fail
    go_ret
    exact ⟨by first | rfl | exact ret_i (by omega), below_drewN HB.out _⟩

set_option maxRecDepth 100000 in
set_option maxHeartbeats 4000000 in
theorem stren_curve0 {m : Int} (a b : Int) (w : World) (h : Tabs m w) (ha : a = 7 ∨ a = 12) (hc : curveB b = false) : Calls Tryd.prog 22 #[.agg #[.int .i64 a, .int .i64 b]] w (IntP 0 w) := by
  have cA := algorithm_any a _ (h.alloc (.cells #[.int .i64 a, .int .i64 b] 23))
  have hs : asI a = 0 := by rcases ha with rfl | rfl <;> rfl
  rw [hs] at cA
  clear hs
  generalize anI a = n1 at cA
  generalize akI a = k1 at cA
  have cc := fun w => curve_q b w
  rw [hc] at cc
  have CA := Lib.hid cA; clear cA
  have CC := Lib.hid cc; clear cc hc
  have hf := field2 (.string ⟨n1.toArray⟩) (.int .u8 k1) (.int .u16 0)
  rcases ha with rfl | rfl
  all_goals
    go_enter Tryd.func22, Tryd.ntmps22
    go_wp2_with fail
    refine (CA.out).mono ?_
    rintro e w1 ⟨rfl, hb⟩
    obtain ⟨x0, x1, hb1, hz⟩ := box2 hb
    have HB := Lib.hid hb1
    clear hb hb1
    go_wp2_with fail
    go_quiet ((first | (go_at_call 61; exact Calls.quiet_of_same (CC.out _)) | (go_at_call 59; exact Calls.quiet_of_same (only_q false _ _))))
    go_wp2_with fail
    go_ret
    exact ⟨rfl, below_drewN HB.out _⟩

theorem stren_curve {m : Int} (a b : Int) (w : World) (h : Tabs m w) (ha : a = 7 ∨ a = 12) : Calls Tryd.prog 22 #[.agg #[.int .i64 a, .int .i64 b]] w (IntP (if curveB b then b / 2 else 0) w) := by
  by_cases hc : curveB b = true
  · rw [if_pos hc]; exact stren_curve1 a b w h ha hc
  · rw [if_neg hc]; exact stren_curve0 a b w h ha (by simpa using hc)

set_option maxRecDepth 100000 in
set_option maxHeartbeats 4000000 in
theorem stren_aes {m : Int} (a b : Int) (w : World) (h : Tabs m w) (ha : a = 16 ∨ a = 17) : Calls Tryd.prog 22 #[.agg #[.int .i64 a, .int .i64 b]] w (IntP (if b = 128 ∨ b = 256 then b else 0) w) := by
  have cA := algorithm_any a _ (h.alloc (.cells #[.int .i64 a, .int .i64 b] 23))
  have hs : asI a = 0 := by rcases ha with rfl | rfl <;> rfl
  rw [hs] at cA
  clear hs
  generalize anI a = n1 at cA
  generalize akI a = k1 at cA
  have CA := Lib.hid cA; clear cA
  have hf := field2 (.string ⟨n1.toArray⟩) (.int .u8 k1) (.int .u16 0)
  by_cases h1 : b = 128
  · subst h1
    rcases ha with rfl | rfl
    all_goals
      go_enter Tryd.func22, Tryd.ntmps22
      go_wp2_with fail
      refine (CA.out).mono ?_
      rintro e w1 ⟨rfl, hb⟩
      obtain ⟨x0, x1, hb1, hz⟩ := box2 hb
      have HB := Lib.hid hb1
      clear hb hb1
      go_wp2_with fail
      refine (only_any _ _ _).mono ?_
      rintro e w2 ⟨rfl, rfl⟩
      go_wp2_with fail
      go_ret
      exact ⟨rfl, HB.out⟩
  have k1 : (b == 128) = false := by simpa using h1
  by_cases h2 : b = 256
  · subst h2
    rcases ha with rfl | rfl
    all_goals
      go_enter Tryd.func22, Tryd.ntmps22
      go_wp2_with fail
      refine (CA.out).mono ?_
      rintro e w1 ⟨rfl, hb⟩
      obtain ⟨x0, x1, hb1, hz⟩ := box2 hb
      have HB := Lib.hid hb1
      clear hb hb1
      go_wp2_with fail
      refine (only_any _ _ _).mono ?_
      rintro e w2 ⟨rfl, rfl⟩
      go_wp2_with fail
      go_ret
      exact ⟨rfl, HB.out⟩
  have k2 : (b == 256) = false := by simpa using h2
  rcases ha with rfl | rfl
  all_goals
    go_enter Tryd.func22, Tryd.ntmps22
    go_wp2_with fail
    refine (CA.out).mono ?_
    rintro e w1 ⟨rfl, hb⟩
    obtain ⟨x0, x1, hb1, hz⟩ := box2 hb
    have HB := Lib.hid hb1
    clear hb hb1
    go_wp2_with fail
    refine (only_any _ _ _).mono ?_
    rintro e w2 ⟨rfl, rfl⟩
    go_wp2_with fail
    go_ret
    exact ⟨ret_i (by simp [h1, h2]), HB.out⟩

set_option maxRecDepth 100000 in
set_option maxHeartbeats 4000000 in
theorem stren_size {m : Int} (a b : Int) (w : World) (h : Tabs m w) (hs : asI a = 0) (h1 : ¬ (a = 5 ∨ a = 6 ∨ a = 10 ∨ a = 11)) (h2 : ¬ (a = 7 ∨ a = 12)) (h3 : ¬ (a = 16 ∨ a = 17)) : Calls Tryd.prog 22 #[.agg #[.int .i64 a, .int .i64 b]] w (IntP (sizeS a b) w) := by
  have cA := algorithm_any a _ (h.alloc (.cells #[.int .i64 a, .int .i64 b] 23))
  rw [hs] at cA
  clear hs
  generalize anI a = n1 at cA
  generalize akI a = k1 at cA
  have CA := Lib.hid cA; clear cA
  have hf := field2 (.string ⟨n1.toArray⟩) (.int .u8 k1) (.int .u16 0)
  have e1 : (a == 5) = false := by simp; omega
  have e2 : (a == 6) = false := by simp; omega
  have e3 : (a == 10) = false := by simp; omega
  have e4 : (a == 11) = false := by simp; omega
  have e5 : (a == 7) = false := by simp; omega
  have e6 : (a == 12) = false := by simp; omega
  have e7 : (a == 16) = false := by simp; omega
  have e8 : (a == 17) = false := by simp; omega
  clear h1 h2 h3
  go_enter Tryd.func22, Tryd.ntmps22
  go_wp2_with fail
  refine (CA.out).mono ?_
  rintro e w1 ⟨rfl, hb⟩
  obtain ⟨x0, x1, hb1, hz⟩ := box2 hb
  have HB := Lib.hid hb1
  clear hb hb1
  go_wp2_with fail
  refine (size_any a b _).mono ?_
  rintro e w2 ⟨rfl, hb2⟩
  go_wp2_with fail
  go_ret
  exact ⟨rfl, HB.out.trans (hb2.mono (by omega))⟩

theorem strength_any {m : Int} (a b : Int) (w : World) (h : Tabs m w) : Calls Tryd.prog 22 #[.agg #[.int .i64 a, .int .i64 b]] w (IntP (strS a b) w) := by
  unfold strS
  have hr : asI a = 0 ∨ (0 < asI a ∧ asI a ≤ 256) := by
    unfold asI
    split
    · rename_i hi
      have : ∀ i, i < 23 → ast i = 0 ∨ (0 < ast i ∧ ast i ≤ 256) := by decide +kernel
      exact this _ (by omega)
    · exact .inl rfl
  by_cases h0 : 0 < asI a
  · rw [if_pos h0]
    exact stren_fix a b w h h0 (by omega)
  rw [if_neg h0]
  by_cases h1 : a = 5 ∨ a = 6 ∨ a = 10 ∨ a = 11
  · rw [if_pos h1]
    exact stren_long a b w h h1
  rw [if_neg h1]
  by_cases h2 : a = 7 ∨ a = 12
  · rw [if_pos h2]
    exact stren_curve a b w h h2
  rw [if_neg h2]
  by_cases h3 : a = 16 ∨ a = 17
  · rw [if_pos h3]
    exact stren_aes a b w h h3
  rw [if_neg h3]
  exact stren_size a b w h (by omega) h1 h2 h3

def validB (a b : Int) : Bool := decide (0 < strS a b)
def BoolP (n : Bool) (w : World) (e : Ending) (w' : World) : Prop := e = .returned (.bool n) ∧ Below w.heap.size w w'
theorem valid_any {m : Int} (a b : Int) (w : World) (h : Tabs m w) : Calls Tryd.prog 20 #[.agg #[.int .i64 a, .int .i64 b]] w (BoolP (validB a b) w) := by
  have c := strength_any a b _ (h.alloc (.cells #[.int .i64 a, .int .i64 b] 23))
  unfold validB
  generalize strS a b = s at *
  have C := Lib.hid c; clear c
  go_enter Tryd.func20, Tryd.ntmps20
  go_wp2_with fail
  refine (C.out).mono ?_
  rintro e w1 ⟨rfl, hb⟩
  go_wp2_with fail
  go_ret
  exact ⟨rfl, below_of_alloc hb⟩

def StrP (n : List UInt8) (w : World) (e : Ending) (w' : World) : Prop := e = .returned (.string ⟨n.toArray⟩) ∧ Below w.heap.size w w'
theorem name_any {m : Int} (a : Int) (w : World) (h : Tabs m w) : Calls Tryd.prog 16 #[.int .i64 a] w (StrP (anI a) w) := by
  have cA := algorithm_any a w h
  generalize anI a = n1 at cA
  generalize akI a = k1 at cA
  generalize asI a = s1 at cA
  have CA := Lib.hid cA; clear cA
  have hf := field0 (.string ⟨n1.toArray⟩) (.int .u8 k1) (.int .u16 s1)
  go_enter Tryd.func16, Tryd.ntmps16
  go_wp2_with fail
  refine (CA.out).mono ?_
  rintro e w1 ⟨rfl, hb⟩
  go_wp2_with fail
  go_ret
  exact ⟨rfl, hb⟩
end Go.Proofs.YtdhochjcigingaaDoor
