/- Differ of lists that differ, both sides. -/
import Derived.Test.YtogcpjkgliijmaaRefEq
/- slices.Equal, Differ and Same of lists that differ, both sides. -/
namespace Go.Proofs.Ytogcpjkgliijmaa
open Go.RowKit

theorem neq_ne {x y : Dec} (h : x ≠ y) (W : World) : (binOp .neq 27 (.agg #[.int .i64 x.day, .int .i64 x.known, .int .i64 x.kind, .int .i64 x.subj, .int .i64 x.value]) (.agg #[.int .i64 y.day, .int .i64 y.known, .int .i64 y.kind, .int .i64 y.subj, .int .i64 y.value])).run Try.prog W = .ok (.bool true) W := by
  go_simp
  obtain ⟨x0, x1, x2, x3, x4⟩ := x
  obtain ⟨y0, y1, y2, y3, y4⟩ := y
  intro e0 e1 e2 e3 e4
  apply h
  simp_all

/-- The first place at which two lists differ. -/
def DifAt (a b : List Dec) (k : Nat) : Prop := k ≤ a.length ∧ k ≤ b.length ∧ (∀ j (_ : j < k) (h1 : j < a.length) (h2 : j < b.length), a[j] = b[j]) ∧ ¬ (k = a.length ∧ k = b.length) ∧ ∀ (h1 : k < a.length) (h2 : k < b.length), a[k] ≠ b[k]

theorem dif_or : ∀ a b : List Dec, a = b ∨ ∃ k, DifAt a b k := by
  intro a
  induction a with
  | nil =>
    intro b
    cases b with
    | nil => exact .inl rfl
    | cons y b => exact .inr ⟨0, Nat.zero_le _, Nat.zero_le _, fun j h => by omega, by simp, fun h => by simp at h⟩
  | cons x a ih =>
    intro b
    cases b with
    | nil => exact .inr ⟨0, Nat.zero_le _, Nat.zero_le _, fun j h => by omega, by simp, fun _ h => by simp at h⟩
    | cons y b =>
      by_cases hxy : x = y
      · subst hxy
        rcases ih b with h | ⟨k, h1, h2, h3, h4, h5⟩
        · exact .inl (by rw [h])
        · refine .inr ⟨k + 1, by simp; omega, by simp; omega, fun j hj q1 q2 => ?_, by simpa using h4, fun q1 q2 => ?_⟩
          · cases j with
            | zero => rfl
            | succ j => simpa using h3 j (by omega) (by simpa using q1) (by simpa using q2)
          · simpa using h5 (by simpa using q1) (by simpa using q2)
      · exact .inr ⟨0, Nat.zero_le _, Nat.zero_le _, fun j h => by omega, by simp, fun _ _ => by simpa using hxy⟩

set_option maxHeartbeats 2000000 in
theorem equal_dif (w : World) (pa pb : Option Addr) (ca cb k : Nat) (a b : List Dec) (h : DifAt a b k) (ha : Reads w pa a) (hb : Reads w pb b) (hl : a.length ≤ 1000) (hl2 : b.length ≤ 1000) :
    Calls Try.prog 61 #[.slice pa a.length ca, .slice pb b.length cb] w fun e w' => e = .returned (.bool false) ∧ Below w.heap.size w w' := by
  by_cases hlen : a.length = b.length
  · obtain ⟨h1, h2, h3, h4, h5⟩ := h
    have hka : k < a.length := by omega
    have hne : ((a.length : Int) != (b.length : Int)) = false := by rw [hlen]; simp
    have HA := Lib.hid ha; have HB := Lib.hid hb; have H3 := Lib.hid h3; have H5 := Lib.hid h5; have HL := Lib.hid hlen
    clear ha hb h3 h4 h5 hlen
    go_enter Try.func61, Try.ntmps61
    go_wp2_with fail
    go_loopw [13] (fun i wr => ∃ j : Nat, j ≤ k ∧ i = .int .i64 j ∧ ∃ n, wr = w.drewN n) (fun i _ => k - (intOf i).toNat)
    case atStart => exact ⟨0, Nat.zero_le _, rfl, 0, rfl⟩
    case round =>
      obtain ⟨j, hj, rfl, n, rfl⟩ := hrel
      have hja : j < a.length := by omega
      have hjb : j < b.length := by have := HL.out; omega
      rcases HA.out with h | ⟨ba, oa, hp, ra⟩
      · subst h; simp at hja
      rcases HB.out with h | ⟨bb, ob, hp2, rb⟩
      · subst h; simp at hjb
      subst hp; subst hp2
      obtain ⟨a0, a1, a2, a3, a4⟩ := ra j hja
      obtain ⟨b0, b1, b2, b3, b4⟩ := rb j hjb
      have hi0 : (0 : Int) ≤ (j : Int) := by omega
      have hi1 : (j : Int) < (a.length : Int) := by omega
      have hi2 : (j : Int) < (b.length : Int) := by omega
      clear ra rb
      by_cases hjk : j < k
      · have he := H3.out j hjk hja hjb
        rw [← he] at b0 b1 b2 b3 b4
        clear he
        go_wp2_with fail
        go_quiet (fail)
        go_wp2_with fail
        go_roundw
        case rel => exact ⟨j + 1, by omega, by go_num, _, rfl⟩
        case measure => simp [intOf]; omega
      · have hjk2 : j = k := by omega
        subst hjk2
        have hneq := neq_ne (H5.out hja hjb)
        go_wp2_with fail
        go_quiet (fail)
        go_wp2_with fail
        go_ret
        exact ⟨rfl, below_drewN (below_drewN (Below.refl _ _) _) _⟩
  · have hne : ((a.length : Int) != (b.length : Int)) = true := by rw [bne_iff_ne]; omega
    clear ha hb h hlen
    go_enter Try.func61, Try.ntmps61
    go_wp2_with fail
    go_ret
    exact ⟨rfl, Below.refl _ _⟩

set_option maxHeartbeats 1000000 in
theorem same_dif (w : World) (pa pb : Option Addr) (ca cb k : Nat) (a b : List Dec) (h : DifAt a b k) (ha : Reads w pa a) (hb : Reads w pb b) (hl : a.length ≤ 1000) (hl2 : b.length ≤ 1000) :
    Calls Try.prog 24 #[.agg #[.slice pa a.length ca], .agg #[.slice pb b.length cb]] w fun e w' => e = .returned (.bool false) ∧ Below w.heap.size w w' := by
  have hW : Below w.heap.size w ((w.alloc (.cells #[.slice pa a.length ca] 25)).alloc (.cells #[.slice pb b.length cb] 25)) := ((Below.refl _ _).alloc (Nat.le_refl _) _).alloc (by simp) _
  have cE := equal_dif ((w.alloc (.cells #[.slice pa a.length ca] 25)).alloc (.cells #[.slice pb b.length cb] 25)) pa pb ca cb k a b h (ha.mono hW) (hb.mono hW) hl hl2
  have CE := Lib.hid cE; have HW := Lib.hid hW; clear cE hW ha hb h
  go_enter Try.func24, Try.ntmps24
  go_wp2_with fail
  refine CE.out.mono ?_
  rintro e w1 ⟨rfl, hb1⟩
  go_wp2_with fail
  go_ret
  exact ⟨rfl, below_step HW.out hb1⟩
end Go.Proofs.Ytogcpjkgliijmaa

namespace Go.Proofs.Ytogcpjkgliijmaa
open Go.RowKit

set_option maxHeartbeats 4000000 in
theorem differ_dif (w : World) (pa pb : Option Addr) (ca cb k : Nat) (a b : List Dec) (h : DifAt a b k) (ha : Reads w pa a) (hb : Reads w pb b) (hl : a.length ≤ 1000) (hl2 : b.length ≤ 1000) :
    Calls Try.prog 25 #[.agg #[.slice pa a.length ca], .agg #[.slice pb b.length cb]] w fun e w' => e = .returned (.tuple #[.int .i64 k, .bool true]) ∧ Below w.heap.size w w' := by
  have hW : Below w.heap.size w ((w.alloc (.cells #[.slice pa a.length ca] 25)).alloc (.cells #[.slice pb b.length cb] 25)) := ((Below.refl _ _).alloc (Nat.le_refl _) _).alloc (by simp) _
  have hW0 : ((w.alloc (.cells #[.slice pa a.length ca] 25)).alloc (.cells #[.slice pb b.length cb] 25)).cell? ⟨w.heap.size, 0, none⟩ = some (.slice pa a.length ca) := by rw [World.cell?_alloc_lt _ _ _ (by simp)]; simp
  have hW1 : ((w.alloc (.cells #[.slice pa a.length ca] 25)).alloc (.cells #[.slice pb b.length cb] 25)).cell? ⟨w.heap.size + 1, 0, none⟩ = some (.slice pb b.length cb) := by simp
  obtain ⟨W, hWe⟩ : ∃ W, W = (w.alloc (.cells #[.slice pa a.length ca] 25)).alloc (.cells #[.slice pb b.length cb] 25) := ⟨_, rfl⟩
  obtain ⟨h1, h2, h3, h4, h5⟩ := h
  have HA := Lib.hid (ha.mono hW); have HB := Lib.hid (hb.mono hW); have HW := Lib.hid hW; have HW0 := Lib.hid hW0; have HW1 := Lib.hid hW1; have H3 := Lib.hid h3; have H4 := Lib.hid h4; have H5 := Lib.hid h5
  rw [← hWe] at HA HB HW HW0 HW1
  have HWE := Lib.hid hWe
  clear ha hb hW hW0 hW1 hWe h3 h4 h5
  rcases Nat.lt_or_ge b.length a.length with hgt | hle
  rotate_left
  · have c1 : ¬ (b.length : Int) < (a.length : Int) := by omega
    have c2 : (a.length : Int) ≤ (b.length : Int) := by omega
    go_enter Try.func25, Try.ntmps25
    go_wp2_with fail
    rw [← HWE.out]
    go_loopw [16] (fun i wr => ∃ j : Nat, j ≤ k ∧ i = .int .i64 j ∧ ∃ n, wr = W.drewN n) (fun i _ => k - (intOf i).toNat)
    case atStart => exact ⟨0, Nat.zero_le _, rfl, 0, rfl⟩
    case round =>
      obtain ⟨j, hj, rfl, n, rfl⟩ := hrel
      have g0 := HW0.out
      have g1 := HW1.out
      by_cases hin : j < a.length ∧ j < b.length
      · obtain ⟨hja, hjb⟩ := hin
        rcases HA.out with h | ⟨ba, oa, hp, ra⟩
        · subst h; simp at hja
        rcases HB.out with h | ⟨bb, ob, hp2, rb⟩
        · subst h; simp at hjb
        subst hp; subst hp2
        obtain ⟨a0, a1, a2, a3, a4⟩ := ra j hja
        obtain ⟨b0, b1, b2, b3, b4⟩ := rb j hjb
        have hi0 : (0 : Int) ≤ (j : Int) := by omega
        have hi1 : (j : Int) < (a.length : Int) := by omega
        have hi2 : (j : Int) < (b.length : Int) := by omega
        clear ra rb
        by_cases hjk : j < k
        · have he := H3.out j hjk hja hjb
          rw [← he] at b0 b1 b2 b3 b4
          clear he
          go_wp2_with fail
          go_quiet (fail)
          go_wp2_with fail
          go_roundw
          case rel => exact ⟨j + 1, by omega, by go_num, _, rfl⟩
          case measure => simp [intOf]; omega
        · have hjk2 : j = k := by omega
          subst hjk2
          have hneq := neq_ne (H5.out hja hjb)
          go_wp2_with fail
          go_quiet (fail)
          go_wp2_with fail
          go_ret2
          exact ⟨rfl, below_drewN (below_drewN HW.out _) _⟩
      · have hjk2 : j = k := by omega
        subst hjk2
        have hjn : j = a.length := by omega
        have hne : ((a.length : Int) == (b.length : Int)) = false := by rw [beq_eq_false_iff_ne]; have := H4.out; omega
        have hlf : ¬ j < a.length := by omega
        have HJ := Lib.hid hjn
        clear hjn hin
        go_wp2_with fail
        go_ret2
        exact ⟨by rw [HJ.out]; rfl, below_drewN HW.out _⟩
  · have c1 : (b.length : Int) ≤ (a.length : Int) := by omega
    have c2 : ¬ (a.length : Int) < (b.length : Int) := by omega
    have c3 : (b.length : Int) < (a.length : Int) := by omega
    have c4 : ¬ (a.length : Int) ≤ (b.length : Int) := by omega
    go_enter Try.func25, Try.ntmps25
    go_wp2_with fail
    rw [← HWE.out]
    go_loopw [16] (fun i wr => ∃ j : Nat, j ≤ k ∧ i = .int .i64 j ∧ ∃ n, wr = W.drewN n) (fun i _ => k - (intOf i).toNat)
    case atStart => exact ⟨0, Nat.zero_le _, rfl, 0, rfl⟩
    case round =>
      obtain ⟨j, hj, rfl, n, rfl⟩ := hrel
      have g0 := HW0.out
      have g1 := HW1.out
      by_cases hin : j < a.length ∧ j < b.length
      · obtain ⟨hja, hjb⟩ := hin
        rcases HA.out with h | ⟨ba, oa, hp, ra⟩
        · subst h; simp at hja
        rcases HB.out with h | ⟨bb, ob, hp2, rb⟩
        · subst h; simp at hjb
        subst hp; subst hp2
        obtain ⟨a0, a1, a2, a3, a4⟩ := ra j hja
        obtain ⟨b0, b1, b2, b3, b4⟩ := rb j hjb
        have hi0 : (0 : Int) ≤ (j : Int) := by omega
        have hi1 : (j : Int) < (a.length : Int) := by omega
        have hi2 : (j : Int) < (b.length : Int) := by omega
        clear ra rb
        by_cases hjk : j < k
        · have he := H3.out j hjk hja hjb
          rw [← he] at b0 b1 b2 b3 b4
          clear he
          go_wp2_with fail
          go_quiet (fail)
          go_wp2_with fail
          go_roundw
          case rel => exact ⟨j + 1, by omega, by go_num, _, rfl⟩
          case measure => simp [intOf]; omega
        · have hjk2 : j = k := by omega
          subst hjk2
          have hneq := neq_ne (H5.out hja hjb)
          go_wp2_with fail
          go_quiet (fail)
          go_wp2_with fail
          go_ret2
          exact ⟨rfl, below_drewN (below_drewN HW.out _) _⟩
      · have hjk2 : j = k := by omega
        subst hjk2
        have hjn : j = b.length := by omega
        have hne : ((a.length : Int) == (b.length : Int)) = false := by rw [beq_eq_false_iff_ne]; have := H4.out; omega
        have hlf : ¬ j < b.length := by omega
        have HJ := Lib.hid hjn
        clear hjn hin
        go_wp2_with fail
        go_ret2
        exact ⟨by rw [HJ.out]; rfl, below_drewN HW.out _⟩

set_option maxHeartbeats 4000000 in
theorem refdiffer_dif (w : World) (pa pb : Option Addr) (ca cb k : Nat) (a b : List Dec) (h : DifAt a b k) (ha : Reads w pa a) (hb : Reads w pb b) (hl : a.length ≤ 1000) (hl2 : b.length ≤ 1000) :
    Calls Try.prog 26 #[.agg #[.slice pa a.length ca], .agg #[.slice pb b.length cb]] w fun e w' => e = .returned (.tuple #[.int .i64 k, .bool true]) ∧ Below w.heap.size w w' := by
  have hW : Below w.heap.size w ((w.alloc (.cells #[.slice pa a.length ca] 25)).alloc (.cells #[.slice pb b.length cb] 25)) := ((Below.refl _ _).alloc (Nat.le_refl _) _).alloc (by simp) _
  have hW0 : ((w.alloc (.cells #[.slice pa a.length ca] 25)).alloc (.cells #[.slice pb b.length cb] 25)).cell? ⟨w.heap.size, 0, none⟩ = some (.slice pa a.length ca) := by rw [World.cell?_alloc_lt _ _ _ (by simp)]; simp
  have hW1 : ((w.alloc (.cells #[.slice pa a.length ca] 25)).alloc (.cells #[.slice pb b.length cb] 25)).cell? ⟨w.heap.size + 1, 0, none⟩ = some (.slice pb b.length cb) := by simp
  obtain ⟨W, hWe⟩ : ∃ W, W = (w.alloc (.cells #[.slice pa a.length ca] 25)).alloc (.cells #[.slice pb b.length cb] 25) := ⟨_, rfl⟩
  obtain ⟨h1, h2, h3, h4, h5⟩ := h
  have HA := Lib.hid (ha.mono hW); have HB := Lib.hid (hb.mono hW); have HW := Lib.hid hW; have HW0 := Lib.hid hW0; have HW1 := Lib.hid hW1; have H3 := Lib.hid h3; have H4 := Lib.hid h4; have H5 := Lib.hid h5
  rw [← hWe] at HA HB HW HW0 HW1
  have HWE := Lib.hid hWe
  clear ha hb hW hW0 hW1 hWe h3 h4 h5
  go_enter Try.func26, Try.ntmps26
  go_wp2_with fail
  rw [← HWE.out]
  go_loopw [4, 5, 6] (fun s4 s5 i wr => s4 = .int .i64 0 ∧ s5 = .bool false ∧ ∃ j : Nat, j ≤ k ∧ i = .int .i64 j ∧ ∃ n, wr = W.drewN n) (fun _ _ i _ => k - (intOf i).toNat)
  case atStart => exact ⟨rfl, rfl, 0, Nat.zero_le _, rfl, 0, rfl⟩
  case round =>
    obtain ⟨rfl, rfl, j, hj, rfl, n, rfl⟩ := hrel
    have g0 := HW0.out
    have g1 := HW1.out
    by_cases hja : j < a.length
    · have d1 : decide (j < a.length) = true := by rw [decide_eq_true_eq]; omega
      have d2 : decide (a.length ≤ j) = false := by rw [decide_eq_false_iff_not]; omega
      by_cases hjb : j < b.length
      · have d3 : decide (b.length ≤ j) = false := by rw [decide_eq_false_iff_not]; omega
        rcases HA.out with h | ⟨ba, oa, hp, ra⟩
        · subst h; simp at hja
        rcases HB.out with h | ⟨bb, ob, hp2, rb⟩
        · subst h; simp at hjb
        subst hp; subst hp2
        obtain ⟨a0, a1, a2, a3, a4⟩ := ra j hja
        obtain ⟨b0, b1, b2, b3, b4⟩ := rb j hjb
        have hi0 : (0 : Int) ≤ (j : Int) := by omega
        have hi1 : (j : Int) < (a.length : Int) := by omega
        have hi2 : (j : Int) < (b.length : Int) := by omega
        clear ra rb
        by_cases hjk : j < k
        · have he := H3.out j hjk hja hjb
          rw [← he] at b0 b1 b2 b3 b4
          clear he
          go_wp2_with fail
          go_quiet (fail)
          go_wp2_with fail
          go_roundw
          case rel => exact ⟨rfl, rfl, j + 1, by omega, by go_num, _, rfl⟩
          case measure => simp [intOf]; omega
        · have hjk2 : j = k := by omega
          subst hjk2
          have hneq := neq_ne (H5.out hja hjb)
          go_wp2_with fail
          go_quiet (fail)
          go_wp2_with fail
          go_ret2
          exact ⟨rfl, below_drewN (below_drewN HW.out _) _⟩
      · have d3 : decide (b.length ≤ j) = true := by rw [decide_eq_true_eq]; omega
        have hjk2 : j = k := by omega
        subst hjk2
        go_wp2_with fail
        go_quiet (fail)
        go_wp2_with fail
        go_ret2
        exact ⟨rfl, below_drewN (below_drewN HW.out _) _⟩
    · have d1 : decide (j < a.length) = false := by rw [decide_eq_false_iff_not]; omega
      have d2 : decide (a.length ≤ j) = true := by rw [decide_eq_true_eq]; omega
      have hjk2 : j = k := by omega
      subst hjk2
      have hjb : j < b.length := by have := H4.out; omega
      have d4 : decide (j < b.length) = true := by rw [decide_eq_true_eq]; omega
      go_wp2_with fail
      go_quiet (fail)
      go_wp2_with fail
      go_ret2
      exact ⟨rfl, below_drewN (below_drewN HW.out _) _⟩

set_option maxHeartbeats 1000000 in
theorem refsame_dif (w : World) (pa pb : Option Addr) (ca cb k : Nat) (a b : List Dec) (h : DifAt a b k) (ha : Reads w pa a) (hb : Reads w pb b) (hl : a.length ≤ 1000) (hl2 : b.length ≤ 1000) :
    Calls Try.prog 21 #[.agg #[.slice pa a.length ca], .agg #[.slice pb b.length cb]] w fun e w' => e = .returned (.bool false) ∧ Below w.heap.size w w' := by
  have hW : Below w.heap.size w ((w.alloc (.cells #[.slice pa a.length ca] 25)).alloc (.cells #[.slice pb b.length cb] 25)) := ((Below.refl _ _).alloc (Nat.le_refl _) _).alloc (by simp) _
  have cE := refdiffer_dif ((w.alloc (.cells #[.slice pa a.length ca] 25)).alloc (.cells #[.slice pb b.length cb] 25)) pa pb ca cb k a b h (ha.mono hW) (hb.mono hW) hl hl2
  have CE := Lib.hid cE; have HW := Lib.hid hW; clear cE hW ha hb h
  go_enter Try.func21, Try.ntmps21
  go_wp2_with fail
  refine CE.out.mono ?_
  rintro e w1 ⟨rfl, hb1⟩
  go_wp2_with fail
  go_ret
  exact ⟨rfl, below_step HW.out hb1⟩
end Go.Proofs.Ytogcpjkgliijmaa
