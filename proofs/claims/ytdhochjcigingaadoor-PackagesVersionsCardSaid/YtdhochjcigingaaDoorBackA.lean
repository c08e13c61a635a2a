/- catalog.Code, catalog.Kind; Parse of Text is the use. -/
import Derived.Test.YtdhochjcigingaaDoorUse
namespace Go.Proofs.YtdhochjcigingaaDoor
open Go.RowKit
set_option linter.all false

def codeS (s : List UInt8) : Nat := ((List.range 17).find? fun j => (rowAt j).name == s).getD 0
theorem code_hit {s : List UInt8} {k : Nat} (hk : k < 17) (h : ∀ j, j < k → (rowAt j).name ≠ s) (he : (rowAt k).name = s) : codeS s = k := by
  unfold codeS
  rw [List.find?_eq_some_iff_getElem.2 ⟨by simpa using he, k, by simpa using hk, by simp, fun j hj => by simpa using h j hj⟩]
  rfl
theorem code_none {s : List UInt8} (h : ∀ j, j < 17 → (rowAt j).name ≠ s) : codeS s = 0 := by
  unfold codeS
  rw [List.find?_eq_none.2 (fun j hj => by simpa using h j (by simpa using hj))]
  rfl

theorem index_row (k : Nat) (hk : k < 17) (W : World) : (Instr.index 99 (.agg rowC.toArray) (.int .i64 k)).run Tryd.prog W = .ok (.agg #[.string ⟨(rowAt k).name.toArray⟩, .int .u8 (rowAt k).xa, .int .u16 (rowAt k).xb, .int .u8 (rowAt k).ca, .int .u16 (rowAt k).cb, .int .u8 (rowAt k).sign, .int .u8 (rowAt k).mac, .int .u8 (rowAt k).least, .int .u8 (rowAt k).most]) W := by
  have hc : k = 0 ∨ k = 1 ∨ k = 2 ∨ k = 3 ∨ k = 4 ∨ k = 5 ∨ k = 6 ∨ k = 7 ∨ k = 8 ∨ k = 9 ∨ k = 10 ∨ k = 11 ∨ k = 12 ∨ k = 13 ∨ k = 14 ∨ k = 15 ∨ k = 16 := by omega
  clear hk
  rcases hc with rfl | rfl | rfl | rfl | rfl | rfl | rfl | rfl | rfl | rfl | rfl | rfl | rfl | rfl | rfl | rfl | rfl
  all_goals (show _ = _; kernel_rfl)

set_option maxRecDepth 100000 in
set_option maxHeartbeats 2000000 in
theorem code_any {m : Int} (s : List UInt8) (w : World) (h : Tabs m w) : Calls Tryd.prog 28 #[.string ⟨s.toArray⟩] w (IntP (codeS s) w) := by
  obtain ⟨tt, h0⟩ := h.rows
  have hlen : (Tryd.prog.info? 99).map (·.size) = some rowC.toArray.size := by kernel_rfl
  have hix0 := index_row
  have HI := Lib.hid hix0; clear hix0
  generalize rowC.toArray = A at *
  go_enter Tryd.func28, Tryd.ntmps28
  go_wp2_with (refine wpList_load_row rfl _ _ rfl 1 rfl tt A (0, 0) _ h0 Tryd.underlying99 rfl hlen ?_)
  go_loopw [3, 4, 6] (fun _ _ i wr => ∃ k : Nat, k ≤ 17 ∧ i = .int .i64 k ∧ (∀ j, j < k → (rowAt j).name ≠ s) ∧ Below w.heap.size w wr) (fun _ _ i _ => 17 - (intOf i).toNat)
  case atStart => exact ⟨0, by omega, rfl, fun j hj => by omega, Below.refl _ _⟩
  case round =>
    obtain ⟨k, hk, rfl, hn, hb⟩ := hrel
    clear h0 hlen h
    have HN := Lib.hid hn; clear hn
    by_cases hlt : k < 17
    · have hix := HI.out k hlt
      obtain ⟨r, hr⟩ : ∃ r, r = rowAt k := ⟨_, rfl⟩
      rw [← hr] at hix
      have HB := Lib.hid hb
      have hsz := hb.size
      clear hb
      by_cases he : r.name = s
      · have hq : (r.name == s) = true := by simpa using he
        have HE := Lib.hid he; have HR := Lib.hid hr; clear he hr
        go_wp2_with fail
        go_ret
        exact ⟨ret_i (by rw [code_hit hlt HN.out (by rw [← HR.out]; exact HE.out)]), HB.out.alloc hsz _⟩
      · have hq : (r.name == s) = false := by simpa using he
        have HE := Lib.hid he; have HR := Lib.hid hr; clear he hr
        go_wp2_with fail
        go_roundw
        case rel => exact ⟨k + 1, by omega, by go_num, fun j hj => by
          rcases Nat.lt_succ_iff_lt_or_eq.1 hj with h | h
          · exact HN.out j h
          · subst h; rw [← HR.out]; exact HE.out, HB.out.alloc hsz _⟩
        case measure => simp [intOf]; omega
    · have hk' : k = 17 := by omega
      subst hk'
      go_wp2_with fail
      go_ret
      exact ⟨ret_i (by rw [code_none HN.out]; rfl), hb⟩
theorem code_row : ∀ i, i < 17 → 1 ≤ i → codeS (rowAt i).name = i := by decide +kernel

theorem field1 (x y z : Value) (W : World) : (Instr.field 86 (.agg #[x, y, z]) 1).run Tryd.prog W = .ok y W := by kernel_rfl
theorem akI_rng (a : Int) : 0 ≤ akI a ∧ akI a ≤ 5 := by
  unfold akI
  split
  · rename_i hi
    have : ∀ i, i < 23 → 0 ≤ akd i ∧ akd i ≤ 5 := by decide +kernel
    exact this _ (by omega)
  · omega
theorem kind_any {m : Int} (a : Int) (w : World) (h : Tabs m w) : Calls Tryd.prog 18 #[.int .i64 a] w (IntP (akI a) w) := by
  have cA := algorithm_any a w h
  obtain ⟨k0, k5⟩ := akI_rng a
  generalize anI a = n1 at *
  generalize akI a = k1 at *
  generalize asI a = s1 at *
  have CA := Lib.hid cA; clear cA
  have hf := field1 (.string ⟨n1.toArray⟩) (.int .u8 k1) (.int .u16 s1)
  go_enter Tryd.func18, Tryd.ntmps18
  go_wp2_with fail
  refine (CA.out).mono ?_
  rintro e w1 ⟨rfl, hb⟩
  have HB := Lib.hid hb; clear hb
  go_wp2_with fail
  go_ret
  exact ⟨rfl, HB.out⟩

/-- The algorithms 1 .. 22: their names find them, their kinds are 1 .. 5. -/
theorem alg_back (a : Nat) (h1 : 1 ≤ a) (h2 : a ≤ 22) : findS (anI (a : Int)) = a ∧ 1 ≤ akI (a : Int) ∧ akI (a : Int) ≤ 5 := by
  have : ∀ i : Nat, i < 23 → 1 ≤ i → findS (anI (i : Int)) = i ∧ 1 ≤ akI (i : Int) ∧ akI (i : Int) ≤ 5 := by decide +kernel
  exact this a (by omega) h1

/-- Digits, by a number of steps. -/
def decD : Nat → Nat → List UInt8
  | 0, _ => []
  | f + 1, u => if u < 10 then [UInt8.ofNat (48 + u)] else decD f (u / 10) ++ [UInt8.ofNat (48 + u % 10)]
theorem decD_eq (f : Nat) : ∀ u, u < 10 ^ (f + 1) → Lib.decDigits u = decD (f + 1) u := by
  induction f with
  | zero => intro u h; rw [Lib.decDigits, dif_pos (by simpa using h)]; unfold decD; rw [if_pos (by simpa using h)]
  | succ f ih =>
    intro u h
    rw [Lib.decDigits]
    unfold decD
    by_cases h10 : u < 10
    · rw [dif_pos h10, if_pos h10]
    · rw [dif_neg h10, if_neg h10, ih (u / 10) (by rw [Nat.pow_succ] at h; omega)]
theorem itoa_eq (b : Int) (h0 : 0 ≤ b) (h1 : b ≤ 16384) : Lib.itoa b = decD 5 b.toNat := by
  unfold Lib.itoa
  rw [if_neg (by omega)]
  exact decD_eq 4 b.toNat (by omega)
def textD (a b : Int) : List UInt8 := if b = 0 then anI a else anI a ++ 45 :: decD 5 b.toNat

theorem uses_back (a b : Int) (h1 : 1 ≤ a) (h2 : a ≤ 22) (hb : b ∈ sizesS a) : 1 ≤ strS a b ∧ textS a b ≠ [] ∧ (textS a b).length ≤ 1000 ∧ parseA (textS a b) = a ∧ parseB (textS a b) = b := by
  have key : ∀ i : Nat, i < 23 → 1 ≤ i → ∀ c ∈ sizesS (i : Int), 0 < strS (i : Int) c ∧ textD (i : Int) c ≠ [] ∧ (textD (i : Int) c).length ≤ 1000 ∧ parseA (textD (i : Int) c) = (i : Int) ∧ parseB (textD (i : Int) c) = c := by decide +kernel
  obtain ⟨i, rfl⟩ : ∃ i : Nat, a = i := ⟨a.toNat, by omega⟩
  obtain ⟨k0, k1, k2, k3, k4⟩ := key i (by omega) (by omega) b hb
  obtain ⟨b0, b1⟩ := strS_pos k0
  have ht : textS (i : Int) b = textD (i : Int) b := by
    unfold textS textD
    rw [if_pos k0, itoa_eq b b0 b1]
  rw [ht]
  exact ⟨k0, k1, k2, k3, k4⟩
end Go.Proofs.YtdhochjcigingaaDoor
