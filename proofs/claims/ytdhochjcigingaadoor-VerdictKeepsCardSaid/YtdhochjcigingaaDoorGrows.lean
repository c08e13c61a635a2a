/- CatalogGrows. -/
import Derived.Test.YtdhochjcigingaaDoorAwake
namespace Go.Proofs.YtdhochjcigingaaDoor
open Go.RowKit
set_option linter.all false

set_option maxHeartbeats 400000 in
theorem mod_any (n k : Int) (w : World) (h1 : -9223372036854775808 ≤ n) (h2 : n ≤ 9223372036854775807) (hk : 1 ≤ k) (hk2 : k ≤ 1000000) :
    Calls Tryd.prog 30 #[.int .i64 n, .int .i64 k] w fun e w' => e = .returned (.int .i64 (n % k)) ∧ w = w' := by
  have a1 : -1000000 < n.tmod k := by have := Int.lt_tmod_of_pos n (show 0 < k by omega); omega
  have a2 : n.tmod k < 1000000 := by have := Int.tmod_lt_of_pos n (show 0 < k by omega); omega
  have a3 : 0 ≤ n.tmod k + k := by have := Int.lt_tmod_of_pos n (show 0 < k by omega); omega
  have hf : (n.tmod k + k) % k = n % k := by
    rw [Int.add_emod_right]
    rw [Int.tmod_eq_emod]
    split
    · simp
    · rw [Int.sub_emod]
      have e : ((k.natAbs : Nat) : Int) % k = 0 := by rw [Int.natAbs_of_nonneg (by omega)]; exact Int.emod_self
      rw [e]; simp
  have HF := Lib.hid hf; clear hf
  go_enter Tryd.func30, Tryd.ntmps30
  go_wp2
  go_ret
  exact ⟨ret_i HF.out, rfl⟩

theorem strS_le (a b : Int) : 0 ≤ strS a b ∧ strS a b ≤ 512 := by
  unfold strS
  have hr : asI a ≤ 256 := by
    unfold asI
    split
    · rename_i hi
      have : ∀ i, i < 23 → ast i ≤ 256 := by decide +kernel
      exact this _ (by omega)
    · omega
  have hl : 0 ≤ longS b ∧ longS b ≤ 256 := by
    unfold longS
    repeat (split; · omega)
    omega
  have hs : 0 ≤ sizeS a b ∧ sizeS a b ≤ 256 := by
    unfold sizeS
    repeat (split; · omega)
    omega
  split
  · split <;> omega
  split
  · split <;> omega
  split
  · split
    · rename_i hc; have := curve_pos hc; omega
    · omega
  split
  · split <;> omega
  omega

theorem sizeS_pos {a b : Int} (h : 0 < sizeS a b) : (a = 14 ∧ b = 40 ∧ sizeS a b = 40) ∨ (a = 14 ∧ b = 128 ∧ sizeS a b = 60) ∨ (a = 15 ∧ b = 112 ∧ sizeS a b = 80) ∨ (a = 15 ∧ b = 168 ∧ sizeS a b = 112) ∨ (a = 9 ∧ b = 44 ∧ sizeS a b = 128) ∨
    (a = 13 ∧ b = 512 ∧ sizeS a b = 128) ∨ (a = 9 ∧ b = 65 ∧ sizeS a b = 192) ∨ (a = 13 ∧ b = 768 ∧ sizeS a b = 192) ∨ (a = 9 ∧ b = 87 ∧ sizeS a b = 256) ∨ (a = 13 ∧ b = 1024 ∧ sizeS a b = 256) := by
  unfold sizeS at *
  repeat (split at h; · rename_i k; obtain ⟨rfl, rfl⟩ := k; simp)
  omega

theorem strS_mono (a b c : Int) (h : b ≤ c) (hb : 0 < strS a b) (hc : 0 < strS a c) : strS a b ≤ strS a c := by
  unfold strS at *
  by_cases h0 : 0 < asI a
  · rw [if_pos h0] at *
    split at hb
    · split at hc
      · simp [*]
      · omega
    · omega
  rw [if_neg h0] at *
  by_cases h1 : a = 5 ∨ a = 6 ∨ a = 10 ∨ a = 11
  · rw [if_pos h1] at *
    split at hb
    · split at hc
      · rename_i k1 k2
        rw [if_pos k1, if_pos k2]
        unfold longS
        split <;> split <;> (try omega)
        all_goals (repeat (split <;> try omega))
      · omega
    · omega
  rw [if_neg h1] at *
  by_cases h2 : a = 7 ∨ a = 12
  · rw [if_pos h2] at *
    split at hb
    · split at hc
      · rename_i k1 k2
        rw [if_pos k1, if_pos k2]; omega
      · omega
    · omega
  rw [if_neg h2] at *
  by_cases h3 : a = 16 ∨ a = 17
  · rw [if_pos h3] at *
    split at hb
    · split at hc
      · rename_i k1 k2
        rw [if_pos k1, if_pos k2]; omega
      · omega
    · omega
  rw [if_neg h3] at *
  rcases sizeS_pos hb with k | k | k | k | k | k | k | k | k | k <;> rcases sizeS_pos hc with l | l | l | l | l | l | l | l | l | l <;> omega

theorem strS_rng {a b : Int} (h : 0 < strS a b) : 1 ≤ a ∧ a ≤ 22 := by
  unfold strS at h
  by_cases h0 : 0 < asI a
  · unfold asI at h0
    split at h0
    · rename_i hi
      have : a ≠ 0 := by
        rintro rfl
        revert h0
        decide
      omega
    · omega
  rw [if_neg h0] at h
  split at h
  · omega
  split at h
  · omega
  split at h
  · omega
  rcases sizeS_pos h with k | k | k | k | k | k | k | k | k | k <;> omega

theorem textS_ne (a b : Int) : (textS a b == []) = !decide (0 < strS a b) := by
  unfold textS
  by_cases h : 0 < strS a b
  · rw [if_pos h, decide_eq_true h]
    have hne : anI a ≠ [] := by
      obtain ⟨h1, h2⟩ := strS_rng h
      unfold anI
      rw [if_pos ⟨by omega, by omega⟩]
      have : ∀ i, i < 23 → 1 ≤ i → anm i ≠ [] := by decide +kernel
      exact this _ (by omega) (by omega)
    split
    · simpa using hne
    · simp
  · rw [if_neg h, decide_eq_false h]; rfl


structure GW (m : Int) (w : World) (B : Nat) (a b c : Int) (W : World) : Prop where
  c0 : W.cell? ⟨B, 0, none⟩ = some (.int .i64 a)
  c1 : W.cell? ⟨B, 1, none⟩ = some (.int .i64 b)
  d0 : W.cell? ⟨B + 1, 0, none⟩ = some (.int .i64 a)
  d1 : W.cell? ⟨B + 1, 1, none⟩ = some (.int .i64 c)
  tabs : Tabs m W
  below : Below w.heap.size w W
  lt : B + 1 < W.heap.size

theorem GW.step {m : Int} {w : World} {B : Nat} {a b c : Int} {W W' : World} (h : GW m w B a b c W) (hb : Below W.heap.size W W') : GW m w B a b c W' := by
  have hl := h.lt
  exact ⟨(hb.cell (p := ⟨B, 0, none⟩) (by simp only; omega)).trans h.c0, (hb.cell (p := ⟨B, 1, none⟩) (by simp only; omega)).trans h.c1, (hb.cell (p := ⟨B + 1, 0, none⟩) hl).trans h.d0, (hb.cell (p := ⟨B + 1, 1, none⟩) hl).trans h.d1, h.tabs.step hb, h.below.trans (hb.mono h.below.size), by have := hb.size; omega⟩
theorem GW.drew {m : Int} {w : World} {B : Nat} {a b c : Int} {W : World} (h : GW m w B a b c W) : GW m w B a b c W.drew := h.step (Below.refl _ _).drew

def StrG (m : Int) (w : World) (B : Nat) (a b c n : Int) (e : Ending) (w' : World) : Prop := e = .returned (.int .i64 n) ∧ GW m w B a b c w'
theorem strength_gw {m : Int} {w : World} {B : Nat} {a b c : Int} {W : World} (x : Int) (h : GW m w B a b c W) : Calls Tryd.prog 22 #[.agg #[.int .i64 a, .int .i64 x]] W (StrG m w B a b c (strS a x)) :=
  (strength_any a x W h.tabs).mono fun _ _ ⟨he, hb⟩ => ⟨he, h.step hb⟩

set_option maxRecDepth 100000 in
set_option maxHeartbeats 4000000 in
theorem grows_any {m : Int} (g a b : Int) (w : World) (h : Tabs m w) (hg : 0 ≤ g ∧ g ≤ 255) (ha : -9223372036854775808 ≤ a ∧ a ≤ 9223372036854775807) (hb : -9223372036854775808 ≤ b ∧ b ≤ 9223372036854775807) :
    Calls Tryd.prog 6 #[.int .u8 g, .int .i64 a, .int .i64 b] w (BoolP true w) := by
  have cA := fun W => mod_any a 16385 W ha.1 ha.2 (by omega) (by omega)
  have cB := fun W => mod_any b 16385 W hb.1 hb.2 (by omega) (by omega)
  have a0 := Int.emod_nonneg a (show (16385 : Int) ≠ 0 by omega)
  have a1 := Int.emod_lt_of_pos a (show (0 : Int) < 16385 by omega)
  have b0 := Int.emod_nonneg b (show (16385 : Int) ≠ 0 by omega)
  have b1 := Int.emod_lt_of_pos b (show (0 : Int) < 16385 by omega)
  generalize a % 16385 = p at *
  generalize b % 16385 = q at *
  clear ha hb
  obtain ⟨g0, g1⟩ := hg
  have CA := Lib.hid cA; have CB := Lib.hid cB
  clear cA cB
  have HT := Lib.hid h; clear h
  go_enter Tryd.func6, Tryd.ntmps6
  go_wp2_with fail
  refine (CA.out _).mono ?_
  rintro e w' ⟨rfl, rfl⟩
  go_wp2_with fail
  refine (CB.out _).mono ?_
  rintro e w' ⟨rfl, rfl⟩
  go_wp2_with fail
  have hG : GW m w w.heap.size (1 + g % 22) (min p q) (max p q) ((w.alloc (.cells #[.int .i64 (1 + g % 22), .int .i64 (min p q)] 23)).alloc (.cells #[.int .i64 (1 + g % 22), .int .i64 (max p q)] 23)) :=
    ⟨by rw [World.cell?_alloc_lt _ _ _ (by simp)]; simp, by rw [World.cell?_alloc_lt _ _ _ (by simp)]; simp, by have := cell_of_row _ (w.heap.size + 1) 0 _ _ _ (heap_alloc2_new w (.cells #[.int .i64 (1 + g % 22), .int .i64 (min p q)] 23) (.cells #[.int .i64 (1 + g % 22), .int .i64 (max p q)] 23)); exact this, by have := cell_of_row _ (w.heap.size + 1) 1 _ _ _ (heap_alloc2_new w (.cells #[.int .i64 (1 + g % 22), .int .i64 (min p q)] 23) (.cells #[.int .i64 (1 + g % 22), .int .i64 (max p q)] 23)); exact this, (HT.out.alloc _).alloc _, ((Below.refl _ _).alloc (Nat.le_refl _) _).alloc (by simp) _, by simp⟩
  have hlh : min p q ≤ max p q := by omega
  generalize ((w.alloc (.cells #[.int .i64 (1 + g % 22), .int .i64 (min p q)] 23)).alloc (.cells #[.int .i64 (1 + g % 22), .int .i64 (max p q)] 23)) = W at *
  clear CA CB HT a0 a1 b0 b1
  generalize min p q = lo at *
  generalize max p q = hi at *
  generalize 1 + g % 22 = x at *
  clear g0 g1
  have hGd := hG.drew
  clear hG
  have c0 := hGd.c0; have c1 := hGd.c1; have d0 := hGd.d0; have d1 := hGd.d1
  generalize w.heap.size = B at *
  go_region_held3 (fun W => W.cell? ⟨B, 0, none⟩ = some (.int .i64 x) ∧ W.cell? ⟨B, 1, none⟩ = some (.int .i64 lo) ∧ W.cell? ⟨B + 1, 0, none⟩ = some (.int .i64 x) ∧ W.cell? ⟨B + 1, 1, none⟩ = some (.int .i64 hi)) (go_keep)
    ((go_at_call 22; refine (strength_gw _ (by assumption)).mono ?_; rintro e w' ⟨rfl, hG'⟩; have e0 := hG'.c0; have e1 := hG'.c1; have e2 := hG'.d0; have e3 := hG'.d1))
  have hs := strS_le x lo
  have hm := strS_mono x lo hi hlh
  have ht := (strS_le x hi).1
  have cV := fun W (h : Tabs m W) => valid_any x lo W h
  have cT := fun W (h : Tabs m W) => text_any x lo W h
  have hT := textS_ne x lo
  unfold validB at cV
  generalize strS x lo = s at *
  generalize strS x hi = t at *
  generalize textS x lo = T at *
  by_cases hs0 : s = 0
  · subst hs0
    have hT' : T = [] := by simpa using hT
    subst hT'
    rw [decide_eq_false (by omega)] at cV
    have CV := Lib.hid cV; have CT := Lib.hid cT
    clear cV cT hT hm hs
    go_wp2_with fail
    refine (CV.out _ hG'.tabs).mono ?_
    rintro e w6 ⟨rfl, hb6⟩
    have hG6 := hG'.step hb6
    have f0 := hG6.c0; have f1 := hG6.c1
    clear hb6
    go_wp2_with fail
    refine (CT.out _ hG6.tabs).mono ?_
    rintro e w7 ⟨rfl, hb7⟩
    have hG7 := hG6.step hb7
    clear hb7
    go_wp2_with fail
    refine (awake_any _ hG7.tabs).mono ?_
    rintro e w8 ⟨rfl, hb8⟩
    have hG8 := hG7.step hb8
    clear hb8
    go_wp2_with fail
    go_ret
    exact ⟨rfl, hG8.below⟩
  have hs1 : 0 < s := by omega
  have hne : (s == 0) = false := by simpa using hs0
  have hT1 : T.isEmpty = false := by
    rw [decide_eq_true hs1] at hT
    cases T
    · simp at hT
    · rfl
  rw [decide_eq_true hs1] at cV
  have CV := Lib.hid cV; have CT := Lib.hid cT
  clear cV cT hT hs0
  by_cases ht0 : t = 0
  · subst ht0
    clear hm
    go_wp2_with fail
    refine (CV.out _ hG'.tabs).mono ?_
    rintro e w6 ⟨rfl, hb6⟩
    have hG6 := hG'.step hb6
    have f0 := hG6.c0; have f1 := hG6.c1
    clear hb6
    go_wp2_with fail
    refine (CT.out _ hG6.tabs).mono ?_
    rintro e w7 ⟨rfl, hb7⟩
    have hG7 := hG6.step hb7
    clear hb7
    go_wp2_with fail
    refine (awake_any _ hG7.tabs).mono ?_
    rintro e w8 ⟨rfl, hb8⟩
    have hG8 := hG7.step hb8
    clear hb8
    go_wp2_with fail
    go_ret
    exact ⟨rfl, hG8.below⟩
  · have hne2 : (t == 0) = false := by simpa using ht0
    have hle : s ≤ t := hm hs1 (by omega)
    clear hm
    go_wp2_with fail
    refine (CV.out _ hG'.tabs).mono ?_
    rintro e w6 ⟨rfl, hb6⟩
    have hG6 := hG'.step hb6
    have f0 := hG6.c0; have f1 := hG6.c1
    clear hb6
    go_wp2_with fail
    refine (CT.out _ hG6.tabs).mono ?_
    rintro e w7 ⟨rfl, hb7⟩
    have hG7 := hG6.step hb7
    clear hb7
    go_wp2_with fail
    refine (awake_any _ hG7.tabs).mono ?_
    rintro e w8 ⟨rfl, hb8⟩
    have hG8 := hG7.step hb8
    clear hb8
    go_wp2_with fail
    go_ret
    exact ⟨rfl, hG8.below⟩
end Go.Proofs.YtdhochjcigingaaDoor
