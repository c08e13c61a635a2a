/- Ways along requirements (plain mathematics). -/
import Derived.Test.YtgeldpkopolnfaaDoorNdE
namespace Go.Proofs.YtgeldpkopolnfaaDoor
set_option linter.all false

def wk (l : List (Int × Int)) : Nat → Nat → Nat → Prop
  | 0, a, b => ((a : Int), (b : Int)) ∈ l
  | k + 1, a, b => wk l k a b ∨ (wk l k a k ∧ wk l k k b)
/-- A way along requirements. -/
inductive Way (l : List (Int × Int)) : Nat → Nat → Prop
  | one {a b : Nat} : ((a : Int), (b : Int)) ∈ l → Way l a b
  | more {a c b : Nat} : ((a : Int), (c : Int)) ∈ l → Way l c b → Way l a b
theorem Way.trans {l : List (Int × Int)} {a b c : Nat} (h : Way l a b) (h2 : Way l b c) : Way l a c := by
  induction h with
  | one h => exact .more h h2
  | more h _ ih => exact .more h (ih h2)
theorem Way.mono {l m : List (Int × Int)} (hs : ∀ x ∈ l, x ∈ m) {a b : Nat} (h : Way l a b) : Way m a b := by
  induction h with
  | one h => exact .one (hs _ h)
  | more h _ ih => exact .more (hs _ h) ih
theorem wk_mono {l : List (Int × Int)} {a b : Nat} {k : Nat} (h : wk l k a b) : ∀ m, k ≤ m → wk l m a b := by
  intro m
  induction m with
  | zero => intro hm; obtain rfl : k = 0 := by omega
            exact h
  | succ m ih =>
    intro hm
    by_cases e : k = m + 1
    · subst e; exact h
    · exact .inl (ih (by omega))
theorem wk_trans {l : List (Int × Int)} {a b c : Nat} : ∀ k, c < k → wk l k a c → wk l k c b → wk l k a b := by
  intro k
  induction k generalizing a b c with
  | zero => intro h; omega
  | succ k ih =>
    intro hc h1 h2
    by_cases e : c = k
    · subst e
      have g1 : wk l c a c := by rcases h1 with h | h
                                 · exact h
                                 · exact h.1
      have g2 : wk l c c b := by rcases h2 with h | h
                                 · exact h
                                 · exact h.2
      exact .inr ⟨g1, g2⟩
    · have hck : c < k := by omega
      rcases h1 with h1 | ⟨h1, h1'⟩
      · rcases h2 with h2 | ⟨h2, h2'⟩
        · exact .inl (ih hck h1 h2)
        · exact .inr ⟨ih hck h1 h2, h2'⟩
      · rcases h2 with h2 | ⟨_, h2'⟩
        · exact .inr ⟨h1, ih hck h1' h2⟩
        · exact .inr ⟨h1, h2'⟩
/-- All requirements are between numbers below n. -/
def Inn (n : Nat) (l : List (Int × Int)) : Prop := ∀ x ∈ l, 0 ≤ x.1 ∧ x.1 < n ∧ 0 ≤ x.2 ∧ x.2 < n
theorem way_wk {l : List (Int × Int)} {n : Nat} (hn : Inn n l) {a b : Nat} (h : Way l a b) : wk l n a b := by
  induction h with
  | one h => exact wk_mono (k := 0) h n (Nat.zero_le _)
  | more h _ ih =>
    have := hn _ h
    exact wk_trans n (by simp at this; omega) (wk_mono (k := 0) h n (Nat.zero_le _)) ih
/-- A table of ways, as far as it is sound. -/
def Snd (l : List (Int × Int)) (n : Nat) (M : Nat → Nat → Bool) : Prop := ∀ a b, a < n → b < n → M a b = true → Way l a b
def upd (M : Nat → Nat → Bool) (i j : Nat) (v : Bool) : Nat → Nat → Bool := fun a b => if a = i ∧ b = j then v else M a b
theorem upd_same (M : Nat → Nat → Bool) (i j : Nat) (v : Bool) : upd M i j v i j = v := by simp [upd]
theorem upd_true {M : Nat → Nat → Bool} {i j a b : Nat} (h : M a b = true) : upd M i j true a b = true := by
  unfold upd; split
  · rfl
  · exact h
/-- On the way through stage k, at row i, column j. -/
def Stg (l : List (Int × Int)) (n k i j : Nat) (M : Nat → Nat → Bool) : Prop :=
  Snd l n M ∧ (∀ a b, a < n → b < n → wk l k a b → M a b = true) ∧ ∀ a b, a < n → b < n → (a < i ∨ a = i ∧ b < j) → wk l (k + 1) a b → M a b = true
theorem Stg.step_yes {l : List (Int × Int)} {n k i j : Nat} {M : Nat → Nat → Bool} (h : Stg l n k i j M) (hk : k < n) (hi : i < n) (hj : j < n) (h1 : M i k = true) (h2 : M k j = true) : Stg l n k i (j + 1) (upd M i j true) := by
  refine ⟨fun a b ha hb hm => ?_, fun a b ha hb hw => upd_true (h.2.1 a b ha hb hw), fun a b ha hb hab hw => ?_⟩
  · unfold upd at hm
    split at hm
    · rename_i e
      obtain ⟨rfl, rfl⟩ := e
      exact (h.1 _ _ ha hk h1).trans (h.1 _ _ hk hb h2)
    · exact h.1 a b ha hb hm
  · by_cases e : a = i ∧ b = j
    · obtain ⟨rfl, rfl⟩ := e; exact upd_same ..
    · exact upd_true (h.2.2 a b ha hb (by omega) hw)
theorem Stg.step_no {l : List (Int × Int)} {n k i j : Nat} {M : Nat → Nat → Bool} (h : Stg l n k i j M) (hk : k < n) (hj : j < n) (h1 : ¬ (M i k = true ∧ M k j = true)) : Stg l n k i (j + 1) M := by
  refine ⟨h.1, h.2.1, fun a b ha hb hab hw => ?_⟩
  by_cases e : a = i ∧ b = j
  · obtain ⟨rfl, rfl⟩ := e
    rcases hw with hw | ⟨g1, g2⟩
    · exact h.2.1 _ _ ha hb hw
    · exact absurd ⟨h.2.1 _ _ ha hk g1, h.2.1 _ _ hk hb g2⟩ h1
  · exact h.2.2 a b ha hb (by omega) hw
theorem Stg.row {l : List (Int × Int)} {n k i : Nat} {M : Nat → Nat → Bool} (h : Stg l n k i n M) : Stg l n k (i + 1) 0 M :=
  ⟨h.1, h.2.1, fun a b ha hb hab hw => h.2.2 a b ha hb (by omega) hw⟩
theorem Stg.next {l : List (Int × Int)} {n k : Nat} {M : Nat → Nat → Bool} (h : Stg l n k n 0 M) : Stg l n (k + 1) 0 0 M :=
  ⟨h.1, fun a b ha hb hw => h.2.2 a b ha hb (by omega) hw, fun a b ha hb hab => by omega⟩
theorem Stg.start {l : List (Int × Int)} {n : Nat} {M : Nat → Nat → Bool} (h : ∀ a b, a < n → b < n → (M a b = true ↔ ((a : Int), (b : Int)) ∈ l)) : Stg l n 0 0 0 M :=
  ⟨fun a b ha hb hm => .one ((h a b ha hb).1 hm), fun a b ha hb hw => (h a b ha hb).2 hw, fun a b ha hb hab => by omega⟩
theorem Stg.done {l : List (Int × Int)} {n : Nat} {M : Nat → Nat → Bool} (h : Stg l n n 0 0 M) (hn : Inn n l) (a b : Nat) (ha : a < n) (hb : b < n) : M a b = true ↔ Way l a b :=
  ⟨h.1 a b ha hb, fun hw => h.2.1 a b ha hb (way_wk hn hw)⟩
theorem Stg.or_row {l : List (Int × Int)} {n k i : Nat} {M N : Nat → Nat → Bool} (h : Stg l n k i 0 M) (hk : k < n) (hi : i < n) (h1 : M i k = true) (hN : ∀ a b, a < n → b < n → N a b = if a = i then M i b || M k b else M a b) : Stg l n k (i + 1) 0 N := by
  have hup : ∀ a b, a < n → b < n → M a b = true → N a b = true := fun a b ha hb e => by
    rw [hN a b ha hb]
    split
    · rename_i e'; subst e'; rw [e]; rfl
    · exact e
  refine ⟨fun a b ha hb hm => ?_, fun a b ha hb hw => hup a b ha hb (h.2.1 a b ha hb hw), fun a b ha hb hab hw => ?_⟩
  · rw [hN a b ha hb] at hm
    split at hm
    · rename_i e'; subst e'
      rcases Bool.or_eq_true_iff.1 hm with e | e
      · exact h.1 _ _ ha hb e
      · exact (h.1 _ _ ha hk h1).trans (h.1 _ _ hk hb e)
    · exact h.1 _ _ ha hb hm
  · by_cases e : a = i
    · subst e
      rw [hN a b ha hb, if_pos rfl, Bool.or_eq_true_iff]
      rcases hw with hw | ⟨_, hw⟩
      · exact .inl (h.2.1 _ _ ha hb hw)
      · exact .inr (h.2.1 _ _ hk hb hw)
    · exact hup a b ha hb (h.2.2 a b ha hb (by omega) hw)
theorem Stg.skip_row {l : List (Int × Int)} {n k i : Nat} {M : Nat → Nat → Bool} (h : Stg l n k i 0 M) (hk : k < n) (h1 : ¬ M i k = true) : Stg l n k (i + 1) 0 M := by
  refine ⟨h.1, h.2.1, fun a b ha hb hab hw => ?_⟩
  by_cases e : a = i
  · subst e
    rcases hw with hw | ⟨hw, _⟩
    · exact h.2.1 _ _ ha hb hw
    · exact absurd (h.2.1 _ _ ha hk hw) h1
  · exact h.2.2 a b ha hb (by omega) hw
theorem Stg.congr {l : List (Int × Int)} {n k i j : Nat} {M N : Nat → Nat → Bool} (h : Stg l n k i j M) (hN : ∀ a b, a < n → b < n → N a b = M a b) : Stg l n k i j N :=
  ⟨fun a b ha hb hm => h.1 a b ha hb (by rw [← hN a b ha hb]; exact hm), fun a b ha hb hw => by rw [hN a b ha hb]; exact h.2.1 a b ha hb hw, fun a b ha hb hab hw => by rw [hN a b ha hb]; exact h.2.2 a b ha hb hab hw⟩
end Go.Proofs.YtgeldpkopolnfaaDoor
