/- What is left of requirements when those that follow from others are left out (plain mathematics). -/
import Derived.Test.YtgeldpkopolnfaaDoorNdW
namespace Go.Proofs.YtgeldpkopolnfaaDoor
set_option linter.all false

/-- Requirements that lead upwards. -/
def Up (l : List (Int × Int)) : Prop := ∀ x ∈ l, 0 ≤ x.1 ∧ x.1 < x.2
theorem Way.lt {l : List (Int × Int)} (h : Up l) {a b : Nat} (hw : Way l a b) : a < b := by
  induction hw with
  | one hm => have := h _ hm; simp at this; omega
  | more hm _ ih => have := h _ hm; simp at this; omega
/-- What follows from others. -/
def Byd (l : List (Int × Int)) (x : Int × Int) : Prop := ∃ s ∈ l, s.1 = x.1 ∧ Way l s.2.toNat x.2.toNat
theorem red_way {l r : List (Int × Int)} (hu : Up l) (hr : ∀ x, x ∈ r ↔ x ∈ l ∧ ¬ Byd l x) {a b : Nat} : Way r a b ↔ Way l a b := by
  constructor
  · exact Way.mono fun x hx => ((hr x).1 hx).1
  · suffices h : ∀ d a b, b - a ≤ d → Way l a b → Way r a b from h _ a b (Nat.le_refl _)
    intro d
    induction d with
    | zero => intro a b hd hw; have := hw.lt hu; omega
    | succ d ih =>
      intro a b hd hw
      cases hw with
      | one hm =>
        by_cases hB : Byd l ((a : Int), (b : Int))
        · obtain ⟨s, hs, e, hw⟩ := hB
          obtain ⟨s1, s2⟩ := s
          simp only at e
          subst e
          have h1 := hu _ hs
          simp only at h1
          have h2 := hw.lt hu
          simp only [Int.toNat_natCast] at hw h2
          have hs' : (((a : Nat) : Int), ((s2.toNat : Nat) : Int)) ∈ l := by rw [Int.toNat_of_nonneg (by omega)]; exact hs
          exact (ih a s2.toNat (by omega) (.one hs')).trans (ih _ b (by omega) hw)
        · exact .one ((hr _).2 ⟨hm, hB⟩)
      | more hm hw =>
        have h1 := hu _ hm
        simp only at h1
        have h2 := hw.lt hu
        exact (ih _ _ (by omega) (.one hm)).trans (ih _ _ (by omega) hw)
theorem red_red {l r : List (Int × Int)} (hu : Up l) (hr : ∀ x, x ∈ r ↔ x ∈ l ∧ ¬ Byd l x) {x : Int × Int} (hx : x ∈ r) : ¬ Byd r x := fun ⟨s, hs, e, hw⟩ =>
  ((hr x).1 hx).2 ⟨s, ((hr s).1 hs).1, e, (red_way hu hr).1 hw⟩
/-- Without one of them it does not follow. -/
theorem red_less {l r m : List (Int × Int)} (hu : Up l) (hr : ∀ x, x ∈ r ↔ x ∈ l ∧ ¬ Byd l x) {x : Int × Int} (hx : x ∈ r) (hm : ∀ y ∈ m, y ∈ r ∧ y ≠ x) : ¬ Way m x.1.toNat x.2.toNat := by
  have h0 := hu _ ((hr x).1 hx).1
  have key : ∀ a b, Way m a b → a = x.1.toNat → b = x.2.toNat → False := by
    intro a b hw ea eb
    cases hw with
    | one h =>
      refine (hm _ h).2 ?_
      obtain ⟨x1, x2⟩ := x
      simp only at ea eb h0
      subst ea; subst eb
      rw [Int.toNat_of_nonneg h0.1, Int.toNat_of_nonneg (by omega)]
    | @more _ c _ h hw =>
      refine ((hr x).1 hx).2 ⟨_, ((hr _).1 (hm _ h).1).1, ?_, ?_⟩
      · simp only; omega
      · simp only [Int.toNat_natCast]
        rw [← eb]
        exact (red_way hu hr).1 (hw.mono fun y hy => (hm y hy).1)
  exact fun hw => key _ _ hw rfl rfl
end Go.Proofs.YtgeldpkopolnfaaDoor
