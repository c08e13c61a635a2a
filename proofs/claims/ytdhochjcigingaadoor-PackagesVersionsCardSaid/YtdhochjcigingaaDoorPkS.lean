/- Pieces between dots. -/
import Derived.Test.YtdhochjcigingaaDoorPkC
import Derived.Lib.Split
import Derived.Lib.SplitLaws
import Derived.Lib.CountLaws
namespace Go.Proofs.YtdhochjcigingaaDoor
open Go.RowKit
set_option linter.all false

def pieces : List UInt8 → List (List UInt8)
  | [] => [[]]
  | c :: r => if c.toNat = 46 then [] :: pieces r else match pieces r with
    | [] => [[c]]
    | p :: ps => (c :: p) :: ps
theorem pieces_ne : ∀ l, pieces l ≠ []
  | [] => by simp [pieces]
  | c :: r => by
    unfold pieces
    split
    · simp
    · split <;> simp
theorem pieces_dot : ∀ (A B : List UInt8), (∀ c ∈ A, c.toNat ≠ 46) → pieces (A ++ 46 :: B) = A :: pieces B
  | [], B, _ => by
    rw [List.nil_append, pieces, if_pos (show UInt8.toNat 46 = 46 from rfl)]
  | c :: A, B, h => by
    have hc : c.toNat ≠ 46 := h c List.mem_cons_self
    rw [List.cons_append, pieces, if_neg hc, pieces_dot A B (fun d hd => h d (List.mem_cons_of_mem _ hd))]
theorem pieces_none : ∀ (A : List UInt8), (∀ c ∈ A, c.toNat ≠ 46) → pieces A = [A]
  | [], _ => rfl
  | c :: A, h => by
    have hc : c.toNat ≠ 46 := h c List.mem_cons_self
    rw [pieces, if_neg hc, pieces_none A (fun d hd => h d (List.mem_cons_of_mem _ hd))]
theorem index_dot : ∀ (A B : List UInt8), (∀ c ∈ A, c.toNat ≠ 46) → Lib.index (A ++ 46 :: B) [46] = (A.length : Int)
  | [], B, _ => by simp [Lib.index]
  | c :: A, B, h => by
    have hc : c.toNat ≠ 46 := h c List.mem_cons_self
    have hne : ((46 : UInt8) == c) = false := beq_eq_false_iff_ne.2 (fun e => hc (by rw [← e]; rfl))
    have ih := index_dot A B (fun d hd => h d (List.mem_cons_of_mem _ hd))
    have h1 : ((A.length : Int) == -1) = false := beq_eq_false_iff_ne.2 (by omega)
    rw [List.cons_append]
    unfold Lib.index
    rw [ih]
    simp [List.isPrefixOf, hne, h1]
theorem index_nodot : ∀ (A : List UInt8), (∀ c ∈ A, c.toNat ≠ 46) → Lib.index A [46] = -1
  | [], _ => by simp [Lib.index]
  | c :: A, h => by
    have hc : c.toNat ≠ 46 := h c List.mem_cons_self
    have hne : ((46 : UInt8) == c) = false := beq_eq_false_iff_ne.2 (fun e => hc (by rw [← e]; rfl))
    have ih := index_nodot A (fun d hd => h d (List.mem_cons_of_mem _ hd))
    unfold Lib.index
    rw [ih]
    simp [List.isPrefixOf, hne]
theorem dot_cases : ∀ s : List UInt8, (∃ A B, s = A ++ 46 :: B ∧ ∀ c ∈ A, c.toNat ≠ 46) ∨ ∀ c ∈ s, c.toNat ≠ 46
  | [] => .inr fun c hc => by cases hc
  | c :: s => by
    by_cases h : c.toNat = 46
    · have : c = 46 := UInt8.toNat_inj.1 h
      subst this
      exact .inl ⟨[], s, rfl, fun c hc => by cases hc⟩
    · rcases dot_cases s with ⟨A, B, he, hA⟩ | hn
      · exact .inl ⟨c :: A, B, by rw [he]; rfl, fun d hd => by
          rcases List.mem_cons.1 hd with rfl | hd
          · exact h
          · exact hA d hd⟩
      · exact .inr fun d hd => by
          rcases List.mem_cons.1 hd with rfl | hd
          · exact h
          · exact hn d hd
theorem count_none (A : List UInt8) (h : ∀ c ∈ A, c.toNat ≠ 46) : A.count 46 = 0 := by
  rw [List.count_eq_zero]
  intro hm
  exact h 46 hm rfl
theorem count_dot (A B : List UInt8) (h : ∀ c ∈ A, c.toNat ≠ 46) : (A ++ 46 :: B).count 46 = B.count 46 + 1 := by
  rw [List.count_append, count_none A h, List.count_cons_self]; omega

/-- The library's count and split at a dot. -/
theorem count_eq : ∀ (n : Nat) (l : List UInt8), l.length ≤ n → Lib.count l [46] = l.count 46 := by
  intro n
  induction n with
  | zero =>
    intro l hl
    have : l = [] := List.length_eq_zero_iff.1 (by omega)
    subst this; rfl
  | succ n ih =>
    intro l hl
    rcases dot_cases l with ⟨A, B, rfl, hA⟩ | h
    · rw [Lib.count_hit (by simp) (index_dot A B hA), count_dot A B hA]
      have : (A ++ 46 :: B).drop (A.length + [(46 : UInt8)].length) = B := by simp
      rw [this, ih B (by simp at hl; omega)]; omega
    · rw [Lib.count_miss (index_nodot l h), count_none l h]
theorem split_eq : ∀ (n : Nat) (l : List UInt8), l.length ≤ n → Lib.splitK [46] 0 (l.count 46) l = pieces l := by
  intro n
  induction n with
  | zero =>
    intro l hl
    have : l = [] := List.length_eq_zero_iff.1 (by omega)
    subst this; rfl
  | succ n ih =>
    intro l hl
    rcases dot_cases l with ⟨A, B, rfl, hA⟩ | h
    · rw [count_dot A B hA, Lib.splitK, index_dot A B hA, pieces_dot A B hA]
      have h1 : ((A.length : Int) == -1) = false := beq_eq_false_iff_ne.2 (by omega)
      rw [h1]
      have e1 : (A ++ 46 :: B).take ((A.length : Int).toNat + 0) = A := by simp
      have e2 : (A ++ 46 :: B).drop ((A.length : Int).toNat + [(46 : UInt8)].length) = B := by simp
      rw [e1, e2, ih B (by simp at hl; omega)]
      rfl
    · rw [count_none l h, pieces_none l h]; rfl
theorem pieces_len : ∀ (n : Nat) (l : List UInt8), l.length ≤ n → (pieces l).length = l.count 46 + 1 := by
  intro n
  induction n with
  | zero =>
    intro l hl
    have : l = [] := List.length_eq_zero_iff.1 (by omega)
    subst this; rfl
  | succ n ih =>
    intro l hl
    rcases dot_cases l with ⟨A, B, rfl, hA⟩ | h
    · rw [count_dot A B hA, pieces_dot A B hA, List.length_cons, ih B (by simp at hl; omega)]
    · rw [count_none l h, pieces_none l h]; rfl
theorem pieces_short : ∀ (l p : List UInt8), p ∈ pieces l → p.length ≤ l.length
  | [], p, h => by simp [pieces] at h; subst h; simp
  | c :: r, p, h => by
    unfold pieces at h
    split at h
    · rcases List.mem_cons.1 h with rfl | h
      · simp
      · have := pieces_short r p h; simp; omega
    · split at h
      · simp at h; subst h; simp
      · rename_i q qs hq
        rcases List.mem_cons.1 h with rfl | h
        · have := pieces_short r q (by rw [hq]; exact List.mem_cons_self); simp; omega
        · have := pieces_short r p (by rw [hq]; exact List.mem_cons_of_mem _ h); simp; omega

/-- strings.Split at a dot. -/
def SplP (l : List UInt8) (w : World) (e : Ending) (w' : World) : Prop := e = .returned (.slice (some ⟨w.heap.size, 0, none⟩) (pieces l).length (pieces l).length) ∧ w' = w.alloc (.cells ((pieces l).map fun p => Value.string ⟨p.toArray⟩).toArray 9)
theorem split_any {m : Int} (l : List UInt8) (hl : l.length ≤ 1000) (w : World) (h : TabP m w) : Calls Tryd.prog 77 #[.string ⟨l.toArray⟩, .string ⟨#[46]⟩] w (SplP l w) := by
  have hz : (⟨l.toArray⟩ : ByteArray).size = l.length := by simp [ByteArray.size]
  refine (Tryd.strings_Split ⟨l.toArray⟩ ⟨#[46]⟩ m w (by omega) h.max (by decide)).mono ?_
  rintro e w' ⟨he, hw⟩
  have hc : Lib.countB ⟨l.toArray⟩ ⟨#[46]⟩ = l.count 46 := count_eq _ l (Nat.le_refl _)
  have hp : ((Lib.splitB ⟨#[46]⟩ 0 (l.count 46) ⟨l.toArray⟩).map Value.string) = (pieces l).map fun p => Value.string ⟨p.toArray⟩ := by
    rw [← split_eq _ l (Nat.le_refl _)]
    have := Lib.splitB_data ⟨#[46]⟩ 0 (l.count 46) ⟨l.toArray⟩
    change _ = Lib.splitK [46] 0 (l.count 46) l at this
    rw [← this, List.map_map]
    rfl
  rw [hc] at he hw
  rw [hp] at hw
  exact ⟨by rw [he, pieces_len _ l (Nat.le_refl _)], hw⟩
theorem count_any (l : List UInt8) (w : World) : Calls Tryd.prog 76 #[.string ⟨l.toArray⟩, .string ⟨#[46]⟩] w fun e w' => e = .returned (.int .i64 (l.count 46 : Nat)) ∧ w = w' :=
  (Tryd.strings_Count_one ⟨l.toArray⟩ 46 w).mono fun _ _ ⟨he, hw⟩ => ⟨he, hw.symm⟩
end Go.Proofs.YtdhochjcigingaaDoor
