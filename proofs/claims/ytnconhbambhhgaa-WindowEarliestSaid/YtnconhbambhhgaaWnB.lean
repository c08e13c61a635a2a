/- window: Contains of teams, find. -/
import Derived.Test.YtnconhbambhhgaaWnA
namespace Go.Proofs.Ytnconhbambhhgaa
open Go.RowKit
set_option linter.all false

/-- Where x is among the numbers of L. -/
def IndexP (x : Int) (L : List Int) (w : World) (e : Ending) (w' : World) : Prop := ∃ r : Int, e = .returned (.int .i64 r) ∧ w = w' ∧ ((r = -1 ∧ ∀ j, j < L.length → L.getD j 0 ≠ x) ∨ ∃ k : Nat, r = k ∧ k < L.length ∧ L.getD k 0 = x)

set_option maxRecDepth 100000 in
set_option maxHeartbeats 2000000 in
theorem index_any (a : Option Addr) (cc : Nat) (L : List Int) (x : Int) (w : World) (hl : L.length ≤ 1000) (hL : TeamsAt w a L) : Calls Try.prog 63 #[.slice a L.length cc, .int .i64 x] w (IndexP x L w) := by
  have HL := Lib.hid hL
  obtain ⟨N, hN⟩ : ∃ N, L.length = N := ⟨_, rfl⟩
  have HN := Lib.hid hN
  rw [hN] at hl ⊢
  clear hL hN
  go_enter Try.func63, Try.ntmps63
  go_wp2_with fail
  go_loopw [5, 8] (fun _ iv wr => ∃ k : Nat, iv = .int .i64 (k : Int) ∧ k ≤ N ∧ (∀ j, j < k → L.getD j 0 ≠ x) ∧ w = wr) (fun _ iv _ => N - (intOf iv).toNat)
  case atStart => exact ⟨0, rfl, Nat.zero_le _, fun j hj => absurd hj (by omega), rfl⟩
  case round =>
    obtain ⟨k, rfl, hk, hj, rfl⟩ := hrel
    by_cases hlt : k < N
    · obtain ⟨b, o, hp, hc⟩ := HL.out k (by rw [HN.out]; exact hlt)
      subst hp
      have hi0 : (0 : Int) ≤ (k : Int) := by omega
      have hi2 : (k : Int) < (N : Int) := by omega
      have hd : decide (k < N) = true := decide_eq_true hlt
      generalize hy : L.getD k 0 = y at *
      have HJ := Lib.hid hj; have HY := Lib.hid hy
      clear hj hy
      by_cases hx : x = y
      · subst hx
        go_wp2_with fail
        go_ret
        exact ⟨_, rfl, rfl, .inr ⟨k, rfl, by rw [HN.out]; exact hlt, HY.out⟩⟩
      · have hx2 : ¬ y = x := fun e => hx e.symm
        go_wp2_with fail
        go_roundw
        case rel => exact ⟨k + 1, by go_num, by omega, (fun j hj => by
          rcases Nat.lt_succ_iff_lt_or_eq.1 hj with h | h
          · exact HJ.out j h
          · rw [h, HY.out]; exact hx2), by first | trivial | rfl⟩
        case measure => simp [intOf]; omega
    · have hk2 : k = N := by omega
      subst hk2
      have HJ := Lib.hid hj
      clear hj
      go_wp2_with fail
      go_ret
      exact ⟨_, rfl, rfl, .inl ⟨rfl, fun j hj => HJ.out j (by rw [← HN.out]; exact hj)⟩⟩

def hasB (x : Int) (L : List Int) : Bool := L.any fun y => decide (y = x)
theorem contains_any (a : Option Addr) (cc : Nat) (L : List Int) (x : Int) (w : World) (hl : L.length ≤ 1000) (hL : TeamsAt w a L) : Calls Try.prog 46 #[.slice a L.length cc, .int .i64 x] w fun e w' => e = .returned (.bool (hasB x L)) ∧ w = w' := by
  have CI := Lib.hid (index_any a cc L x w hl hL)
  clear hL hl
  go_enter Try.func46, Try.ntmps46
  go_wp2_with fail
  refine (CI.out).mono ?_
  rintro e w1 ⟨r, rfl, rfl, hr⟩
  rcases hr with ⟨rfl, hr⟩ | ⟨k, rfl, hk, hr⟩
  · have hb : hasB x L = false := by
      unfold hasB
      rw [List.any_eq_false]
      intro y hy
      obtain ⟨j, hj, rfl⟩ := List.getElem_of_mem hy
      have := hr j hj
      rw [List.getD, List.getElem?_eq_getElem hj] at this
      simpa using this
    have HB := Lib.hid hb
    clear hr hb
    go_wp2_with fail
    go_ret
    exact ⟨by rw [HB.out]; rfl, rfl⟩
  · have hb : hasB x L = true := by
      unfold hasB
      rw [List.any_eq_true]
      refine ⟨_, List.getElem_mem hk, ?_⟩
      rw [List.getD, List.getElem?_eq_getElem hk] at hr
      simpa using hr
    have HB := Lib.hid hb
    clear hr hb
    go_wp2_with fail
    go_ret
    exact ⟨by rw [HB.out]; rfl, rfl⟩

/-- A window: from, to, its teams' slice. -/
structure Win where
  from_ : Int
  to_ : Int
  a : Option Addr
  n : Nat
  c : Nat
def win0 : Win := ⟨0, 0, none, 0, 0⟩
def WinsAt (W : World) (p : Option Addr) (L : List Win) : Prop := ∀ j, j < L.length → ∃ b o, p = some ⟨b, o, none⟩ ∧ W.cell? ⟨b, o + j * 3, none⟩ = some (.int .i64 (L.getD j win0).from_) ∧ W.cell? ⟨b, o + j * 3 + 1, none⟩ = some (.int .i64 (L.getD j win0).to_) ∧ W.cell? ⟨b, o + j * 3 + 2, none⟩ = some (.slice (L.getD j win0).a (L.getD j win0).n (L.getD j win0).c)
theorem WinsAt.step {W W' : World} {p : Option Addr} {L : List Win} (h : WinsAt W p L) (hb : Below W.heap.size W W') : WinsAt W' p L := fun j hj => by
  obtain ⟨b, o, hp, h1, h2, h3⟩ := h j hj
  exact ⟨b, o, hp, cell_later' hb h1, cell_later' hb h2, cell_later' hb h3⟩
def inD (d : Int) (x : Win) : Bool := decide (x.from_ ≤ d) && decide (d < x.to_)

set_option maxHeartbeats 1000000 in
theorem inD_any (g : Nat) (d : Int) (x : Win) (w : World) (h : w.cell? ⟨g, 0, none⟩ = some (.int .i64 d)) : Calls Try.prog 56 #[.agg #[.int .i64 x.from_, .int .i64 x.to_, .slice x.a x.n x.c], .pointer (some ⟨g, 0, none⟩)] w (BoolP (inD d x) w) := by
  obtain ⟨f, t, p, n, c⟩ := x
  show Calls Try.prog 56 #[.agg #[.int .i64 f, .int .i64 t, .slice p n c], .pointer (some ⟨g, 0, none⟩)] w (BoolP (decide (f ≤ d) && decide (d < t)) w)
  have hb := (Below.refl w.heap.size w).alloc (Nat.le_refl _) (.cells #[.int .i64 f, .int .i64 t, .slice p n c] 77)
  have h' := cell_later' hb h
  have HB := Lib.hid hb; clear hb
  by_cases h0 : f ≤ d
  · by_cases h1 : d < t
    · rw [show (decide (f ≤ d) && decide (d < t)) = true from by rw [decide_eq_true h0, decide_eq_true h1]; rfl]
      go_enter Try.func56, Try.ntmps56
      go_wp2_with fail
      go_ret
      exact ⟨rfl, HB.out⟩
    · rw [show (decide (f ≤ d) && decide (d < t)) = false from by rw [decide_eq_true h0, decide_eq_false h1]; rfl]
      go_enter Try.func56, Try.ntmps56
      go_wp2_with fail
      go_ret
      exact ⟨rfl, HB.out⟩
  · rw [show (decide (f ≤ d) && decide (d < t)) = false from by rw [decide_eq_false h0]; rfl]
    go_enter Try.func56, Try.ntmps56
    go_wp2_with fail
    go_ret
    exact ⟨rfl, HB.out⟩
end Go.Proofs.Ytnconhbambhhgaa
