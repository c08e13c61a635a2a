/- found; what one more requirement does. -/
import Derived.Test.YtgeldpkopolnfaaDoorOmW
namespace Go.Proofs.YtgeldpkopolnfaaDoor
open Go.RowKit
set_option linter.all false

set_option maxRecDepth 100000 in
set_option maxHeartbeats 2000000 in
theorem found_any (a : Option Addr) (c : Nat) (C : List Rq) (r : Rq) (w : World) (hl : C.length ≤ 100000) (hC : ReqsAt w a C) :
    Calls Tryd.prog 24 #[.slice a C.length c, .agg #[.int .i64 r.1, .int .i64 r.2]] w (BoolP (decide (r ∈ C)) w) := by
  obtain ⟨r1, r2⟩ := r
  have HC := Lib.hid hC
  obtain ⟨N, hN⟩ : ∃ N, C.length = N := ⟨_, rfl⟩
  have HN := Lib.hid hN
  rw [hN] at hl ⊢
  clear hC hN
  obtain ⟨bx, hbx⟩ : ∃ bx, decide ((r1, r2) ∈ C) = bx := ⟨_, rfl⟩
  have HBX := Lib.hid hbx
  rw [hbx]
  clear hbx
  have hb0 := (Below.refl w.heap.size w).alloc (Nat.le_refl _) (.cells #[.int .i64 r1, .int .i64 r2] 47)
  have hx0 : (w.alloc (.cells #[.int .i64 r1, .int .i64 r2] 47)).cell? ⟨w.heap.size, 0, none⟩ = some (.int .i64 r1) := by
    rw [cell_of_row _ _ _ _ _ _ (heap_alloc_new w _)]; rfl
  have hx1 : (w.alloc (.cells #[.int .i64 r1, .int .i64 r2] 47)).cell? ⟨w.heap.size, 1, none⟩ = some (.int .i64 r2) := by
    rw [cell_of_row _ _ _ _ _ _ (heap_alloc_new w _)]; rfl
  have HB0 := Lib.hid hb0; have HX0 := Lib.hid hx0; have HX1 := Lib.hid hx1
  clear hb0 hx0 hx1
  go_enter Tryd.func24, Tryd.ntmps24
  go_wp2_with fail
  obtain ⟨W0, hW0⟩ : ∃ W0, w.alloc (.cells #[.int .i64 r1, .int .i64 r2] 47) = W0 := ⟨_, rfl⟩
  obtain ⟨B, hB⟩ : ∃ B, w.heap.size = B := ⟨_, rfl⟩
  have HBE := Lib.hid hB
  rw [hW0] at HB0 HX0 HX1 ⊢
  rw [hB] at HX0 HX1 ⊢
  clear hW0 hB
  go_loopw [9] (fun kv wr => ∃ m : Nat, kv = .int .i64 (m : Int) ∧ m ≤ N ∧ (∀ j, j < m → C.getD j rq0 ≠ (r1, r2)) ∧ Below W0.heap.size W0 wr) (fun kv _ => N - (intOf kv).toNat)
  case atStart => exact ⟨0, rfl, Nat.zero_le _, fun j hj => by omega, Below.refl _ _⟩
  case round =>
    obtain ⟨m, rfl, hm, hno, hb⟩ := hrel
    by_cases hlt : m < N
    · have hml : m < C.length := by rw [HN.out]; exact hlt
      obtain ⟨b1, o1, hp1, c0, c1⟩ := HC.out m hml
      subst hp1
      have hbw : Below w.heap.size w wr := HB0.out.trans (hb.mono HB0.out.size)
      have c0 := cell_later' hbw c0
      have c1 := cell_later' hbw c1
      have hm0 : (0 : Int) ≤ (m : Int) := by omega
      have hm1 : (m : Int) < (N : Int) := by omega
      have hdm : decide (m < N) = true := decide_eq_true hlt
      obtain ⟨x, hx⟩ : ∃ x, C.getD m rq0 = x := ⟨_, rfl⟩
      have HX := Lib.hid hx
      rw [hx] at c0 c1
      obtain ⟨x1, x2⟩ := x
      dsimp only at c0 c1
      have hx0 : (wr.alloc (.cells #[.int .i64 x1, .int .i64 x2] 47)).cell? ⟨B, 0, none⟩ = some (.int .i64 r1) := cell_later' (hb.alloc hb.size _) HX0.out
      have hx1 : (wr.alloc (.cells #[.int .i64 x1, .int .i64 x2] 47)).cell? ⟨B, 1, none⟩ = some (.int .i64 r2) := cell_later' (hb.alloc hb.size _) HX1.out
      have HB := Lib.hid hb; have HNO := Lib.hid hno
      clear hb hbw hx hno
      by_cases he : x1 = r1 ∧ x2 = r2
      · obtain ⟨rfl, rfl⟩ := he
        have hbt : bx = true := by
          rw [← HBX.out]
          exact decide_eq_true (by rw [← HX.out]; exact getD_mem' hml)
        subst hbt
        go_wp2_with fail
        go_ret
        exact ⟨rfl, (HB0.out.trans (HB.out.mono HB0.out.size)).alloc (by have := HB0.out.size; have := HB.out.size; omega) _⟩
      · have HE := Lib.hid he
        have fin : ∀ j, j < m + 1 → C.getD j rq0 ≠ (r1, r2) := fun j hj => by
          rcases Nat.lt_succ_iff_lt_or_eq.1 hj with h | rfl
          · exact HNO.out j h
          · rw [HX.out]; intro e; injection e with e1 e2; exact HE.out ⟨e1, e2⟩
        have HF := Lib.hid fin
        clear fin
        by_cases h1 : x1 = r1
        · subst h1
          have h2 : ¬ x2 = r2 := fun e => he ⟨rfl, e⟩
          have h3 : (x2 == r2) = false := by simpa using h2
          clear he
          go_wp2_with fail
          go_roundw
          case rel => exact ⟨m + 1, by go_num, by omega, HF.out, HB.out.alloc HB.out.size _⟩
          case measure => simp [intOf]; omega
        · have h3 : (x1 == r1) = false := by simpa using h1
          clear he
          go_wp2_with fail
          go_roundw
          case rel => exact ⟨m + 1, by go_num, by omega, HF.out, HB.out.alloc HB.out.size _⟩
          case measure => simp [intOf]; omega
    · have hmN : m = N := by omega
      subst hmN
      have hdm : decide (m < m) = false := by simp
      have hnm : ¬ (m : Int) < (m : Int) := by omega
      have hbt : bx = false := by
        rw [← HBX.out]
        refine decide_eq_false fun hmem => ?_
        obtain ⟨j, hj, e⟩ := List.getElem_of_mem hmem
        refine hno j (by rw [← HN.out]; exact hj) ?_
        rw [List.getD, List.getElem?_eq_getElem hj]; exact e
      subst hbt
      go_wp2_with fail
      go_ret
      exact ⟨rfl, HB0.out.trans (hb.mono HB0.out.size)⟩
/-- One more requirement. -/
theorem way_more {L U : List Rq} {p q : Nat} (hU : ∀ x, x ∈ U ↔ x ∈ L ∨ x = ((p : Int), (q : Int))) {a b : Nat} (h : Way U a b) : Way L a b ∨ ((a = p ∨ Way L a p) ∧ (b = q ∨ Way L q b)) := by
  induction h with
  | one h =>
    rcases (hU _).1 h with h | h
    · exact .inl (.one h)
    · injection h with h1 h2
      exact .inr ⟨.inl (by omega), .inl (by omega)⟩
  | more h _ ih =>
    rename_i a c b _
    rcases (hU _).1 h with h | h
    · rcases ih with ih | ⟨ih1, ih2⟩
      · exact .inl (.more h ih)
      · refine .inr ⟨.inr ?_, ih2⟩
        rcases ih1 with rfl | ih1
        · exact .one h
        · exact .more h ih1
    · injection h with h1 h2
      obtain rfl : a = p := by omega
      obtain rfl : c = q := by omega
      refine .inr ⟨.inl rfl, ?_⟩
      rcases ih with ih | ⟨_, ih2⟩
      · exact .inr ih
      · exact ih2
theorem inn_more {n : Nat} {L U : List Rq} {p q : Nat} (hU : ∀ x, x ∈ U ↔ x ∈ L ∨ x = ((p : Int), (q : Int))) (hL : Inn n L) (hp : p < n) (hq : q < n) : Inn n U := fun x hx => by
  rcases (hU x).1 hx with h | rfl
  · exact hL x h
  · simp only; omega
/-- What Check says of one more requirement. -/
theorem more_chk {n : Nat} {L U : List Rq} {p q : Nat} {r : Int} (hU : ∀ x, x ∈ U ↔ x ∈ L ∨ x = ((p : Int), (q : Int))) (hok : Ok n L) (hq : q < n) (h : ChkR n U r) :
    (p = q → r = 44) ∧ (p ≠ q → Way L q p → r = 45) ∧ (p ≠ q → ¬ Way L q p → r = 0) := by
  have hself : ((p : Int), (q : Int)) ∈ U := (hU _).2 (.inr rfl)
  have hne : p ≠ q → ∀ x ∈ U, x.1 ≠ x.2 := fun hpq x hx => by
    rcases (hU x).1 hx with h | rfl
    · exact hok.ne h
    · simp only; omega
  refine ⟨fun e => ?_, fun hpq hw => ?_, fun hpq hw => ?_⟩
  · rcases h with ⟨_, rfl⟩ | ⟨h, _⟩ | ⟨h, _⟩
    · rfl
    · exact absurd (by simp [e]) (h _ hself)
    · exact absurd (by simp [e]) (h _ hself)
  · rcases h with ⟨⟨x, hx, e⟩, _⟩ | ⟨_, _, rfl⟩ | ⟨_, h, _⟩
    · exact absurd e (hne hpq x hx)
    · rfl
    · have hw2 : Way U q p := hw.mono fun x hx => (hU x).2 (.inl hx)
      exact absurd (hw2.trans (.one hself)) (h q hq)
  · rcases h with ⟨⟨x, hx, e⟩, _⟩ | ⟨_, ⟨i, hi, hwi⟩, _⟩ | ⟨_, _, rfl⟩
    · exact absurd e (hne hpq x hx)
    · exfalso
      rcases way_more hU hwi with h | ⟨h1, h2⟩
      · exact hok.acy i hi h
      · rcases h1 with rfl | h1
        · rcases h2 with rfl | h2
          · exact hpq rfl
          · exact hw h2
        · rcases h2 with rfl | h2
          · exact hw h1
          · exact hw (h2.trans h1)
    · rfl
end Go.Proofs.YtgeldpkopolnfaaDoor
