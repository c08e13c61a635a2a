/- window.find. -/
import Derived.Test.YtnconhbambhhgaaWnB
namespace Go.Proofs.Ytnconhbambhhgaa
open Go.RowKit
set_option linter.all false

/-- The first window that has the day. -/
def FindR (d : Int) (L : List Win) (r : Int) : Prop := (r = -1 ∧ ∀ j, j < L.length → inD d (L.getD j win0) = false) ∨ ∃ k : Nat, r = k ∧ k < L.length ∧ inD d (L.getD k win0) = true ∧ ∀ j, j < k → inD d (L.getD j win0) = false
def FindP (d : Int) (L : List Win) (w : World) (e : Ending) (w' : World) : Prop := ∃ r : Int, e = .returned (.int .i64 r) ∧ FindR d L r ∧ Below w.heap.size w w'
def FRel (w : World) (d : Int) (L : List Win) (iv : Value) (wr : World) : Prop := ∃ k : Nat, iv = .int .i64 (k : Int) ∧ k ≤ L.length ∧ (∀ j, j < k → inD d (L.getD j win0) = false) ∧ Below w.heap.size w wr

set_option maxRecDepth 100000 in
set_option maxHeartbeats 2000000 in
theorem findIx_any (g : Nat) (a : Option Addr) (cc : Nat) (L : List Win) (d : Int) (w : World) (hl : L.length ≤ 1000) (hL : WinsAt w a L) (hd : w.cell? ⟨g, 0, none⟩ = some (.int .i64 d)) :
    Calls Try.prog 55 #[.slice a L.length cc, .func (.func 56) #[] #[.pointer (some ⟨g, 0, none⟩)]] w (FindP d L w) := by
  have CN := Lib.hid (fun x W (h : W.cell? ⟨g, 0, none⟩ = some (.int .i64 d)) => inD_any g d x W h)
  have HL := Lib.hid hL; have HD := Lib.hid hd
  obtain ⟨N, hN⟩ : ∃ N, L.length = N := ⟨_, rfl⟩
  have HN := Lib.hid hN
  rw [hN] at hl ⊢
  clear hL hN hd
  go_enter Try.func55, Try.ntmps55
  go_wp2_with fail
  go_loopw [5, 8] (fun _ iv wr => FRel w d L iv wr) (fun _ iv _ => N - (intOf iv).toNat)
  case atStart => exact ⟨0, rfl, Nat.zero_le _, fun j hj => absurd hj (by omega), Below.refl _ _⟩
  case round =>
    obtain ⟨k, rfl, hk, hj, hb⟩ := hrel
    rw [HN.out] at hk
    by_cases hlt : k < N
    · obtain ⟨b, o, hp, c0, c1, c2⟩ := HL.out k (by rw [HN.out]; exact hlt)
      subst hp
      have c0 := cell_later' hb c0
      have c1 := cell_later' hb c1
      have c2 := cell_later' hb c2
      have hi0 : (0 : Int) ≤ (k : Int) := by omega
      have hi2 : (k : Int) < (N : Int) := by omega
      have hdd : decide (k < N) = true := decide_eq_true hlt
      have cN := CN.out (L.getD k win0) wr (cell_later' hb HD.out)
      generalize hx : inD d (L.getD k win0) = x at *
      generalize (L.getD k win0).from_ = f at *
      generalize (L.getD k win0).to_ = t at *
      generalize (L.getD k win0).a = a' at *
      generalize (L.getD k win0).n = n' at *
      generalize (L.getD k win0).c = c' at *
      have CX := Lib.hid cN; have HBE := Lib.hid hb; have HJ := Lib.hid hj; have HX := Lib.hid hx
      clear cN hb hj hx
      cases x with
      | true =>
        go_wp2_with fail
        refine (CX.out).mono ?_
        rintro e w1 ⟨rfl, hb1⟩
        have HB1 := Lib.hid (HBE.out.trans (hb1.mono HBE.out.size))
        clear hb1
        go_wp2_with fail
        go_ret
        exact ⟨_, rfl, .inr ⟨k, rfl, by rw [HN.out]; exact hlt, HX.out, HJ.out⟩, HB1.out⟩
      | false =>
        go_wp2_with fail
        refine (CX.out).mono ?_
        rintro e w1 ⟨rfl, hb1⟩
        have HB1 := Lib.hid (HBE.out.trans (hb1.mono HBE.out.size))
        clear hb1
        go_wp2_with fail
        go_roundw
        case rel => exact ⟨k + 1, by go_num, by rw [HN.out]; omega, (fun j hj => by
          rcases Nat.lt_succ_iff_lt_or_eq.1 hj with h | h
          · exact HJ.out j h
          · rw [h]; exact HX.out), HB1.out⟩
        case measure => simp [intOf]; omega
    · have hk2 : k = N := by omega
      subst hk2
      have HJ := Lib.hid hj; have HBE := Lib.hid hb
      clear hj hb
      go_wp2_with fail
      go_ret
      exact ⟨_, rfl, .inl ⟨rfl, fun j hj => HJ.out j (by rw [← HN.out]; exact hj)⟩, HBE.out⟩

set_option maxHeartbeats 1000000 in
theorem find_any (p q r : Option Addr) (c1 n2 c2 n c : Nat) (L : List Win) (d : Int) (w : World) (hl : L.length ≤ 1000) (hL : WinsAt w p L) :
    Calls Try.prog 37 #[.agg #[.slice p L.length c1, .slice q n2 c2, .slice r n c], .int .i64 d] w (FindP d L w) := by
  have hb0 := ((Below.refl w.heap.size w).alloc (Nat.le_refl _) (.cells #[.slice p L.length c1, .slice q n2 c2, .slice r n c] 38)).alloc (by simp) (.cells #[.int .i64 d] 3)
  have hd : ((w.alloc (.cells #[.slice p L.length c1, .slice q n2 c2, .slice r n c] 38)).alloc (.cells #[.int .i64 d] 3)).cell? ⟨w.heap.size + 1, 0, none⟩ = some (.int .i64 d) := by simp
  have CH := Lib.hid (findIx_any (w.heap.size + 1) p c1 L d _ hl (hL.step hb0) hd)
  have HB0 := Lib.hid hb0
  clear hb0 hd hL hl
  go_enter Try.func37, Try.ntmps37
  go_wp2_with fail
  refine (CH.out).mono ?_
  rintro e w1 ⟨x, rfl, hx, hb1⟩
  have HX := Lib.hid hx
  have HB1 := Lib.hid (HB0.out.trans (hb1.mono HB0.out.size))
  clear hx hb1
  go_wp2_with fail
  go_ret
  exact ⟨x, rfl, HX.out, HB1.out⟩
end Go.Proofs.Ytnconhbambhhgaa
