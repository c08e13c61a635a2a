/- Requirements: less, Same. -/
import Derived.Test.YtcppmkimfoajaaaCalC
namespace Go.Proofs.Ytcppmkimfoajaaa
open Go.RowKit
set_option linter.all false

/-- A requirement: first, then. -/
abbrev Rq := Int × Int
def rq0 : Rq := (0, 0)
/-- A row of requirements that is read. -/
def ReqsAt (W : World) (p : Option Addr) (L : List Rq) : Prop := ∀ j, j < L.length → ∃ b o, p = some ⟨b, o, none⟩ ∧ W.cell? ⟨b, o + j * 2, none⟩ = some (.int .i64 (L.getD j rq0).1) ∧ W.cell? ⟨b, o + j * 2 + 1, none⟩ = some (.int .i64 (L.getD j rq0).2)
theorem ReqsAt.step {W W' : World} {p : Option Addr} {L : List Rq} (h : ReqsAt W p L) (hb : Below W.heap.size W W') : ReqsAt W' p L := fun j hj => by
  obtain ⟨b, o, hp, h1, h2⟩ := h j hj
  exact ⟨b, o, hp, cell_later' hb h1, cell_later' hb h2⟩
theorem ReqsAt.nil (W : World) (p : Option Addr) : ReqsAt W p [] := fun j hj => by simp at hj

def lessB (a b : Rq) : Bool := if a.1 = b.1 then decide (a.2 < b.2) else decide (a.1 < b.1)

set_option maxHeartbeats 1000000 in
theorem less_any (a b : Rq) (w : World) : Calls Try.prog 83 #[.agg #[.int .i64 a.1, .int .i64 a.2], .agg #[.int .i64 b.1, .int .i64 b.2]] w (BoolP (lessB a b) w) := by
  obtain ⟨x, y⟩ := a
  obtain ⟨z, u⟩ := b
  show Calls Try.prog 83 #[.agg #[.int .i64 x, .int .i64 y], .agg #[.int .i64 z, .int .i64 u]] w (BoolP (if x = z then decide (y < u) else decide (x < z)) w)
  have hb := ((Below.refl w.heap.size w).alloc (Nat.le_refl _) (.cells #[.int .i64 x, .int .i64 y] 87)).alloc (by simp) (.cells #[.int .i64 z, .int .i64 u] 87)
  have HB := Lib.hid hb; clear hb
  by_cases h : x = z
  · subst h
    rw [if_pos rfl]
    generalize hq : decide (y < u) = q
    have HQ := Lib.hid hq
    go_enter Try.func83, Try.ntmps83
    go_wp2_with fail
    go_ret
    exact ⟨by first | rfl | rw [← HQ.out], HB.out⟩
  · rw [if_neg h]
    have hne : (x == z) = false := by simpa using h
    generalize hq : decide (x < z) = q
    have HQ := Lib.hid hq
    go_enter Try.func83, Try.ntmps83
    go_wp2_with fail
    go_ret
    exact ⟨by first | rfl | rw [← HQ.out], HB.out⟩

def sameL (L M : List Rq) : Bool := decide (L = M)

set_option maxRecDepth 100000 in
set_option maxHeartbeats 2000000 in
theorem reqSame_any (a b : Option Addr) (c d : Nat) (L M : List Rq) (w : World) (hl : L.length ≤ 1000) (hm : M.length ≤ 1000) (hL : ReqsAt w a L) (hM : ReqsAt w b M) :
    Calls Try.prog 17 #[.slice a L.length c, .slice b M.length d] w (BoolP (sameL L M) w) := by
  by_cases hlen : L.length = M.length
  · have HL := Lib.hid hL; have HM := Lib.hid hM
    rw [← hlen]
    obtain ⟨N, hN⟩ : ∃ N, L.length = N := ⟨_, rfl⟩
    have HN := Lib.hid hN; have HLEN := Lib.hid hlen
    rw [hN] at hl ⊢
    clear hL hM hN hlen hm
    go_enter Try.func17, Try.ntmps17
    go_wp2_with fail
    go_loopw [5, 13] (fun _ iv wr => ∃ k : Nat, iv = .int .i64 (k : Int) ∧ k ≤ N ∧ (∀ j, j < k → L.getD j rq0 = M.getD j rq0) ∧ Below w.heap.size w wr) (fun _ iv _ => N - (intOf iv).toNat)
    case atStart => exact ⟨0, rfl, Nat.zero_le _, fun j hj => absurd hj (by omega), Below.refl _ _⟩
    case round =>
      obtain ⟨k, rfl, hk, hj, hb⟩ := hrel
      by_cases hlt : k < N
      · obtain ⟨b1, o1, hp1, c0, c1⟩ := HL.out k (by rw [HN.out]; exact hlt)
        obtain ⟨b2, o2, hp2, d0, d1⟩ := HM.out k (by rw [← HLEN.out, HN.out]; exact hlt)
        subst hp1; subst hp2
        have c0 := cell_later' hb c0
        have c1 := cell_later' hb c1
        have d0 := cell_later' hb d0
        have d1 := cell_later' hb d1
        have hi0 : (0 : Int) ≤ (k : Int) := by omega
        have hi2 : (k : Int) < (N : Int) := by omega
        have hdd : decide (k < N) = true := decide_eq_true hlt
        obtain ⟨x, hx⟩ : ∃ x, L.getD k rq0 = x := ⟨_, rfl⟩
        obtain ⟨y, hy⟩ : ∃ y, M.getD k rq0 = y := ⟨_, rfl⟩
        rw [hx] at c0 c1
        rw [hy] at d0 d1
        have HX := Lib.hid hx; have HY := Lib.hid hy; have HJ := Lib.hid hj; have HBE := Lib.hid hb
        clear hx hy hj hb
        obtain ⟨x1, x2⟩ := x
        obtain ⟨y1, y2⟩ := y
        dsimp only at c0 c1 d0 d1
        by_cases hxy : x1 = y1 ∧ x2 = y2
        · obtain ⟨rfl, rfl⟩ := hxy
          go_wp2_with fail
          go_quiet (fail)
          go_wp2_with fail
          go_roundw
          case rel => exact ⟨k + 1, by go_num, by omega, (fun j hj => by
            rcases Nat.lt_succ_iff_lt_or_eq.1 hj with h | h
            · exact HJ.out j h
            · rw [h, HX.out, HY.out]), below_drewN HBE.out _⟩
          case measure => simp [intOf]; omega
        · have hne : sameL L M = false := by
            unfold sameL
            refine decide_eq_false fun e => hxy ?_
            have := HX.out
            rw [e, HY.out] at this
            injection this with h1 h2
            exact ⟨h1.symm, h2.symm⟩
          have HNE := Lib.hid hne
          clear hne
          by_cases h1 : x1 = y1
          · have h2 : ¬ x2 = y2 := fun e => hxy ⟨h1, e⟩
            subst h1
            have hq : (x2 == y2) = false := by simpa using h2
            go_wp2_with fail
            go_quiet (fail)
            go_wp2_with fail
            go_ret
            exact ⟨by rw [HNE.out]; rfl, below_drewN HBE.out _⟩
          · have hq : (x1 == y1) = false := by simpa using h1
            go_wp2_with fail
            go_quiet (fail)
            go_wp2_with fail
            go_ret
            exact ⟨by rw [HNE.out]; rfl, below_drewN HBE.out _⟩
      · have hk2 : k = N := by omega
        subst hk2
        have hs : sameL L M = true := by
          unfold sameL
          refine decide_eq_true (List.ext_getElem (by rw [HLEN.out]) fun j h1 h2 => ?_)
          have := hj j (by rw [← HN.out]; exact h1)
          rw [List.getD, List.getD, List.getElem?_eq_getElem h1, List.getElem?_eq_getElem h2] at this
          simpa using this
        have HS := Lib.hid hs; have HBE := Lib.hid hb
        clear hs hj hb
        go_wp2_with fail
        go_ret
        exact ⟨by rw [HS.out]; rfl, HBE.out⟩
  · have hs : sameL L M = false := by
      unfold sameL
      exact decide_eq_false fun e => hlen (by rw [e])
    have HS := Lib.hid hs
    clear hs hL hM
    generalize L.length = n at *
    generalize M.length = m at *
    have hne : ((n : Int) == (m : Int)) = false := by rw [beq_eq_false_iff_ne]; omega
    have hne2 : ¬ (n : Int) = (m : Int) := by omega
    go_enter Try.func17, Try.ntmps17
    go_wp2_with fail
    go_ret
    exact ⟨by rw [HS.out]; rfl, Below.refl _ _⟩
end Go.Proofs.Ytcppmkimfoajaaa
