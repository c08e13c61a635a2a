/- window.ascend, where all ascend. -/
import Derived.Test.YtnconhbambhhgaaWnF
import Derived.Deep.CutRange
namespace Go.Proofs.Ytnconhbambhhgaa
open Go.RowKit
set_option linter.all false

/-- Windows that ascend, with teams that ascend. -/
def AscW (L : List Win) : Prop := ∀ j, j + 1 < L.length → (L.getD j win0).to_ ≤ (L.getD (j + 1) win0).from_
def AscT (L : List Int) : Prop := ∀ j, j + 1 < L.length → L.getD j 0 < L.getD (j + 1) 0
def AsRel (w : World) (N : Nat) (iv : Value) (wr : World) : Prop := ∃ k : Nat, iv = .int .i64 (k : Int) ∧ k ≤ N ∧ Below w.heap.size w wr
def AtRel (w : World) (N : Nat) (iv : Value) (wr : World) : Prop := ∃ k : Nat, iv = .int .i64 (k : Int) ∧ 1 ≤ k ∧ (k ≤ N ∨ k = 1) ∧ Below w.heap.size w wr

set_option maxRecDepth 100000 in
set_option maxHeartbeats 4000000 in
theorem ascend_any (p : Option Addr) (c1 : Nat) (L : List Win) (T : Nat → List Int) (w : World) (hl : L.length ≤ 1000) (hL : WinsAt w p L) (hT : TsAt w L T) (hA : AscW L) (hB : ∀ j, j < L.length → AscT (T j)) :
    Calls Try.prog 53 #[.slice p L.length c1] w (BoolP true w) := by
  have HL := Lib.hid hL; have HT := Lib.hid hT; have HA := Lib.hid hA; have HB := Lib.hid hB
  obtain ⟨N, hN⟩ : ∃ N, L.length = N := ⟨_, rfl⟩
  have HN := Lib.hid hN
  rw [hN] at hl ⊢
  clear hL hT hN hA hB
  go_enter Try.func53, Try.ntmps53
  go_wp2_with fail
  go_loopw [3, 4, 5, 8] (fun _ _ _ iv wr => AsRel w N iv wr) (fun _ _ _ iv _ => N - (intOf iv).toNat)
  case atStart => exact ⟨0, rfl, Nat.zero_le _, Below.refl _ _⟩
  case round =>
    obtain ⟨k, rfl, hk, hb⟩ := hrel
    by_cases hlt : k < N
    · have hkl : k < L.length := by rw [HN.out]; exact hlt
      obtain ⟨b, o, hp, e0, e1, e2⟩ := HL.out k hkl
      obtain ⟨t1, t2, t3⟩ := HT.out k hkl
      rw [t1] at e2
      subst hp
      have e0 := cell_later' hb e0
      have e1 := cell_later' hb e1
      have e2 := cell_later' hb e2
      have hbt := HB.out k hkl
      have hi0 : (0 : Int) ≤ (k : Int) := by omega
      have hi2 : (k : Int) < (N : Int) := by omega
      have hdd : decide (k < N) = true := decide_eq_true hlt
      have hff : ∀ u : Int, 0 < k → (L.getD (k - 1) win0).to_ = u → u ≤ (L.getD k win0).from_ := fun u hu he => by
        have := HA.out (k - 1) (by rw [HN.out]; omega)
        rw [Nat.sub_add_cancel hu, he] at this; exact this
      have TT := t3.step hb
      generalize (L.getD k win0).from_ = f at *
      generalize (L.getD k win0).to_ = t at *
      generalize (L.getD k win0).a = a' at *
      generalize (L.getD k win0).c = c' at *
      generalize T k = Q at *
      have ha := (Below.refl wr.heap.size wr).alloc (Nat.le_refl _) (.cells #[.int .i64 f, .int .i64 t, .slice a' Q.length c'] 77)
      have z0 : (wr.alloc (.cells #[.int .i64 f, .int .i64 t, .slice a' Q.length c'] 77)).cell? ⟨wr.heap.size, 0, none⟩ = some (.int .i64 f) := by simp
      have z2 : (wr.alloc (.cells #[.int .i64 f, .int .i64 t, .slice a' Q.length c'] 77)).cell? ⟨wr.heap.size, 2, none⟩ = some (.slice a' Q.length c') := by simp
      have HBE := Lib.hid hb; have HAA := Lib.hid ha; have Z2 := Lib.hid z2; have TQ := Lib.hid (TT.step ha); have HBT := Lib.hid hbt; have HQ := Lib.hid t2
      clear hb t1 t2 t3 ha TT z2 hbt
      go_upto_region 4 with fail
      go_cut [27] from 13 to 27 (fun c wx => c = .bool false ∧ Below (wr.alloc (.cells #[.int .i64 f, .int .i64 t, .slice a' Q.length c'] 77)).heap.size (wr.alloc (.cells #[.int .i64 f, .int .i64 t, .slice a' Q.length c'] 77)) wx)
      case first =>
        by_cases hk0 : k = 0
        · subst hk0
          go_quiet (fail)
          go_wp2_with fail
          go_meet
          case rel => exact ⟨rfl, below_drewN (Below.refl _ _) _⟩
        · have hlt0 : (0 : Int) < (k : Int) := by omega
          obtain ⟨b0, o0, hp0, d0, d1, d2⟩ := HL.out (k - 1) (by rw [HN.out]; omega)
          injection hp0 with hp0; injection hp0 with hp1 hp2
          subst hp1; subst hp2
          have d1 := cell_later' HAA.out (cell_later' HBE.out d1)
          have hle := hff _ (by omega) rfl
          generalize (L.getD (k - 1) win0).to_ = u at *
          obtain ⟨m, hm⟩ : ∃ m, k - 1 = m := ⟨_, rfl⟩
          rw [hm] at d1
          have hm2 : m < N := by omega
          have hm3 : (m : Int) < (N : Int) := by omega
          have hm4 : (0 : Int) ≤ (m : Int) := by omega
          have s1 : IntKind.i64.wrap ((k : Int) - 1) = (m : Int) := by rw [IntWalk.i64_in _ (by omega)]; omega
          have hg : decide (f < u) = false := decide_eq_false (by omega)
          have hd0 : decide (0 < k) = true := decide_eq_true (by omega)
          clear hff d0 d2 HL e0 e1 e2
          go_quiet (fail)
          go_wp2_with fail
          go_meet
          case rel => exact ⟨rfl, below_drewN (Below.refl _ _) _⟩
      case rest =>
        obtain ⟨rfl, hb2⟩ := hcut
        have HB2 := Lib.hid hb2
        have Z3 := cell_later' hb2 Z2.out
        have HB3 := Lib.hid (HBE.out.trans ((HAA.out.trans (hb2.mono (by simp))).mono HBE.out.size))
        have TQ2 := Lib.hid (TQ.out.step hb2)
        have hsz : wr.heap.size < wc.heap.size := block_lt_of_cell Z3
        clear z0 hff e0 e1 e2 hb2 Z2 TQ HAA HBE HB2
        generalize hG : wr.heap.size = G at *
        go_wp2_with fail
        go_loopw [5] (fun iv wi => ∃ m : Nat, iv = .int .i64 (m : Int) ∧ 1 ≤ m ∧ m ≤ Q.length + 1 ∧ Below wc.heap.size wc wi) (fun iv _ => Q.length + 1 - (intOf iv).toNat)
        case atStart => exact ⟨1, rfl, Nat.le_refl _, by omega, Below.refl _ _⟩
        case round =>
          obtain ⟨m, rfl, hm1, hm9, hbi⟩ := hrel
          have z2 := cell_later' hbi Z3
          have HBI := Lib.hid hbi
          obtain ⟨M, hM⟩ : ∃ M, Q.length = M := ⟨_, rfl⟩
          have HM := Lib.hid hM
          have hq := HQ.out
          rw [hM] at z2 hm9 hq
          by_cases hmt : m < M
          · obtain ⟨b1, o1, hp1, x1⟩ := (TQ2.out.step hbi) m (by omega)
            obtain ⟨b2, o2, hp2, x2⟩ := (TQ2.out.step hbi) (m - 1) (by omega)
            subst hp1
            injection hp2 with hp2; injection hp2 with hp3 hp4
            subst hp3; subst hp4
            have hlt := HBT.out (m - 1) (by omega)
            rw [Nat.sub_add_cancel hm1] at hlt
            generalize Q.getD m 0 = y at *
            generalize Q.getD (m - 1) 0 = x at *
            obtain ⟨m1, hm1'⟩ : ∃ m1, m - 1 = m1 := ⟨_, rfl⟩
            rw [hm1'] at x2
            have hm2 : m1 < M := by omega
            have hm3 : (m1 : Int) < (M : Int) := by omega
            have hm4 : (0 : Int) ≤ (m1 : Int) := by omega
            have hm5 : (m : Int) < (M : Int) := by omega
            have hm6 : (0 : Int) ≤ (m : Int) := by omega
            have s1 : IntKind.i64.wrap ((m : Int) - 1) = (m1 : Int) := by rw [IntWalk.i64_in _ (by omega)]; omega
            have hg : decide (y ≤ x) = false := decide_eq_false (by omega)
            have hdd2 : decide (m < M) = true := decide_eq_true hmt
            clear hbi Z3 hM
            go_wp2_with fail
            go_quiet (fail)
            go_wp2_with fail
            go_roundw
            case rel => exact ⟨m + 1, by go_num, by omega, by rw [HM.out]; omega, below_drewN HBI.out _⟩
            case measure => have := HM.out; simp [intOf]; omega
          · have hmt2 : decide (m < M) = false := decide_eq_false hmt
            clear hbi Z3
            go_wp2_with fail
            go_roundw
            case rel => exact ⟨k + 1, by go_num, by omega, HB3.out.trans (HBI.out.mono HB3.out.size)⟩
            case measure => simp [intOf]; omega
    · have hk2 : k = N := by omega
      subst hk2
      have HBE := Lib.hid hb
      clear hb
      go_wp2_with fail
      go_ret
      exact ⟨rfl, HBE.out⟩
end Go.Proofs.Ytnconhbambhhgaa
