/- graph.Check of an ascending row. -/
import Derived.Test.YtgeldpkopolnfaaDoorRdC
namespace Go.Proofs.YtgeldpkopolnfaaDoor
open Go.RowKit
set_option linter.all false

/-- What graph.Check answers. -/
def ChkR (n : Nat) (L : List Rq) (r : Int) : Prop :=
  ((∃ x ∈ L, x.1 = x.2) ∧ r = 44) ∨ ((∀ x ∈ L, x.1 ≠ x.2) ∧ (∃ i, i < n ∧ Way L i i) ∧ r = 45) ∨ ((∀ x ∈ L, x.1 ≠ x.2) ∧ (∀ i, i < n → ¬ Way L i i) ∧ r = 0)
def ChkP (n : Nat) (L : List Rq) (w : World) (e : Ending) (w' : World) : Prop := ∃ r, e = .returned (.int .i64 r) ∧ ChkR n L r ∧ Below w.heap.size w w'
theorem getD_mem' {L : List Rq} {j : Nat} (h : j < L.length) : L.getD j rq0 ∈ L := by
  rw [List.getD, List.getElem?_eq_getElem h]; exact List.getElem_mem h

set_option maxRecDepth 100000 in
set_option maxHeartbeats 8000000 in
theorem gcheck_any (a : Option Addr) (c : Nat) (L : List Rq) (n : Nat) (w : World) (h1 : 1 ≤ n) (hn : n ≤ 24) (hin : Inn n L) (hasc : AscR L) (hl : L.length ≤ 900) (hL : ReqsAt w a L) :
    Calls Tryd.prog 39 #[.int .i64 (n : Int), .slice a L.length c] w (ChkP n L w) := by
  have CB := Lib.hid (fun W (hW : Below w.heap.size w W) => behind_any a c L n W h1 hn hin hl (hL.step hW))
  have HL := Lib.hid hL; have HIN := Lib.hid hin; have HASC := Lib.hid hasc
  obtain ⟨N, hN⟩ : ∃ N, L.length = N := ⟨_, rfl⟩
  have HN := Lib.hid hN
  rw [hN] at hl CB ⊢
  have n0 : ¬ (n : Int) < 0 := by omega
  have n1 : ¬ (24 : Int) < (n : Int) := by omega
  have dn0 : decide ((n : Int) < 0) = false := decide_eq_false n0
  have dn1 : decide (24 < n) = false := decide_eq_false (by omega)
  clear hL hN hin hasc
  go_enter Tryd.func39, Tryd.ntmps39
  go_wp2_with fail
  go_loopw [18] (fun kv wr => ∃ m : Nat, kv = .int .i64 (m : Int) ∧ m ≤ N ∧ (∀ j, j < m → (L.getD j rq0).1 ≠ (L.getD j rq0).2) ∧ Below w.heap.size w wr) (fun kv _ => N - (intOf kv).toNat)
  case atStart => exact ⟨0, rfl, Nat.zero_le _, fun _ h => by omega, Below.refl _ _⟩
  case round =>
    obtain ⟨m, rfl, hm, hne, hb⟩ := hrel
    by_cases hltm : m < N
    · have hml : m < L.length := by rw [HN.out]; exact hltm
      obtain ⟨b1, o1, hp1, c0, c1⟩ := HL.out m hml
      subst hp1
      have c0 := cell_later' hb c0
      have c1 := cell_later' hb c1
      have hmi0 : (0 : Int) ≤ (m : Int) := by omega
      have hmi2 : (m : Int) < (N : Int) := by omega
      have hdd2 : decide (m < N) = true := decide_eq_true hltm
      have hinx := HIN.out _ (getD_mem' hml)
      have hmem := getD_mem' hml
      obtain ⟨x, hx⟩ : ∃ x, L.getD m rq0 = x := ⟨_, rfl⟩
      rw [hx] at c0 c1 hinx hmem
      obtain ⟨x1, x2⟩ := x
      dsimp only at c0 c1 hinx
      obtain ⟨q0, q1, q2, q3⟩ := hinx
      have d0 : decide (x1 < 0) = false := decide_eq_false (by omega)
      have d1 : decide ((n : Int) ≤ x1) = false := decide_eq_false (by omega)
      have d2 : decide (x2 < 0) = false := decide_eq_false (by omega)
      have d3 : decide ((n : Int) ≤ x2) = false := decide_eq_false (by omega)
      have HBE := Lib.hid (hb.alloc hb.size (.cells #[.int .i64 x1, .int .i64 x2] 47)); have HNE := Lib.hid hne; have HX := Lib.hid hx; have HMEM := Lib.hid hmem
      clear hb hne hx hmem
      by_cases he : x1 = x2
      · subst he
        go_wp2_with fail
        go_ret
        exact ⟨44, rfl, .inl ⟨⟨_, HMEM.out, rfl⟩, rfl⟩, HBE.out⟩
      · have hq : (x1 == x2) = false := by simpa using he
        go_wp2_with fail
        go_roundw
        case rel => exact ⟨m + 1, by go_num, by omega, (fun j hj => by
          rcases Nat.lt_succ_iff_lt_or_eq.1 hj with h | h
          · exact HNE.out j h
          · rw [h, HX.out]; exact he), HBE.out⟩
        case measure => simp [intOf]; omega
    · have hmN : m = N := by omega
      subst hmN
      have hdd2 : decide (m < m) = false := by simp
      have hni2 : ¬ (m : Int) < (m : Int) := by omega
      have hne' : ∀ x ∈ L, x.1 ≠ x.2 := fun x hx => by
        obtain ⟨j, hj, rfl⟩ := List.getElem_of_mem hx
        have := hne j (by rw [← HN.out]; exact hj)
        rw [List.getD, List.getElem?_eq_getElem hj] at this
        exact this
      have HNE := Lib.hid hne'; have HBE := Lib.hid hb
      clear hb hne hne'
      go_wp2_with fail
      go_loopw [7] (fun kv wr => ∃ k : Nat, kv = .int .i64 (k : Int) ∧ 1 ≤ k ∧ (k ≤ m ∨ k = 1) ∧ Below w.heap.size w wr) (fun kv _ => m - (intOf kv).toNat)
      case atStart => exact ⟨1, rfl, Nat.le_refl _, .inr rfl, HBE.out⟩
      case round =>
        clear HBE
        obtain ⟨k, rfl, h1k, hk, hb⟩ := hrel
        by_cases hltk : k < m
        · have hkl : k < L.length := by rw [HN.out]; exact hltk
          obtain ⟨b1, o1, hp1, c0, c1⟩ := HL.out k hkl
          obtain ⟨b2, o2, hp2, e0, e1⟩ := HL.out (k - 1) (by omega)
          subst hp1
          injection hp2 with hp2
          injection hp2 with e3 e4
          subst e3; subst e4
          have c0 := cell_later' hb c0
          have c1 := cell_later' hb c1
          have e0 := cell_later' hb e0
          have e1 := cell_later' hb e1
          have hless : lessB (L.getD (k - 1) rq0) (L.getD k rq0) = true := by
            have h := List.pairwise_iff_getElem.1 HASC.out (k - 1) k (by omega) hkl (by omega)
            rw [List.getD, List.getD, List.getElem?_eq_getElem hkl, List.getElem?_eq_getElem (by omega : k - 1 < L.length)]
            exact h
          rw [less_iff] at hless
          have i0' : (0 : Int) ≤ ((k - 1 : Nat) : Int) := by omega
          have i1' : ((k - 1 : Nat) : Int) < (m : Int) := by omega
          have i2' : (0 : Int) ≤ (k : Int) := by omega
          have i3' : (k : Int) < (m : Int) := by omega
          have sw : IntKind.i64.wrap ((k : Int) - 1) = ((k - 1 : Nat) : Int) := by rw [IntWalk.i64_in _ (by omega)]; omega
          have hdk : decide (k < m) = true := decide_eq_true hltk
          generalize L.getD k rq0 = x at *
          generalize L.getD (k - 1) rq0 = y at *
          obtain ⟨x1, x2⟩ := x
          obtain ⟨y1, y2⟩ := y
          dsimp only at c0 c1 e0 e1 hless
          have HBE := Lib.hid hb
          clear hb
          rcases hless with hless | ⟨rfl, hless⟩
          · have g1 : decide (x1 < y1) = false := decide_eq_false (by omega)
            have g2 : (y1 == x1) = false := by simp; omega
            go_wp2_with fail
            go_quiet (fail)
            have HBD := Lib.hid (below_drewN HBE.out nq)
            go_wp2_with fail
            go_roundw
            case rel => exact ⟨k + 1, by go_num, by omega, .inl (by omega), HBD.out⟩
            case measure => simp [intOf]; omega
          · have g1 : decide (y1 < y1) = false := decide_eq_false (by omega)
            have g2 : decide (x2 ≤ y2) = false := decide_eq_false (by omega)
            go_wp2_with fail
            go_quiet (fail)
            have HBD := Lib.hid (below_drewN HBE.out nq)
            go_wp2_with fail
            go_roundw
            case rel => exact ⟨k + 1, by go_num, by omega, .inl (by omega), HBD.out⟩
            case measure => simp [intOf]; omega
        · have hdk : decide (k < m) = false := decide_eq_false hltk
          have hnk : ¬ (k : Int) < (m : Int) := by omega
          have CBX := Lib.hid (CB.out wr hb)
          have HBE := Lib.hid hb
          clear hb CB
          go_wp2_with fail
          refine (CBX.out).mono ?_
          rintro e w2 ⟨bb, B, rfl, hBits, hW, hb2⟩
          have HBE2 := Lib.hid (HBE.out.trans (hb2.mono HBE.out.size))
          have HBI := Lib.hid hBits; have HW := Lib.hid hW
          clear hb2 hBits hW CBX HBE
          go_wp2_with fail
          go_loopw [100] (fun iv wr => ∃ i : Nat, iv = .int .i64 (i : Int) ∧ i ≤ n ∧ (∀ j, j < i → ¬ Way L j j) ∧ wr = w2) (fun iv _ => n - (intOf iv).toNat)
          case atStart => exact ⟨0, rfl, Nat.zero_le _, fun _ h => by omega, rfl⟩
          case round =>
            obtain ⟨i, rfl, hi, hno, hwe⟩ := hrel
            by_cases hlti : i < n
            · have hi0 : (0 : Int) ≤ (i : Int) := by omega
              have hi1 : (i : Int) < (n : Int) := by omega
              have hdi : decide (i < n) = true := decide_eq_true hlti
              have c0 := HBI.out.cell i hlti
              rw [← hwe] at c0
              have hbit : bitM B i i = decide (B i / 2 ^ i % 2 = 1) := testBit_div _ _
              have hzs := HBI.out.small i hlti
              have hway := HW.out i i hlti hlti
              have hand := u32_and_one (B i / 2 ^ i) (Nat.lt_of_le_of_lt (Nat.div_le_self _ _) hzs)
              generalize B i = z at *
              generalize hd : z / 2 ^ i = d at *
              have hsr : (z : Int).fdiv ((2 : Int) ^ i) = (d : Int) := by
                rw [← hd, show (2 : Int) ^ i = ((2 ^ i : Nat) : Int) by simp]; exact Int.fdiv_eq_ediv_of_nonneg _ (Int.natCast_nonneg _)
              have hsr2 : (z : Int) / ((2 : Int) ^ i) = (d : Int) := by
                rw [← hd, show (2 : Int) ^ i = ((2 ^ i : Nat) : Int) by simp]; rfl
              have HWY := Lib.hid hway; have HBT := Lib.hid hbit; have HNO := Lib.hid hno; have HWE := Lib.hid hwe
              clear hd hway hbit hno hwe
              by_cases hodd : d % 2 = 1
              · rw [hodd] at hand
                go_wp2_with fail
                go_ret
                refine ⟨45, rfl, .inr (.inl ⟨HNE.out, ⟨i, hlti, HWY.out.1 (by rw [HBT.out]; exact decide_eq_true hodd)⟩, rfl⟩), by rw [HWE.out]; exact HBE2.out⟩
              · have hev : d % 2 = 0 := by omega
                rw [hev] at hand
                go_wp2_with fail
                go_roundw
                case rel => exact ⟨i + 1, by go_num, by omega, (fun j hj => by
                  rcases Nat.lt_succ_iff_lt_or_eq.1 hj with h | h
                  · exact HNO.out j h
                  · rw [h]; exact fun hw => hodd (by
                      have := HWY.out.2 hw
                      rw [HBT.out] at this
                      exact of_decide_eq_true this)), HWE.out⟩
                case measure => simp [intOf]; omega
            · have hin' : i = n := by omega
              subst hin'
              have hdi : decide (i < i) = false := by simp
              have hni : ¬ (i : Int) < (i : Int) := by omega
              have HNO := Lib.hid hno; have HWE := Lib.hid hwe
              clear hno hwe
              go_wp2_with fail
              go_ret
              exact ⟨0, rfl, .inr (.inr ⟨HNE.out, HNO.out, rfl⟩), by rw [HWE.out]; exact HBE2.out⟩
end Go.Proofs.YtgeldpkopolnfaaDoor
