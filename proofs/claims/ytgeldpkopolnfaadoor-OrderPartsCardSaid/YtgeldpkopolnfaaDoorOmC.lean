/- isClosed, ready. -/
import Derived.Test.YtgeldpkopolnfaaDoorOmT
namespace Go.Proofs.YtgeldpkopolnfaaDoor
open Go.RowKit
set_option linter.all false

def clB (L : List Rq) (s : Nat) : Bool := L.all fun r => !s.testBit r.2.toNat || s.testBit r.1.toNat
theorem clB_iff {L : List Rq} {s : Nat} : clB L s = true ↔ ClM L s := by
  unfold clB ClM
  rw [List.all_eq_true]
  constructor
  · intro h r hr h2
    have := h r hr
    rw [h2] at this; simpa using this
  · intro h r hr
    cases h2 : s.testBit r.2.toNat
    · rfl
    · rw [h r hr h2]; rfl
def rdyM (L : List Rq) (s m : Nat) : Nat := L.foldl (fun m r => if s.testBit r.1.toNat then m else del m r.2.toNat) m
theorem rdyM_bit (s : Nat) : ∀ (L : List Rq) (m i : Nat), (rdyM L s m).testBit i = (m.testBit i && L.all fun r => s.testBit r.1.toNat || !decide (r.2.toNat = i))
  | [], m, i => by simp [rdyM]
  | r :: L, m, i => by
    have ih := rdyM_bit s L (if s.testBit r.1.toNat then m else del m r.2.toNat) i
    unfold rdyM at ih ⊢
    rw [List.foldl_cons, ih, List.all_cons]
    cases h : s.testBit r.1.toNat
    · simp only [Bool.false_eq_true, if_false, Bool.false_or]
      rw [del_bit, Bool.and_assoc]
    · simp
theorem rdyM_lt {n : Nat} (s : Nat) (L : List Rq) (m : Nat) (h : m < 2 ^ n) : rdyM L s m < 2 ^ n :=
  lt_of_bits fun i hi => by rw [rdyM_bit, bit_of_lt h hi]; rfl
/-- The mask of what can be added. -/
def rdy (n : Nat) (L : List Rq) (s : Nat) : Nat := rdyM L s (andN (2 ^ n - 1) s)
theorem full_lt (n : Nat) : 2 ^ n - 1 < 2 ^ n := by have := Nat.two_pow_pos n; omega
theorem rdy_lt (n : Nat) (L : List Rq) (s : Nat) : rdy n L s < 2 ^ n := rdyM_lt _ _ _ (andN_lt (full_lt n))
theorem rdy_bit {n : Nat} {L : List Rq} {s i : Nat} : (rdy n L s).testBit i = true ↔ Rdy n L s i := by
  unfold rdy Rdy
  rw [rdyM_bit, andN_bit, full_bit, Bool.and_eq_true, Bool.and_eq_true, List.all_eq_true]
  constructor
  · rintro ⟨⟨h1, h2⟩, h3⟩
    refine ⟨of_decide_eq_true h1, by simpa using h2, fun r hr e => ?_⟩
    have := h3 r hr
    rw [e] at this; simpa using this
  · rintro ⟨h1, h2, h3⟩
    refine ⟨⟨decide_eq_true h1, by rw [h2]; rfl⟩, fun r hr => ?_⟩
    by_cases e : r.2.toNat = i
    · rw [h3 r hr e]; rfl
    · simp [e]
theorem take_snoc (L : List Rq) (m : Nat) (h : m < L.length) : L.take (m + 1) = L.take m ++ [L.getD m rq0] := by
  rw [List.take_succ, List.getElem?_eq_getElem h]
  simp [List.getD, h]
theorem clB_snoc (L : List Rq) (r : Rq) (s : Nat) : clB (L ++ [r]) s = (clB L s && (!s.testBit r.2.toNat || s.testBit r.1.toNat)) := by
  unfold clB; rw [List.all_append]; simp
theorem clB_take {L : List Rq} {s : Nat} (m : Nat) (h : clB (L.take m) s = false) : clB L s = false := by
  cases e : clB L s
  · rfl
  · rw [clB_iff] at e
    rw [(clB_iff).2 (fun r hr => e r (List.mem_of_mem_take hr))] at h; cases h

set_option maxRecDepth 100000 in
set_option maxHeartbeats 4000000 in
theorem isClosed_any (a : Option Addr) (c : Nat) (L : List Rq) (n s : Nat) (w : World) (hn : n ≤ 24) (hs : s < 16777216) (hin : Inn n L) (hl : L.length ≤ 900) (hL : ReqsAt w a L) :
    Calls Tryd.prog 29 #[.int .u32 (s : Int), .slice a L.length c] w fun e w' => e = .returned (.bool (clB L s)) ∧ Below w.heap.size w w' := by
  have HL := Lib.hid hL; have HIN := Lib.hid hin
  obtain ⟨N, hN⟩ : ∃ N, L.length = N := ⟨_, rfl⟩
  have HN := Lib.hid hN
  rw [hN] at hl ⊢
  clear hL hN hin
  go_enter Tryd.func29, Tryd.ntmps29
  go_wp2_with fail
  go_loopw [9] (fun kv wr => ∃ m : Nat, kv = .int .i64 (m : Int) ∧ m ≤ N ∧ clB (L.take m) s = true ∧ Below w.heap.size w wr) (fun kv _ => N - (intOf kv).toNat)
  case atStart => exact ⟨0, rfl, Nat.zero_le _, rfl, Below.refl _ _⟩
  case round =>
    obtain ⟨m, rfl, hm, hcl, hb⟩ := hrel
    by_cases hltm : m < N
    · have hml : m < L.length := by rw [HN.out]; exact hltm
      obtain ⟨b1, o1, hp1, c0, c1⟩ := HL.out m hml
      subst hp1
      have c0 := cell_later' hb c0
      have c1 := cell_later' hb c1
      have hmi0 : (0 : Int) ≤ (m : Int) := by omega
      have hmi2 : (m : Int) < (N : Int) := by omega
      have hdd2 : decide (m < N) = true := decide_eq_true hltm
      have hsn := clB_snoc (L.take m) (L.getD m rq0) s
      rw [← take_snoc L m hml, hcl, Bool.true_and] at hsn
      have hinx := HIN.out (L.getD m rq0) (by rw [List.getD, List.getElem?_eq_getElem hml]; exact List.getElem_mem hml)
      obtain ⟨x, hx⟩ : ∃ x, L.getD m rq0 = x := ⟨_, rfl⟩
      rw [hx] at c0 c1 hsn hinx
      obtain ⟨x1, x2⟩ := x
      dsimp only at c0 c1 hinx hsn
      obtain ⟨i, rfl⟩ := Int.eq_ofNat_of_zero_le hinx.1
      obtain ⟨j, rfl⟩ := Int.eq_ofNat_of_zero_le hinx.2.2.1
      rw [Int.toNat_natCast, Int.toNat_natCast] at hsn
      have hi : i < 24 := by omega
      have hj : j < 24 := by omega
      have H1 := Lib.hid (fun W => has_any s j hs hj W)
      have H2 := Lib.hid (fun W => has_any s i hs hi W)
      generalize s.testBit i = bi at *
      generalize s.testBit j = bj at *
      have HB := Lib.hid hb; have HSN := Lib.hid hsn
      clear hb hsn hinx hx hcl
      cases bj
      · go_wp2_with (go_at_call 43; first | (refine (H1.out _).mono ?_; clear H1; rintro e w' ⟨rfl, rfl⟩))
        go_roundw
        case rel => exact ⟨m + 1, by go_num, by omega, by rw [HSN.out]; rfl, HB.out.alloc HB.out.size _⟩
        case measure => simp [intOf]; omega
      · cases bi
        · go_wp2_with (go_at_call 43; first | (refine (H1.out _).mono ?_; clear H1; rintro e w' ⟨rfl, rfl⟩) | (refine (H2.out _).mono ?_; rintro e w' ⟨rfl, rfl⟩))
          go_ret
          exact ⟨by rw [clB_take (m + 1) HSN.out]; rfl, HB.out.alloc HB.out.size _⟩
        · go_wp2_with (go_at_call 43; first | (refine (H1.out _).mono ?_; clear H1; rintro e w' ⟨rfl, rfl⟩) | (refine (H2.out _).mono ?_; rintro e w' ⟨rfl, rfl⟩))
          go_roundw
          case rel => exact ⟨m + 1, by go_num, by omega, by rw [HSN.out]; rfl, HB.out.alloc HB.out.size _⟩
          case measure => simp [intOf]; omega
    · have hmN : m = N := by omega
      subst hmN
      have hdd2 : decide (m < m) = false := by simp
      have hni2 : ¬ (m : Int) < (m : Int) := by omega
      rw [List.take_of_length_le (by rw [HN.out]; exact Nat.le_refl _)] at hcl
      go_wp2_with fail
      go_ret
      exact ⟨by first | rfl | (rw [hcl]; rfl), hb⟩
theorem rdyM_snoc (L : List Rq) (r : Rq) (s m : Nat) : rdyM (L ++ [r]) s m = if s.testBit r.1.toNat then rdyM L s m else del (rdyM L s m) r.2.toNat := by
  unfold rdyM; rw [List.foldl_append]; rfl
set_option maxRecDepth 100000 in
set_option maxHeartbeats 4000000 in
theorem ready_any (a : Option Addr) (c : Nat) (L : List Rq) (n s : Nat) (w : World) (hn : n ≤ 24) (hs : s < 16777216) (hin : Inn n L) (hl : L.length ≤ 900) (hL : ReqsAt w a L) :
    Calls Tryd.prog 31 #[.int .u32 (s : Int), .int .i64 (n : Int), .slice a L.length c] w fun e w' => e = .returned (.int .u32 ((rdy n L s : Nat) : Int)) ∧ Below w.heap.size w w' := by
  have HL := Lib.hid hL; have HIN := Lib.hid hin
  obtain ⟨N, hN⟩ : ∃ N, L.length = N := ⟨_, rfl⟩
  have HN := Lib.hid hN
  rw [hN] at hl ⊢
  have hp24 : 2 ^ n ≤ 16777216 := Nat.pow_le_pow_right (n := 2) (by decide) (j := 24) hn
  have hfl := full_lt n
  have hpp := Nat.two_pow_pos n
  have hsh : IntKind.u32.wrap ((2 : Int) ^ n) = ((2 ^ n : Nat) : Int) := by rw [show (2 : Int) ^ n = ((2 ^ n : Nat) : Int) by simp, IntKind.wrap_u32]; omega
  have hsub : IntKind.u32.wrap (((2 ^ n : Nat) : Int) - 1) = ((2 ^ n - 1 : Nat) : Int) := by rw [IntKind.wrap_u32]; omega
  have han := u32_andNot_nat (2 ^ n - 1) s (by omega) (by omega)
  have hrd : rdyM L s (andN (2 ^ n - 1) s) = rdy n L s := rfl
  have hm0 : andN (2 ^ n - 1) s < 16777216 := Nat.lt_of_lt_of_le (andN_lt (full_lt n)) hp24
  obtain ⟨q, hq⟩ : ∃ q, andN (2 ^ n - 1) s = q := ⟨_, rfl⟩
  rw [hq] at han hrd hm0
  have HLT := Lib.hid (fun m => (rdyM_lt (n := 24) s (L.take m) q hm0 : rdyM (L.take m) s q < 16777216))
  generalize rdy n L s = R at *
  generalize 2 ^ n - 1 = f at *
  generalize 2 ^ n = t at *
  have hn0 : (0 : Int) ≤ (n : Int) := by omega
  have HRD := Lib.hid hrd
  clear hL hN hin hp24 hfl hpp hq hrd
  go_enter Tryd.func31, Tryd.ntmps31
  go_wp2_with fail
  go_loopw [7, 17] (fun sv kv wr => ∃ m : Nat, kv = .int .i64 (m : Int) ∧ m ≤ N ∧ sv = .int .u32 ((rdyM (L.take m) s q : Nat) : Int) ∧ Below w.heap.size w wr) (fun _ kv _ => N - (intOf kv).toNat)
  case atStart => exact ⟨0, rfl, Nat.zero_le _, rfl, Below.refl _ _⟩
  case round =>
    obtain ⟨m, rfl, hm, rfl, hb⟩ := hrel
    have hq2 := HLT.out m
    by_cases hltm : m < N
    · have hml : m < L.length := by rw [HN.out]; exact hltm
      obtain ⟨b1, o1, hp1, c0, c1⟩ := HL.out m hml
      subst hp1
      have c0 := cell_later' hb c0
      have c1 := cell_later' hb c1
      have hmi0 : (0 : Int) ≤ (m : Int) := by omega
      have hmi2 : (m : Int) < (N : Int) := by omega
      have hdd2 : decide (m < N) = true := decide_eq_true hltm
      have hsn := rdyM_snoc (L.take m) (L.getD m rq0) s q
      rw [← take_snoc L m hml] at hsn
      have hinx := HIN.out (L.getD m rq0) (by rw [List.getD, List.getElem?_eq_getElem hml]; exact List.getElem_mem hml)
      obtain ⟨x, hx⟩ : ∃ x, L.getD m rq0 = x := ⟨_, rfl⟩
      rw [hx] at c0 c1 hsn hinx
      obtain ⟨x1, x2⟩ := x
      dsimp only at c0 c1 hinx hsn
      obtain ⟨i, rfl⟩ := Int.eq_ofNat_of_zero_le hinx.1
      obtain ⟨j, rfl⟩ := Int.eq_ofNat_of_zero_le hinx.2.2.1
      rw [Int.toNat_natCast, Int.toNat_natCast] at hsn
      have hi : i < 24 := by omega
      have hj : j < 24 := by omega
      have H1 := Lib.hid (fun W => has_any s i hs hi W)
      have H2 := Lib.hid (fun W => without_any (rdyM (L.take m) s q) j hq2 hj W)
      generalize rdyM (L.take m) s q = z at *
      generalize s.testBit i = bi at *
      have HB := Lib.hid hb; have HSN := Lib.hid hsn
      clear hb hsn hinx hx
      cases bi
      · generalize del z j = z2 at *
        go_wp2_with (first | (go_at_call 43; refine (H1.out _).mono ?_; clear H1; rintro e w' ⟨rfl, rfl⟩) | (go_at_call 33; refine (H2.out _).mono ?_; clear H2; rintro e w' ⟨rfl, rfl⟩))
        go_roundw
        case rel => exact ⟨m + 1, by go_num, by omega, by rw [HSN.out]; rfl, HB.out.alloc HB.out.size _⟩
        case measure => simp [intOf]; omega
      · go_wp2_with (first | (go_at_call 43; refine (H1.out _).mono ?_; clear H1; rintro e w' ⟨rfl, rfl⟩))
        go_roundw
        case rel => exact ⟨m + 1, by go_num, by omega, by rw [HSN.out]; rfl, HB.out.alloc HB.out.size _⟩
        case measure => simp [intOf]; omega
    · have hmN : m = N := by omega
      subst hmN
      have hdd2 : decide (m < m) = false := by simp
      have hni2 : ¬ (m : Int) < (m : Int) := by omega
      have hrd := HRD.out
      rw [List.take_of_length_le (by rw [HN.out]; exact Nat.le_refl _), hrd]
      go_wp2_with fail
      go_ret
      exact ⟨rfl, hb⟩
end Go.Proofs.YtgeldpkopolnfaaDoor
