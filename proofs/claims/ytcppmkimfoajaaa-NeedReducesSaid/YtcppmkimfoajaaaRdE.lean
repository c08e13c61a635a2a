/- need.Reduce. -/
import Derived.Test.YtcppmkimfoajaaaRdD
namespace Go.Proofs.Ytcppmkimfoajaaa
open Go.RowKit
set_option linter.all false

/-- What the closure of Reduce reads: the requirement at R, the slice of bits at X. -/
structure ClR (W : World) (R X : Nat) (r : Rq) (b n : Nat) (B : Nat → Nat) : Prop where
  rq : W.heap[R]? = some (.cells #[.int .i64 r.1, .int .i64 r.2] 87 (0, 0))
  bx : W.heap[X]? = some (.cells #[.slice (some ⟨b, 0, none⟩) n n] 91 (0, 0))
  row : W.heap[b]? = some (.cells (rowU n B) 94 (0, 0))
theorem ClR.step {W W' : World} {R X : Nat} {r : Rq} {b n : Nat} {B : Nat → Nat} (h : ClR W R X r b n B) (hb : Below W.heap.size W W') : ClR W' R X r b n B :=
  ⟨(hb.block _ (lt_of_heap h.rq)).trans h.rq, (hb.block _ (lt_of_heap h.bx)).trans h.bx, (hb.block _ (lt_of_heap h.row)).trans h.row⟩
def behP (B : Nat → Nat) (r s : Rq) : Bool := decide (s.1 = r.1) && bitM B s.2.toNat r.2.toNat

set_option maxRecDepth 100000 in
set_option maxHeartbeats 4000000 in
theorem redClo_any (R X b n : Nat) (B : Nat → Nat) (r s : Rq) (w : World) (h : ClR w R X r b n B) (hn : n ≤ 24) (hsm : ∀ i, i < n → B i < 16777216) (hr : 0 ≤ r.2 ∧ r.2 < n) (hs : 0 ≤ s.2 ∧ s.2 < n) :
    Calls Try.prog 40 #[.agg #[.int .i64 s.1, .int .i64 s.2], .pointer (some ⟨R, 0, none⟩), .pointer (some ⟨X, 0, none⟩)] w (BoolP (behP B r s) w) := by
  obtain ⟨r1, r2⟩ := r
  obtain ⟨s1, s2⟩ := s
  simp only at hr hs
  have hb0 := (Below.refl w.heap.size w).alloc (Nat.le_refl _) (.cells #[.int .i64 s1, .int .i64 s2] 87)
  obtain ⟨k, rfl⟩ := Int.eq_ofNat_of_zero_le hr.1
  obtain ⟨i, rfl⟩ := Int.eq_ofNat_of_zero_le hs.1
  have hi : i < n := by omega
  obtain ⟨hrq, hbx, hrow⟩ := h.step hb0
  simp only at hrq
  have c0 := cell_of_row _ R 0 _ _ _ hrq
  have c1 := cell_of_row _ R 1 _ _ _ hrq
  have c2 := cell_of_row _ X 0 _ _ _ hbx
  have c3 := cell_of_row _ b i _ _ _ hrow
  rw [rowU_get _ _ _ hi] at c3
  simp at c0 c1 c2
  have hi0 : (0 : Int) ≤ (i : Int) := by omega
  have hi1 : (i : Int) < (n : Int) := by omega
  have hk0 : (0 : Int) ≤ (k : Int) := by omega
  have hk1 : (k : Int) < (n : Int) := by omega
  have hbp : behP B (r1, (k : Int)) (s1, (i : Int)) = (decide (s1 = r1) && decide (B i / 2 ^ k % 2 = 1)) := by
    unfold behP
    simp only [Int.toNat_natCast]
    unfold bitM
    rw [testBit_div]
  have hzs := hsm i hi
  have hand := u32_and_one (B i / 2 ^ k) (Nat.lt_of_le_of_lt (Nat.div_le_self _ _) hzs)
  rw [hbp]
  generalize B i = z at *
  generalize hd : z / 2 ^ k = d at *
  have hsr : (z : Int).fdiv ((2 : Int) ^ k) = (d : Int) := by
    rw [← hd, show (2 : Int) ^ k = ((2 ^ k : Nat) : Int) by simp]; exact Int.fdiv_eq_ediv_of_nonneg _ (Int.natCast_nonneg _)
  have hsr2 : (z : Int) / ((2 : Int) ^ k) = (d : Int) := by
    rw [← hd, show (2 : Int) ^ k = ((2 ^ k : Nat) : Int) by simp]; rfl
  have HB0 := Lib.hid hb0
  clear hd hbp hb0 h hrq hbx hrow hsm
  by_cases he : s1 = r1
  · subst he
    by_cases hodd : d % 2 = 1
    · rw [hodd] at hand
      rw [show (decide (s1 = s1) && decide (d % 2 = 1)) = true by simp [hodd]]
      go_enter Try.func40, Try.ntmps40
      go_wp2_with fail
      go_quiet (fail)
      go_wp2_with fail
      go_ret
      exact ⟨rfl, below_drewN HB0.out _⟩
    · have hev : d % 2 = 0 := by omega
      rw [hev] at hand
      rw [show (decide (s1 = s1) && decide (d % 2 = 1)) = false by simp [hev]]
      go_enter Try.func40, Try.ntmps40
      go_wp2_with fail
      go_quiet (fail)
      go_wp2_with fail
      go_ret
      exact ⟨rfl, below_drewN HB0.out _⟩
  · have hq : (s1 == r1) = false := by simpa using he
    rw [show (decide (s1 = r1) && decide (d % 2 = 1)) = false by simp [he]]
    go_enter Try.func40, Try.ntmps40
    go_wp2_with fail
    go_quiet (fail)
    go_wp2_with fail
    go_ret
    exact ⟨rfl, below_drewN HB0.out _⟩

def IxR (p : Rq → Bool) (L : List Rq) (r : Int) : Prop := (r = -1 ∧ ∀ x ∈ L, p x = false) ∨ (0 ≤ r ∧ ∃ x ∈ L, p x = true)
set_option maxRecDepth 100000 in
set_option maxHeartbeats 4000000 in
theorem redIx_any (R X b n : Nat) (B : Nat → Nat) (r : Rq) (a : Option Addr) (c : Nat) (L : List Rq) (w : World) (h : ClR w R X r b n B) (hn : n ≤ 24) (hsm : ∀ i, i < n → B i < 16777216) (hr : 0 ≤ r.2 ∧ r.2 < n) (hin : Inn n L) (hl : L.length ≤ 900) (hL : ReqsAt w a L) :
    Calls Try.prog 58 #[.slice a L.length c, .func (.func 40) #[] #[.pointer (some ⟨R, 0, none⟩), .pointer (some ⟨X, 0, none⟩)]] w (fun e w' => ∃ q, e = .returned (.int .i64 q) ∧ IxR (behP B r) L q ∧ Below w.heap.size w w') := by
  have CC := Lib.hid (fun s W (hs : 0 ≤ s.2 ∧ s.2 < (n : Int)) (hW : Below w.heap.size w W) => redClo_any R X b n B r s W (h.step hW) hn hsm hr hs)
  have HL := Lib.hid hL; have HIN := Lib.hid hin
  obtain ⟨N, hN⟩ : ∃ N, L.length = N := ⟨_, rfl⟩
  have HN := Lib.hid hN
  rw [hN] at hl ⊢
  clear hL hN hin h hsm hr
  go_enter Try.func58, Try.ntmps58
  go_wp2_with fail
  go_loopw [5, 8] (fun _ kv wr => ∃ m : Nat, kv = .int .i64 (m : Int) ∧ m ≤ N ∧ (∀ j, j < m → behP B r (L.getD j rq0) = false) ∧ Below w.heap.size w wr) (fun _ kv _ => N - (intOf kv).toNat)
  case atStart => exact ⟨0, rfl, Nat.zero_le _, fun _ h => by omega, Below.refl _ _⟩
  case round =>
    obtain ⟨m, rfl, hm, hno, hb⟩ := hrel
    by_cases hltm : m < N
    · have hml : m < L.length := by rw [HN.out]; exact hltm
      obtain ⟨b1, o1, hp1, c0, c1⟩ := HL.out m hml
      subst hp1
      have c0 := cell_later' hb c0
      have c1 := cell_later' hb c1
      have hmi0 : (0 : Int) ≤ (m : Int) := by omega
      have hmi2 : (m : Int) < (N : Int) := by omega
      have hdd2 : decide (m < N) = true := decide_eq_true hltm
      have hmem := getD_mem' hml
      have hinx := HIN.out _ hmem
      obtain ⟨x, hx⟩ : ∃ x, L.getD m rq0 = x := ⟨_, rfl⟩
      rw [hx] at c0 c1 hinx hmem
      have CX := Lib.hid (CC.out x wr ⟨hinx.2.2.1, hinx.2.2.2⟩ hb)
      obtain ⟨y, hy⟩ : ∃ y, behP B r x = y := ⟨_, rfl⟩
      rw [hy] at CX
      have HX := Lib.hid hx; have HY := Lib.hid hy; have HMEM := Lib.hid hmem
      obtain ⟨x1, x2⟩ := x
      dsimp only at c0 c1 CX
      have HNO := Lib.hid hno; have HBE := Lib.hid hb
      clear hno hb hx hy hinx hmem
      go_wp2_with fail
      refine (CX.out).mono ?_
      rintro e w1 ⟨rfl, hb1⟩
      have HB1 := Lib.hid (HBE.out.trans (hb1.mono HBE.out.size))
      clear hb1 CX c0 c1
      cases y with
      | true =>
        go_wp2_with fail
        go_ret
        exact ⟨_, rfl, .inr ⟨by omega, _, HMEM.out, HY.out⟩, HB1.out⟩
      | false =>
        go_wp2_with fail
        go_roundw
        case rel => exact ⟨m + 1, by go_num, by omega, (fun j hj => by
          rcases Nat.lt_succ_iff_lt_or_eq.1 hj with h | h
          · exact HNO.out j h
          · rw [h, HX.out]; exact HY.out), HB1.out⟩
        case measure => simp [intOf]; omega
    · have hmN : m = N := by omega
      subst hmN
      have hdd2 : decide (m < m) = false := by simp
      have hni2 : ¬ (m : Int) < (m : Int) := by omega
      have HNO := Lib.hid hno; have HBE := Lib.hid hb
      clear hno hb
      go_wp2_with fail
      go_ret
      refine ⟨_, rfl, .inl ⟨rfl, fun x hx => ?_⟩, HBE.out⟩
      obtain ⟨j, hj, rfl⟩ := List.getElem_of_mem hx
      have := HNO.out j (by rw [← HN.out]; exact hj)
      rw [List.getD, List.getElem?_eq_getElem hj] at this
      exact this
theorem redHas_any (R X b n : Nat) (B : Nat → Nat) (r : Rq) (a : Option Addr) (c : Nat) (L : List Rq) (w : World) (h : ClR w R X r b n B) (hn : n ≤ 24) (hsm : ∀ i, i < n → B i < 16777216) (hr : 0 ≤ r.2 ∧ r.2 < n) (hin : Inn n L) (hl : L.length ≤ 900) (hL : ReqsAt w a L) :
    Calls Try.prog 39 #[.slice a L.length c, .func (.func 40) #[] #[.pointer (some ⟨R, 0, none⟩), .pointer (some ⟨X, 0, none⟩)]] w (BoolP (L.any (behP B r)) w) := by
  have CI := Lib.hid (redIx_any R X b n B r a c L w h hn hsm hr hin hl hL)
  clear h hsm hr hin hl hL
  go_enter Try.func39, Try.ntmps39
  go_wp2_with fail
  refine (CI.out).mono ?_
  rintro e w1 ⟨q, rfl, hq, hb1⟩
  have HB1 := Lib.hid hb1
  clear hb1 CI
  rcases hq with ⟨rfl, hq⟩ | ⟨hq0, hq⟩
  · have hA : L.any (behP B r) = false := by rw [List.any_eq_false]; intro x hx; rw [hq x hx]; decide
    have HA := Lib.hid hA
    clear hA
    go_wp2_with fail
    go_ret
    exact ⟨by rw [HA.out]; rfl, HB1.out⟩
  · have hA : L.any (behP B r) = true := List.any_eq_true.2 hq
    have HA := Lib.hid hA
    have hd : decide (0 ≤ q) = true := decide_eq_true hq0
    clear hA
    go_wp2_with fail
    go_ret
    exact ⟨by rw [HA.out]; rfl, HB1.out⟩
end Go.Proofs.Ytcppmkimfoajaaa
