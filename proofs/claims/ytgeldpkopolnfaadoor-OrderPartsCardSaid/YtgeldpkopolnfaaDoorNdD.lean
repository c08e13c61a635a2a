/- ref28.Union. -/
import Derived.Test.YtgeldpkopolnfaaDoorNdC
namespace Go.Proofs.YtgeldpkopolnfaaDoor
open Go.RowKit
set_option linter.all false

theorem putL_length (L : List Rq) (r : Rq) : (putL L r).length ≤ L.length + 1 := by
  unfold putL
  split
  · omega
  · rw [List.length_append, List.length_append, List.length_take, List.length_drop]
    simp; omega
def foldP (L : List Rq) (M : List Rq) : List Rq := M.foldl putL L
theorem foldP_length (L M : List Rq) : (foldP L M).length ≤ L.length + M.length := by
  unfold foldP
  induction M generalizing L with
  | nil => simp
  | cons x M ih =>
    have := ih (putL L x)
    have h2 := putL_length L x
    simp only [List.foldl_cons, List.length_cons]
    omega
theorem foldP_snoc (L M : List Rq) (k : Nat) (hk : k < M.length) : foldP L (M.take (k + 1)) = putL (foldP L (M.take k)) (M.getD k rq0) := by
  unfold foldP
  rw [List.take_succ, List.getElem?_eq_getElem hk, List.foldl_append]
  simp [List.getD, hk]
def unionL (A B : List Rq) : List Rq := foldP (foldP [] A) B

/-- A slice of requirements. -/
def SlR (n : Nat) (W : World) (v : Value) (L : List Rq) : Prop := ∃ a c, v = .slice a L.length c ∧ L.length ≤ c ∧ ReqsAt W a L ∧ ∀ b o, a = some ⟨b, o, none⟩ → n ≤ b
def LstP (L : List Rq) (w : World) (e : Ending) (w' : World) : Prop := ∃ a c, e = .returned (.slice a L.length c) ∧ L.length ≤ c ∧ ReqsAt w' a L ∧ Below w.heap.size w w' ∧ ∀ b o, a = some ⟨b, o, none⟩ → w.heap.size ≤ b

set_option maxRecDepth 100000 in
set_option maxHeartbeats 4000000 in
theorem refUnion_any (a b : Option Addr) (c d : Nat) (L M : List Rq) (w : World) (hl : L.length ≤ 400) (hm : M.length ≤ 400) (hL : ReqsAt w a L) (hM : ReqsAt w b M) :
    Calls Tryd.prog 22 #[.slice a L.length c, .slice b M.length d] w (LstP (unionL L M) w) := by
  have HL := Lib.hid hL; have HM := Lib.hid hM
  obtain ⟨N, hN⟩ : ∃ N, L.length = N := ⟨_, rfl⟩
  obtain ⟨N2, hN2⟩ : ∃ N2, M.length = N2 := ⟨_, rfl⟩
  have HN := Lib.hid hN; have HN2 := Lib.hid hN2
  rw [hN] at hl ⊢
  rw [hN2] at hm ⊢
  clear hL hM hN hN2
  go_enter Tryd.func22, Tryd.ntmps22
  go_wp2_with fail
  go_loopw [5, 7, 12] (fun v _ kv wr => ∃ k : Nat, kv = .int .i64 (k : Int) ∧ k ≤ N ∧ SlR w.heap.size wr v (foldP [] (L.take k)) ∧ Below w.heap.size w wr) (fun _ _ kv _ => N - (intOf kv).toNat)
  case atStart => exact ⟨0, rfl, Nat.zero_le _, ⟨none, 0, rfl, Nat.le_refl _, ReqsAt.nil _ _, fun b o e => by cases e⟩, Below.refl _ _⟩
  case round =>
    obtain ⟨k, rfl, hk, hS, hb⟩ := hrel
    have hlen := foldP_length [] (L.take k)
    rw [List.length_take] at hlen
    simp only [List.length_nil, Nat.zero_add] at hlen
    by_cases hlt : k < N
    · obtain ⟨b1, o1, hp1, c0, c1⟩ := HL.out k (by rw [HN.out]; exact hlt)
      subst hp1
      have c0 := cell_later' hb c0
      have c1 := cell_later' hb c1
      have hi0 : (0 : Int) ≤ (k : Int) := by omega
      have hi2 : (k : Int) < (N : Int) := by omega
      have hdd : decide (k < N) = true := decide_eq_true hlt
      have hsn := foldP_snoc [] L k (by rw [HN.out]; exact hlt)
      obtain ⟨x, hx⟩ : ∃ x, L.getD k rq0 = x := ⟨_, rfl⟩
      rw [hx] at c0 c1 hsn
      obtain ⟨x1, x2⟩ := x
      dsimp only at c0 c1
      obtain ⟨av, cv, e, hcv, hrv, hnv⟩ := hS
      have hb2 := (Below.refl wr.heap.size wr).alloc (Nat.le_refl _) (.cells #[.int .i64 x1, .int .i64 x2] 47)
      have CP := Lib.hid (put_any av cv (foldP [] (L.take k)) x1 x2 _ (by omega) hcv (hrv.step hb2))
      rw [← hsn] at CP
      have HBE := Lib.hid hb; have HB2 := Lib.hid hb2; have HNV := Lib.hid hnv
      clear hnv hb hrv hb2 hsn hlen hcv hx
      subst e
      generalize (foldP [] (L.take k)).length = nn at *
      go_wp2_with fail
      refine (CP.out).mono ?_
      rintro e w1 ⟨a1, c1', rfl, hc1, hr1, hb1, hn1⟩
      have HB1 := Lib.hid (HBE.out.trans ((HB2.out.trans (hb1.mono (by simp))).mono HBE.out.size))
      have HN1 := Lib.hid (fun b o (e : a1 = some ⟨b, o, none⟩) => show w.heap.size ≤ b from by
        rcases hn1 b o e with h | h
        · exact HNV.out b o h
        · have := HBE.out.size; simp at h; omega)
      have HR1 := Lib.hid hr1; have HC1 := Lib.hid hc1
      clear hn1
      clear hr1 hc1 hb1
      go_wp2_with fail
      go_roundw
      case rel => exact ⟨k + 1, by go_num, by omega, ⟨a1, c1', rfl, HC1.out, HR1.out, HN1.out⟩, HB1.out⟩
      case measure => simp [intOf]; omega
    · have hkN : k = N := by omega
      subst hkN
      have hdd : decide (k < k) = false := by simp
      have hni : ¬ (k : Int) < (k : Int) := by omega
      rw [List.take_of_length_le (by rw [HN.out]; exact Nat.le_refl _)] at hS hlen
      have HS := Lib.hid hS; have HBE := Lib.hid hb
      clear hS hb
      go_wp2_with fail
      go_loopw [5, 9, 22] (fun v _ kv wr2 => ∃ j : Nat, kv = .int .i64 (j : Int) ∧ j ≤ N2 ∧ SlR w.heap.size wr2 v (foldP (foldP [] L) (M.take j)) ∧ Below w.heap.size w wr2) (fun _ _ kv _ => N2 - (intOf kv).toNat)
      case atStart => exact ⟨0, rfl, Nat.zero_le _, HS.out, HBE.out⟩
      case round =>
        clear HS HBE
        obtain ⟨j, rfl, hj, hS, hb⟩ := hrel
        have hlen2 := foldP_length (foldP [] L) (M.take j)
        rw [List.length_take] at hlen2
        by_cases hlt2 : j < N2
        · obtain ⟨b1, o1, hp1, c0, c1⟩ := HM.out j (by rw [HN2.out]; exact hlt2)
          subst hp1
          have c0 := cell_later' hb c0
          have c1 := cell_later' hb c1
          have hi0 : (0 : Int) ≤ (j : Int) := by omega
          have hi2 : (j : Int) < (N2 : Int) := by omega
          have hdd2 : decide (j < N2) = true := decide_eq_true hlt2
          have hsn := foldP_snoc (foldP [] L) M j (by rw [HN2.out]; exact hlt2)
          obtain ⟨x, hx⟩ : ∃ x, M.getD j rq0 = x := ⟨_, rfl⟩
          rw [hx] at c0 c1 hsn
          obtain ⟨x1, x2⟩ := x
          dsimp only at c0 c1
          obtain ⟨av, cv, e, hcv, hrv, hnv⟩ := hS
          have hb2 := (Below.refl wr.heap.size wr).alloc (Nat.le_refl _) (.cells #[.int .i64 x1, .int .i64 x2] 47)
          have CP := Lib.hid (put_any av cv (foldP (foldP [] L) (M.take j)) x1 x2 _ (by omega) hcv (hrv.step hb2))
          rw [← hsn] at CP
          have HBE := Lib.hid hb; have HB2 := Lib.hid hb2; have HNV := Lib.hid hnv
          clear hnv hb hrv hb2 hsn hlen2 hcv hx hlen
          subst e
          generalize (foldP (foldP [] L) (M.take j)).length = nn at *
          go_wp2_with fail
          refine (CP.out).mono ?_
          rintro e w1 ⟨a1, c1', rfl, hc1, hr1, hb1, hn1⟩
          have HB1 := Lib.hid (HBE.out.trans ((HB2.out.trans (hb1.mono (by simp))).mono HBE.out.size))
          have HN1 := Lib.hid (fun b o (e : a1 = some ⟨b, o, none⟩) => show w.heap.size ≤ b from by
            rcases hn1 b o e with h | h
            · exact HNV.out b o h
            · have := HBE.out.size; simp at h; omega)
          have HR1 := Lib.hid hr1; have HC1 := Lib.hid hc1
          clear hn1
          clear hr1 hc1 hb1
          go_wp2_with fail
          go_roundw
          case rel => exact ⟨j + 1, by go_num, by omega, ⟨a1, c1', rfl, HC1.out, HR1.out, HN1.out⟩, HB1.out⟩
          case measure => simp [intOf]; omega
        · have hjN : j = N2 := by omega
          subst hjN
          have hdd2 : decide (j < j) = false := by simp
          have hni2 : ¬ (j : Int) < (j : Int) := by omega
          rw [List.take_of_length_le (by rw [HN2.out]; exact Nat.le_refl _)] at hS
          obtain ⟨av, cv, e, hcv, hrv, hnv⟩ := hS
          have HR := Lib.hid hrv; have HC := Lib.hid hcv; have HBE := Lib.hid hb; have HNV := Lib.hid hnv
          clear hnv hrv hcv hb hlen2 hlen
          subst e
          go_wp2_with fail
          go_ret
          exact ⟨av, cv, rfl, HC.out, HR.out, HBE.out, HNV.out⟩
end Go.Proofs.YtgeldpkopolnfaaDoor
