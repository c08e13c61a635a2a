/- ledger.until by sort.Search. -/
import Derived.Test.YtogcpjkgliijmaaLedgerW
import Derived.Deep.Cut
import Derived.IntWalk
namespace Go.Proofs.Ytogcpjkgliijmaa
open Go.RowKit

/-- Where the decisions lie that Search looks at: the ledger's box, the day's box, the row. -/
structure UW (W : World) (Bl Bd b o c : Nat) (day : Int) (l : List Dec) : Prop where
  box : W.cell? ⟨Bl, 0, none⟩ = some (.slice (some ⟨b, o, none⟩) l.length c)
  day : W.cell? ⟨Bd, 0, none⟩ = some (.int .i64 day)
  row : Row W b o l
theorem UW.drewN {W : World} {Bl Bd b o c : Nat} {day : Int} {l : List Dec} (h : UW W Bl Bd b o c day l) (n : Nat) : UW (W.drewN n) Bl Bd b o c day l := ⟨h.box, h.day, h.row⟩

set_option maxHeartbeats 1000000 in
theorem until1_any (W : World) (Bl Bd b o c i : Nat) (day : Int) (l : List Dec) (h : UW W Bl Bd b o c day l) (hi : i < l.length) (hl : l.length ≤ 1000) :
    Calls Try.prog 70 #[.int .i64 i, .pointer (some ⟨Bl, 0, none⟩), .pointer (some ⟨Bd, 0, none⟩)] W fun e w' => e = .returned (.bool (decide (day < l[i].day))) ∧ ∃ n, w' = W.drewN n := by
  obtain ⟨h1, h2, h3⟩ := h
  obtain ⟨r0, _⟩ := h3 i hi
  have hi0 : (0 : Int) ≤ (i : Int) := by omega
  have hi1 : (i : Int) < (l.length : Int) := by omega
  clear h3
  go_enter Try.func70, Try.ntmps70
  go_wp2_with fail
  go_quiet (fail)
  go_wp2_with fail
  go_ret
  exact ⟨rfl, _, rfl⟩

/-- How many decisions there are up to a day. -/
def cutN (l : List Dec) (day : Int) : Nat := (l.takeWhile fun d => decide (d.day ≤ day)).length

theorem cutN_le (l : List Dec) (day : Int) : cutN l day ≤ l.length := by
  induction l with
  | nil => simp [cutN]
  | cons d l ih =>
    unfold cutN at ih ⊢
    rw [List.takeWhile_cons]
    split
    · simp only [List.length_cons]; omega
    · simp

theorem cutN_lt (day : Int) : ∀ (l : List Dec) (j : Nat) (hj : j < l.length), (∀ i (hi : i < l.length), i ≤ j → l[i].day ≤ l[j].day) → (j < cutN l day ↔ l[j].day ≤ day) := by
  intro l
  induction l with
  | nil => intro j hj; simp at hj
  | cons d l ih =>
    intro j hj hs
    unfold cutN
    rw [List.takeWhile_cons]
    cases j with
    | zero =>
      simp only [List.getElem_cons_zero]
      by_cases h : d.day ≤ day <;> simp [h]
    | succ j =>
      have h0 := hs 0 (by simp) (by omega)
      simp only [List.getElem_cons_zero, List.getElem_cons_succ] at h0
      simp only [List.getElem_cons_succ]
      have hj' : j < l.length := by simpa using hj
      have := ih j hj' (fun i hi hij => by have := hs (i + 1) (by simp; omega) (by omega); simpa using this)
      unfold cutN at this
      by_cases h : d.day ≤ day
      · simp only [h, decide_true, if_true, List.length_cons]
        rw [← this]; omega
      · have h2 : ¬ l[j].day ≤ day := by omega
        simp [h, h2]

theorem cutN_good {l : List Dec} (hg : Good l) (day : Int) (j : Nat) (hj : j < l.length) : j < cutN l day ↔ l[j].day ≤ day :=
  cutN_lt day l j hj fun i _ hij => (hg.2 i j hj hij).1

theorem drew_more (W : World) (a b : Nat) : (W.drewN a).drewN b = W.drewN (a + b) := World.drewN_drewN W a b

set_option maxHeartbeats 2000000 in
theorem search_any (W : World) (Bl Bd b o c : Nat) (day : Int) (l : List Dec) (h : UW W Bl Bd b o c day l) (hg : Good l) (hl : l.length ≤ 1000) :
    Calls Try.prog 69 #[.int .i64 l.length, .func (.func 70) #[] #[.pointer (some ⟨Bl, 0, none⟩), .pointer (some ⟨Bd, 0, none⟩)]] W fun e w' => e = .returned (.int .i64 (cutN l day)) ∧ ∃ n, w' = W.drewN n := by
  have hle := cutN_le l day
  go_enter Try.func69, Try.ntmps69
  go_wp2_with fail
  go_loopw [5, 6] (fun i j wr => ∃ p q : Nat, i = .int .i64 p ∧ j = .int .i64 q ∧ p ≤ cutN l day ∧ cutN l day ≤ q ∧ q ≤ l.length ∧ ∃ n, wr = W.drewN n) (fun i j _ => (intOf j - intOf i).toNat)
  case atStart => exact ⟨0, l.length, rfl, rfl, Nat.zero_le _, hle, Nat.le_refl _, 0, rfl⟩
  case round =>
    obtain ⟨p, q, rfl, rfl, hp, hq, hql, n, rfl⟩ := hrel
    by_cases hlt : p < q
    · have hm : (p + q) / 2 < l.length := by omega
      have c1 := fun nn => until1_any (W.drewN nn) Bl Bd b o c ((p + q) / 2) day l (h.drewN nn) hm hl
      have hcut := cutN_good hg day ((p + q) / 2) hm
      have hcast : (((p + q) / 2 : Nat) : Int) = ((p : Int) + q) / 2 := by omega
      by_cases hd : l[(p + q) / 2].day ≤ day
      · have hdec : decide (day < l[(p + q) / 2].day) = false := by simp; omega
        rw [hdec, hcast] at c1
        have C1 := Lib.hid c1; clear c1 hdec
        have hc2 := hcut.2 hd
        clear hcut hd
        clear hcast
        go_wp2_with fail
        refine (C1.out n).mono ?_; rintro e w' ⟨rfl, m, rfl⟩
        rw [drew_more]
        go_wp2_with fail
        go_roundw
        case rel => exact ⟨(p + q) / 2 + 1, q, val_i (by omega), rfl, by omega, hq, hql, _, rfl⟩
        case measure => simp [intOf]; omega
      · have hdec : decide (day < l[(p + q) / 2].day) = true := by simp; omega
        rw [hdec, hcast] at c1
        have C1 := Lib.hid c1; clear c1 hdec
        have hc2 : cutN l day ≤ (p + q) / 2 := by
          rcases Nat.lt_or_ge ((p + q) / 2) (cutN l day) with hx | hx
          · exact absurd (hcut.1 hx) hd
          · exact hx
        clear hcut hd
        clear hcast
        go_wp2_with fail
        refine (C1.out n).mono ?_; rintro e w' ⟨rfl, m, rfl⟩
        rw [drew_more]
        go_wp2_with fail
        go_roundw
        case rel => exact ⟨p, (p + q) / 2, rfl, val_i (by omega), hp, hc2, by omega, _, rfl⟩
        case measure => simp [intOf]; omega
    · have hpe : p = cutN l day := by omega
      have HP := Lib.hid hpe; clear hpe
      go_wp2_with fail
      go_ret
      exact ⟨ret_i (by rw [← HP.out]), _, rfl⟩

set_option maxHeartbeats 1000000 in
theorem until_some (w : World) (b o c : Nat) (day : Int) (l : List Dec) (hr : Row w b o l) (hg : Good l) (hl : l.length ≤ 1000) (hc : l.length ≤ c) :
    Calls Try.prog 62 #[.agg #[.slice (some ⟨b, o, none⟩) l.length c], .int .i64 day] w fun e w' => e = .returned (.slice (some ⟨b, o, none⟩) (cutN l day) c) ∧ Below w.heap.size w w' := by
  have hle := cutN_le l day
  have hlc : (cutN l day : Int) ≤ (c : Int) := by omega
  have hl0 : (0 : Int) ≤ (cutN l day : Int) := by omega
  have hW : Below w.heap.size w ((w.alloc (.cells #[.slice (some ⟨b, o, none⟩) l.length c] 25)).alloc (.cells #[.int .i64 day] 3)) := ((Below.refl _ _).alloc (Nat.le_refl _) _).alloc (by simp) _
  have hU : UW ((w.alloc (.cells #[.slice (some ⟨b, o, none⟩) l.length c] 25)).alloc (.cells #[.int .i64 day] 3)) w.heap.size (w.heap.size + 1) b o c day l :=
    ⟨by rw [World.cell?_alloc_lt _ _ _ (by simp)]; simp, by simp, (hr.mono ((Below.refl _ _).alloc (Nat.le_refl _) _)).mono ((Below.refl _ _).alloc (Nat.le_refl _) _)⟩
  have cS := fun nn => search_any (((w.alloc (.cells #[.slice (some ⟨b, o, none⟩) l.length c] 25)).alloc (.cells #[.int .i64 day] 3)).drewN nn) _ _ b o c day l (hU.drewN nn) hg hl
  have CS := Lib.hid cS; clear cS
  have HW := Lib.hid hW; clear hW hU
  generalize cutN l day = k at *
  go_enter Try.func62, Try.ntmps62
  go_wp2_with fail
  go_quiet ((go_at_call 69; exact Calls.quiet_of (CS.out _)))
  go_wp2_with fail
  go_ret
  exact ⟨rfl, below_drewN HW.out _⟩

set_option maxHeartbeats 1000000 in
theorem search_zero (W : World) (f : Value) :
    Calls Try.prog 69 #[.int .i64 0, f] W fun e w' => e = .returned (.int .i64 0) ∧ w' = W := by
  go_enter Try.func69, Try.ntmps69
  go_wp2_with fail
  go_loop [5, 6] (fun i j => i = .int .i64 0 ∧ j = .int .i64 0) (fun _ _ => 0)
  case atStart => exact ⟨rfl, rfl⟩
  case round =>
    obtain ⟨rfl, rfl⟩ := hrel
    go_wp2_with fail
    go_ret
    exact ⟨rfl, rfl⟩

set_option maxHeartbeats 1000000 in
theorem until_none (w : World) (p : Option Addr) (c : Nat) (day : Int) :
    Calls Try.prog 62 #[.agg #[.slice p 0 c], .int .i64 day] w fun e w' => e = .returned (.slice p 0 c) ∧ Below w.heap.size w w' := by
  have hW : Below w.heap.size w ((w.alloc (.cells #[.slice p 0 c] 25)).alloc (.cells #[.int .i64 day] 3)) := ((Below.refl _ _).alloc (Nat.le_refl _) _).alloc (by simp) _
  have cS := fun W f => search_zero W f
  have CS := Lib.hid cS; clear cS
  have HW := Lib.hid hW; clear hW
  go_enter Try.func62, Try.ntmps62
  go_wp2_with fail
  go_quiet ((go_at_call 69; exact Calls.quiet_of_same (CS.out _ _)))
  go_wp2_with fail
  go_ret
  exact ⟨rfl, below_drewN HW.out _⟩

/-- until, of any ledger in order. -/
theorem until_any (w : World) {p : Option Addr} {c : Nat} (day : Int) (l : List Dec) (hg : Good l) (hl : l.length ≤ 1000) (hc : l.length ≤ c) (hr : l = [] ∨ ∃ b o, p = some ⟨b, o, none⟩ ∧ Row w b o l) :
    Calls Try.prog 62 #[.agg #[.slice p l.length c], .int .i64 day] w fun e w' => e = .returned (.slice p (cutN l day) c) ∧ Below w.heap.size w w' := by
  rcases hr with rfl | ⟨b, o, rfl, h⟩
  · exact until_none w p c day
  · exact until_some w b o c day l h hg hl hc
end Go.Proofs.Ytogcpjkgliijmaa
