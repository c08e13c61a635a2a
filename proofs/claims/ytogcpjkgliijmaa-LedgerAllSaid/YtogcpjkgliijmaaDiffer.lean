/- ledger.Differ of a beginning and the whole. -/
import Derived.Test.YtogcpjkgliijmaaEq
namespace Go.Proofs.Ytogcpjkgliijmaa
open Go.RowKit

set_option maxHeartbeats 2000000 in
theorem differ_walk (w : World) (pa pb : Option Addr) (ca cb m : Nat) (l : List Dec) (ha : Reads w pa (l.take m)) (hb : Reads w pb l) (hm : m ≤ l.length) (hl : l.length ≤ 1000) :
    Calls Try.prog 25 #[.agg #[.slice pa m ca], .agg #[.slice pb l.length cb]] w fun e w' => e = .returned (.tuple #[.int .i64 (if m = l.length then 0 else m), .bool (decide (m < l.length))]) ∧ Below w.heap.size w w' := by
  have hW : Below w.heap.size w ((w.alloc (.cells #[.slice pa m ca] 25)).alloc (.cells #[.slice pb l.length cb] 25)) := ((Below.refl _ _).alloc (Nat.le_refl _) _).alloc (by simp) _
  have hW0 : ((w.alloc (.cells #[.slice pa m ca] 25)).alloc (.cells #[.slice pb l.length cb] 25)).cell? ⟨w.heap.size, 0, none⟩ = some (.slice pa m ca) := by rw [World.cell?_alloc_lt _ _ _ (by simp)]; simp
  have hW1 : ((w.alloc (.cells #[.slice pa m ca] 25)).alloc (.cells #[.slice pb l.length cb] 25)).cell? ⟨w.heap.size + 1, 0, none⟩ = some (.slice pb l.length cb) := by simp
  obtain ⟨W, hWe⟩ : ∃ W, W = (w.alloc (.cells #[.slice pa m ca] 25)).alloc (.cells #[.slice pb l.length cb] 25) := ⟨_, rfl⟩
  have HA := Lib.hid (ha.mono hW); have HB := Lib.hid (hb.mono hW); have HW := Lib.hid hW; have HW0 := Lib.hid hW0; have HW1 := Lib.hid hW1
  rw [← hWe] at HA HB HW HW0 HW1
  have HWE := Lib.hid hWe
  clear ha hb hW hW0 hW1 hWe
  have hml : (m : Int) ≤ (l.length : Int) := by omega
  have body : ∀ (k : Nat), k < m → ∀ W', (∃ n, W' = W.drewN n) → ∃ (b o b2 o2 : Nat) (hk : k < l.length), pa = some ⟨b, o, none⟩ ∧ pb = some ⟨b2, o2, none⟩ ∧
      (W'.cell? ⟨b, o + k * 5, none⟩ = some (.int .i64 l[k].day) ∧ W'.cell? ⟨b, o + k * 5 + 1, none⟩ = some (.int .i64 l[k].known) ∧ W'.cell? ⟨b, o + k * 5 + 2, none⟩ = some (.int .i64 l[k].kind) ∧ W'.cell? ⟨b, o + k * 5 + 3, none⟩ = some (.int .i64 l[k].subj) ∧ W'.cell? ⟨b, o + k * 5 + 4, none⟩ = some (.int .i64 l[k].value)) ∧
      (W'.cell? ⟨b2, o2 + k * 5, none⟩ = some (.int .i64 l[k].day) ∧ W'.cell? ⟨b2, o2 + k * 5 + 1, none⟩ = some (.int .i64 l[k].known) ∧ W'.cell? ⟨b2, o2 + k * 5 + 2, none⟩ = some (.int .i64 l[k].kind) ∧ W'.cell? ⟨b2, o2 + k * 5 + 3, none⟩ = some (.int .i64 l[k].subj) ∧ W'.cell? ⟨b2, o2 + k * 5 + 4, none⟩ = some (.int .i64 l[k].value)) := by
    rintro k hk W' ⟨n, rfl⟩
    have hkl : k < l.length := by omega
    have hkt : k < (l.take m).length := by simp; omega
    rcases HA.out with h | ⟨b, o, hp, ra⟩
    · rw [h] at hkt; simp at hkt
    rcases HB.out with h | ⟨b2, o2, hp2, rb⟩
    · rw [h] at hkl; simp at hkl
    have r1 := ra k hkt
    have e : (l.take m)[k] = l[k] := by simp
    rw [e] at r1
    exact ⟨b, o, b2, o2, hkl, hp, hp2, r1, rb k hkl⟩
  have BODY := Lib.hid body; clear body
  by_cases hml2 : m = l.length
  · subst hml2
    rw [if_pos rfl, decide_eq_false (by omega)]
    go_enter Try.func25, Try.ntmps25
    go_wp2_with fail
    rw [← HWE.out]
    go_loopw [16] (fun i wr => ∃ k : Nat, k ≤ l.length ∧ i = .int .i64 k ∧ ∃ n, wr = W.drewN n) (fun i _ => l.length - (intOf i).toNat)
    case atStart => exact ⟨0, Nat.zero_le _, rfl, 0, rfl⟩
    case round =>
      obtain ⟨k, hk, rfl, n, rfl⟩ := hrel
      have h0 := HW0.out
      have h1 := HW1.out
      have hee : ((l.length : Int) == (l.length : Int)) = true := by simp
      by_cases hkl : k < l.length
      · obtain ⟨b, o, b2, o2, _, rfl, rfl, ⟨a0, a1, a2, a3, a4⟩, b0, b1, b2', b3, b4⟩ := BODY.out k hkl W ⟨0, rfl⟩
        have hi0 : (0 : Int) ≤ (k : Int) := by omega
        have hi1 : (k : Int) < (l.length : Int) := by omega
        go_wp2_with fail
        go_quiet (fail)
        go_wp2_with fail
        go_roundw
        case rel => exact ⟨k + 1, by omega, by go_num, _, rfl⟩
        case measure => simp [intOf]; omega
      · go_wp2_with fail
        go_ret2
        exact ⟨rfl, below_drewN HW.out _⟩
  · have hlt : m < l.length := by omega
    rw [if_neg hml2, decide_eq_true hlt]
    have hlti : (m : Int) < (l.length : Int) := by omega
    go_enter Try.func25, Try.ntmps25
    go_wp2_with fail
    rw [← HWE.out]
    go_loopw [16] (fun i wr => ∃ k : Nat, k ≤ m ∧ i = .int .i64 k ∧ ∃ n, wr = W.drewN n) (fun i _ => m - (intOf i).toNat)
    case atStart => exact ⟨0, Nat.zero_le _, rfl, 0, rfl⟩
    case round =>
      obtain ⟨k, hk, rfl, n, rfl⟩ := hrel
      have h0 := HW0.out
      have h1 := HW1.out
      have hee : ((m : Int) == (l.length : Int)) = false := by rw [beq_eq_false_iff_ne]; omega
      by_cases hkl : k < m
      · obtain ⟨b, o, b2, o2, _, rfl, rfl, ⟨a0, a1, a2, a3, a4⟩, b0, b1, b2', b3, b4⟩ := BODY.out k hkl W ⟨0, rfl⟩
        have hi0 : (0 : Int) ≤ (k : Int) := by omega
        have hi1 : (k : Int) < (m : Int) := by omega
        have hi2 : (k : Int) < (l.length : Int) := by omega
        go_wp2_with fail
        go_quiet (fail)
        go_wp2_with fail
        go_roundw
        case rel => exact ⟨k + 1, by omega, by go_num, _, rfl⟩
        case measure => simp [intOf]; omega
      · go_wp2_with fail
        go_ret2
        exact ⟨rfl, below_drewN HW.out _⟩

theorem differ_any (w : World) (pa pb : Option Addr) (ca cb m : Nat) (l : List Dec) (ha : Reads w pa (l.take m)) (hb : Reads w pb l) (hm : m ≤ l.length) (hl : l.length ≤ 1000) {r : Int} {q : Bool} (hr : r = if m = l.length then 0 else (m : Int)) (hq : q = decide (m < l.length)) :
    Calls Try.prog 25 #[.agg #[.slice pa m ca], .agg #[.slice pb l.length cb]] w fun e w' => e = .returned (.tuple #[.int .i64 r, .bool q]) ∧ Below w.heap.size w w' := by
  subst hr; subst hq
  exact differ_walk w pa pb ca cb m l ha hb hm hl
end Go.Proofs.Ytogcpjkgliijmaa
