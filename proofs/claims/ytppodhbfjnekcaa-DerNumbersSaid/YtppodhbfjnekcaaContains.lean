/- slices.ContainsFunc at der.unprintable. -/
import Derived.Test.YtppodhbfjnekcaaText
namespace Go.Proofs.Ytppodhbfjnekcaa
open Go.RowKit

/-- A byte that is none of a text. -/
def unp (b : UInt8) : Bool := decide (b.toNat < 32) || decide (126 < b.toNat)

set_option maxHeartbeats 400000 in
theorem unp_any (b : UInt8) (w : World) :
    Calls Try.prog 55 #[.int .u8 (b.toNat : Int)] w fun e w' => e = .returned (.bool (unp b)) ∧ w' = w := by
  have key : ∀ r, unp b = r → Calls Try.prog 55 #[.int .u8 (b.toNat : Int)] w fun e w' => e = .returned (.bool r) ∧ w' = w := by
    intro r hr
    have HR := Lib.hid hr; clear hr
    by_cases h1 : (b.toNat : Int) < 32
    · go_enter Try.func55, Try.ntmps55
      go_wp2
      go_ret
      refine ⟨?_, rfl⟩
      rw [← HR.out]; simp [unp]; omega
    · by_cases h2 : (126 : Int) < (b.toNat : Int)
      · go_enter Try.func55, Try.ntmps55
        go_wp2
        go_ret
        refine ⟨?_, rfl⟩
        rw [← HR.out]; simp [unp]; omega
      · go_enter Try.func55, Try.ntmps55
        go_wp2
        go_ret
        refine ⟨?_, rfl⟩
        rw [← HR.out]; simp [unp]; omega
  exact key _ rfl

/-- What IndexFunc says. -/
def Idx (l : List UInt8) (w : World) (e : Ending) (w' : World) : Prop := ∃ r : Int, e = .returned (.int .i64 r) ∧ decide (0 ≤ r) = l.any unp ∧ w' = w

theorem idx_hit {l : List UInt8} {k : Nat} {x : UInt8} (w : World) (hk : k < l.length) (hx : x = l.getD k 0) (h : unp x = true) : Idx l w (.returned (.int .i64 k)) w := by
  refine ⟨k, rfl, ?_, rfl⟩
  have : l.any unp = true := by
    rw [List.any_eq_true]
    refine ⟨x, ?_, h⟩
    rw [hx]; simp [List.getD, hk]
  rw [this]; simp

theorem idx_none {l : List UInt8} (w : World) (h : l.any unp = false) : Idx l w (.returned (.int .i64 (-1))) w := ⟨-1, rfl, by rw [h]; rfl, rfl⟩

set_option maxHeartbeats 1000000 in
theorem index_walk (b o n c : Nat) (l : List UInt8) (w : World) (hl : l.length = n) (hm : n ≤ 9223372036854775807) (hc : ∀ j, j < n → w.cell? ⟨b, o + j, none⟩ = some (.int .u8 (l.getD j 0).toNat)) :
    Calls Try.prog 67 #[.slice (some ⟨b, o, none⟩) n c, .func (.func 55) #[] #[]] w (Idx l w) := by
  have HC := Lib.hid hc; clear hc
  have HL := Lib.hid hl; clear hl
  go_enter Try.func67, Try.ntmps67
  go_wp2_with fail
  go_loop [8] (fun i => ∃ k : Nat, k ≤ n ∧ i = .int .i64 k ∧ Hid ((l.take k).any unp = false)) (fun i => n - (intOf i).toNat)
  case atStart => exact ⟨0, by omega, rfl, Lib.hid (by simp)⟩
  case round =>
    obtain ⟨k, hk, rfl, HK⟩ := hrel
    by_cases hlt : k < n
    · obtain ⟨x, hx⟩ : ∃ x, x = l.getD k 0 := ⟨_, rfl⟩
      have ck := HC.out k hlt
      rw [← hx] at ck
      have HX2 := Lib.hid hx; clear hx
      cases hu : unp x
      · have hcon := unp_any x w
        rw [hu] at hcon
        have HU := Lib.hid hu; clear hu
        go_wp2_with (go_at_call 55; refine hcon.mono ?_; rintro e w' ⟨rfl, rfl⟩)
        go_round
        case rel => 
          refine ⟨k + 1, by omega, by go_num, Lib.hid ?_⟩
          rw [take_snoc l k (by rw [HL.out]; exact hlt), List.any_append, HK.out, ← HX2.out]
          simp [HU.out]
        case measure => simp [intOf]; omega
      · have hcon := unp_any x w
        rw [hu] at hcon
        have HU := Lib.hid hu; clear hu
        go_wp2_with (go_at_call 55; refine hcon.mono ?_; rintro e w' ⟨rfl, rfl⟩)
        go_ret
        exact idx_hit _ (by rw [HL.out]; exact hlt) HX2.out HU.out
    · go_wp2
      go_ret
      refine idx_none _ ?_
      have := HK.out
      rwa [List.take_of_length_le (by rw [HL.out]; omega)] at this

set_option maxHeartbeats 1000000 in
theorem index_nil (p : Option Addr) (c : Nat) (w : World) :
    Calls Try.prog 67 #[.slice p 0 c, .func (.func 55) #[] #[]] w (Idx [] w) := by
  go_enter Try.func67, Try.ntmps67
  go_wp2_with fail
  refine wp_loop_rounds 1 ?_; rw [rounds_succ]
  go_wp2
  go_ret
  exact idx_none _ rfl

theorem index_any {v : Value} {l : List UInt8} (w : World) (h : Bts w v l) : Calls Try.prog 67 #[v, .func (.func 55) #[] #[]] w (Idx l w) := by
  obtain ⟨p, c, rfl, hm, h⟩ := h
  rcases h with h | ⟨b, o, rfl, h⟩
  · subst h; exact index_nil p c w
  · exact index_walk b o l.length c l w rfl hm h

set_option maxHeartbeats 1000000 in
theorem contains_any {v : Value} {l : List UInt8} (w : World) (h : Bts w v l) : Calls Try.prog 54 #[v, .func (.func 55) #[] #[]] w fun e w' => e = .returned (.bool (l.any unp)) ∧ w' = w := by
  have hi := index_any w h
  clear h
  go_enter Try.func54, Try.ntmps54
  go_wp2_with fail
  refine hi.mono ?_
  rintro e w' ⟨r, rfl, hr, rfl⟩
  cases ha : l.any unp
  all_goals
    rw [ha] at hr
    have HA := Lib.hid ha; clear ha
    go_wp2
    go_ret
    exact ⟨by rw [HA.out]; rfl, rfl⟩
end Go.Proofs.Ytppodhbfjnekcaa
