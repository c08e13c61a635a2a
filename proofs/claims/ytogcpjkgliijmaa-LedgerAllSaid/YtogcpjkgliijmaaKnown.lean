/- ledger.Known. -/
import Derived.Test.YtogcpjkgliijmaaUntil
namespace Go.Proofs.Ytogcpjkgliijmaa
open Go.RowKit

/-- What was known with the first k decisions. -/
def knownK (l : List Dec) (k : Nat) : Int := ((l.take k).getLastD dz).known
theorem knownK_zero (l : List Dec) : knownK l 0 = 0 := by simp [knownK, dz]
theorem knownK_succ {l : List Dec} {k : Nat} (h : k < l.length) : knownK l (k + 1) = l[k].known := by
  unfold knownK
  rw [List.getLastD_eq_getLast?, List.take_succ_eq_append_getElem h, List.getLast?_concat]; rfl
theorem knownK_le {l : List Dec} (hg : Good l) {k : Nat} (h : k < l.length) : 0 ≤ knownK l k ∧ knownK l k ≤ l[k].known ∧ l[k].known ≤ 400 := by
  have hv := validB_true (hg.1 k h)
  rcases Nat.eq_zero_or_pos k with h0 | h0
  · subst h0; rw [knownK_zero]; omega
  · obtain ⟨m, rfl⟩ : ∃ m, k = m + 1 := ⟨k - 1, by omega⟩
    rw [knownK_succ (by omega)]
    have := hg.2 m (m + 1) h (by omega)
    have hm := validB_true (hg.1 m (by omega))
    omega

set_option maxHeartbeats 2000000 in
theorem known_any (w : World) {p : Option Addr} {c : Nat} (day : Int) (l : List Dec) (hg : Good l) (hl : l.length ≤ 1000) (hc : l.length ≤ c) (hr : l = [] ∨ ∃ b o, p = some ⟨b, o, none⟩ ∧ Row w b o l) :
    Calls Try.prog 30 #[.agg #[.slice p l.length c], .int .i64 day] w fun e w' => e = .returned (.int .i64 (knownK l (cutN l day))) ∧ Below w.heap.size w w' := by
  have hbx : Below w.heap.size w (w.alloc (.cells #[.slice p l.length c] 25)) := (Below.refl _ _).alloc (Nat.le_refl _) _
  have hcut := cutN_le l day
  have cU := until_any (w.alloc (.cells #[.slice p l.length c] 25)) (p := p) (c := c) day l hg hl hc (by
    rcases hr with h | ⟨b, o, hp, h⟩
    · exact .inl h
    · exact .inr ⟨b, o, hp, h.mono hbx⟩)
  generalize cutN l day = m at *
  go_enter Try.func30, Try.ntmps30
  go_wp2_with fail
  refine cU.mono ?_
  rintro e w1 ⟨rfl, hb1⟩
  clear cU
  have hb1 := below_step hbx hb1
  go_wp2_with fail
  go_loopw [12, 5] (fun i kn wr => ∃ k : Nat, k ≤ m ∧ i = .int .i64 k ∧ kn = .int .i64 (knownK l k) ∧ Below w.heap.size w wr) (fun i _ _ => m - (intOf i).toNat)
  case atStart => exact ⟨0, Nat.zero_le _, rfl, by rw [knownK_zero], hb1⟩
  case round =>
    obtain ⟨k, hk, rfl, rfl, hb⟩ := hrel
    by_cases hlt : k < m
    · rcases hr with h | ⟨b, o, hp, hrow⟩
      · subst h; simp at hcut; omega
      subst hp
      obtain ⟨c0, c1, c2, c3, c4⟩ := (hrow.mono hb) k (by omega)
      obtain ⟨g0, g1, g2⟩ := knownK_le hg (k := k) (by omega)
      have hs := Lib.hid (knownK_succ (l := l) (k := k) (by omega))
      have HB := Lib.hid hb
      have hsz := hb.size
      clear hb hb1 hrow
      have hif : (if knownK l k < l[k].known then l[k].known else knownK l k) = knownK l (k + 1) := by
        rw [hs.out]; split <;> omega
      have HIF := Lib.hid hif; clear hif
      go_wp2_with fail
      go_roundw
      case rel => exact ⟨k + 1, by omega, by go_num, val_i HIF.out, HB.out.alloc hsz _⟩
      case measure => simp [intOf]; omega
    · have hkm : k = m := by omega
      have HK := Lib.hid hkm; clear hkm
      go_wp2_with fail
      go_ret
      exact ⟨ret_i (by rw [← HK.out]), hb⟩
end Go.Proofs.Ytogcpjkgliijmaa
