/- Both Adds of any list: the error of the list comes first. -/
import Derived.Test.YtogcpjkgliijmaaRAdd
import Derived.Test.YtogcpjkgliijmaaRChkAny
namespace Go.Proofs.Ytogcpjkgliijmaa
open Go.RowKit

theorem foll_of_chk {l : List Dec} : ∀ n k, k + n = l.length → chk (lastOf l k) (l.drop k) = 0 → ∀ i (h : i < l.length), k ≤ i → foll (lastOf l i) l[i] = 0 := by
  intro n
  induction n with
  | zero => intro k hk _ i h hi; omega
  | succ n ih =>
    intro k hk hc i h hi
    rw [chk_step l k (by omega)] at hc
    split at hc
    · rename_i h0
      rcases Nat.lt_or_ge k i with hlt | hge
      · exact ih (k + 1) (by omega) hc i h hlt
      · have : i = k := by omega
        subst this; exact h0
    · rename_i h0; exact absurd hc h0

theorem good_of_chk {l : List Dec} (h : chk none l = 0) : Good l := by
  have hf := fun i hi => foll_of_chk (l := l) l.length 0 (by omega) (by rw [lastOf_zero]; exact h) i hi (Nat.zero_le _)
  have hok : ∀ i (hi : i < l.length), l[i].ok = true := by
    intro i hi
    cases hd : l[i].ok
    · have := hf i hi
      rw [foll_bad hd] at this; exact absurd this (by decide)
    · rfl
  refine ⟨hok, ?_⟩
  intro i j hj hij
  induction j with
  | zero =>
    have : i = 0 := by omega
    subst this; omega
  | succ j ih =>
    rcases Nat.lt_or_ge i (j + 1) with hlt | hge
    · have h1 := ih (by omega) (by omega)
      have h2 := hf (j + 1) hj
      rw [lastOf_succ l j (by omega), foll_some (hok _ hj)] at h2
      split at h2
      · exact absurd h2 (by decide)
      · rename_i hn
        simp only [Bool.or_eq_true, decide_eq_true_eq] at hn
        omega
    · have : i = j + 1 := by omega
      subst this; omega

/-- The error of a list. -/
def errN (l : List Dec) : Int := if 128 < l.length then 3 else chk none l

theorem check_err (w : World) {p : Option Addr} {c : Nat} (l : List Dec) (hc : l.length ≤ c) (hr : Reads w p l) :
    Calls Try.prog 22 #[.agg #[.slice p l.length c]] w fun r w' => r = .returned (.int .i64 (errN l)) ∧ Below w.heap.size w w' := by
  unfold errN
  by_cases h : 128 < l.length
  · rw [if_pos h]; exact check_long p l.length c w (by rw [decide_eq_true_eq]; omega)
  · rw [if_neg h]; exact check_any w l (by omega) hc hr

theorem refcheck_err (w : World) {p : Option Addr} {c : Nat} (l : List Dec) (hr : Reads w p l) :
    Calls Try.prog 23 #[.agg #[.slice p l.length c]] w fun r w' => r = .returned (.int .i64 (errN l)) ∧ Below w.heap.size w w' := by
  unfold errN
  by_cases h : 128 < l.length
  · rw [if_pos h]; exact refcheck_long p l.length c w (by rw [decide_eq_true_eq]; omega)
  · rw [if_neg h]; exact refcheck_any w l (by omega) hr

/-- What Add answers. -/
def addR (l : List Dec) (d : Dec) : Int := if errN l = 0 then addN l d else errN l
def addL (l : List Dec) (d : Dec) : List Dec := if addR l d = 0 then l ++ [d] else l

set_option maxHeartbeats 4000000 in
theorem add_err (w : World) {E : Int} {p : Option Addr} {c : Nat} (l : List Dec) (d : Dec) (hl : l.length ≤ 1000) (hr : Reads w p l) (hE : Hid (E = errN l)) (h0 : E ≠ 0) :
    Calls Try.prog 19 #[.agg #[.slice p l.length c], d.val] w (AddPost w l E) := by
  obtain ⟨B, hB⟩ : ∃ B, B = w.heap.size := ⟨_, rfl⟩
  have hW0 : Below w.heap.size w (((w.alloc (.cells #[.slice p l.length c] 25)).alloc (.cells (cells5 d).toArray 27)).alloc (.cells #[.slice none 0 0] 25)) := (((Below.refl _ _).alloc (Nat.le_refl _) _).alloc (by simp) _).alloc (by simp; omega) _
  have cC := clone_any (((w.alloc (.cells #[.slice p l.length c] 25)).alloc (.cells (cells5 d).toArray 27)).alloc (.cells #[.slice none 0 0] 25)) (p := p) (c := c) l (by omega) (hr.mono hW0)
  have CC := Lib.hid cC; clear cC hW0 hr
  have hnb : (E != 0) = true := by simpa using h0
  unfold Dec.val
  go_enter Try.func19, Try.ntmps19
  go_wp2_with fail
  refine CC.out.mono ?_
  rintro e W ⟨v, rfl, hown, hb⟩
  have hz : (((w.alloc (.cells #[.slice p l.length c] 25)).alloc (.cells (cells5 d).toArray 27)).alloc (.cells #[.slice none 0 0] 25)).heap.size = B + 3 := by simp; omega
  rw [hz] at hown hb
  have hA := add_start w hB l d hown hb
  have h5 : W.heap[B]? = some (.cells #[.slice p l.length c] 25 (0, 0)) := by
    rw [hb.block _ (by omega), hB, heap_alloc_old _ _ (by simp; omega), heap_alloc_old _ _ (by simp)]; exact heap_alloc_new _ _
  have hx0 : W.cell? ⟨B, 0, none⟩ = some (.slice p l.length c) := by rw [cell_of_row _ B 0 _ _ _ h5]; rfl
  have hf0 : W.frozen? ⟨B, 0, none⟩ = false := by simp [World.frozen?, h5]
  clear h5
  rw [← hB]
  obtain ⟨a, cap, rfl⟩ : ∃ a cap, v = .slice a l.length cap := by
    rcases hown.2 with ⟨hv, h0⟩ | ⟨q, cap, cur, hv, _⟩
    · exact ⟨none, 0, by rw [hv, h0]⟩
    · exact ⟨_, cap, hv⟩
  clear hown hb hz CC
  have HA := Lib.hid hA; clear hA
  have HB := Lib.hid hB; clear hB
  dsimp only
  refine ‹∀ (a : Act) (w : World), wpList Try.prog _ _ _ a w → _› _ _ ?_
  go_upto_region 2 with (fail)
  generalize W.setCell ⟨B, 0, none⟩ (.slice a l.length cap) = W1 at HA
  clear hx0 hf0
  have hrow : l.length ≤ cap ∧ Reads W1 a l := by
    obtain ⟨p', c', hv, hc, hx⟩ := dv_of_own HA.out.own
    injection hv with h1 _ h3
    subst h1; subst h3
    refine ⟨hc, ?_⟩
    rcases hx with hx | ⟨b, hp, _, hrow⟩
    · exact .inl hx
    · exact .inr ⟨b, 0, hp, hrow⟩
  have cK := check_err W1 (p := a) (c := cap) l hrow.1 hrow.2
  rw [← hE.out] at cK
  have e0 := HA.out.b0
  have r0 := cell_of_row _ B 0 _ _ _ e0
  simp at r0
  have CK := Lib.hid cK; clear cK hrow e0 h0
  go_wp2_with fail
  refine CK.out.mono ?_
  rintro e W2 ⟨rfl, hb2⟩
  have hA2 := HA.out.below_ hb2
  have HA2 := Lib.hid hA2; clear hA2 HA hb2 r0
  have e0 := HA2.out.b0
  have e2 := HA2.out.b2
  have r0 := cell_of_row _ B 0 _ _ _ e0
  have r2 := cell_of_row _ (B + 1 + 1) 0 _ _ _ e2
  have f2 : W2.frozen? ⟨B + 1 + 1, 0, none⟩ = false := by simp [World.frozen?, e2]
  simp at r0 r2
  clear e0 e2 CK
  go_wp2_with fail
  exact add_fin HA2.out rfl rfl rfl

theorem add_all (w : World) {p : Option Addr} {c : Nat} (l : List Dec) (d : Dec) (hl : l.length ≤ 1000) (hr : Reads w p l) :
    Calls Try.prog 19 #[.agg #[.slice p l.length c], d.val] w (AddPost w (addL l d) (addR l d)) := by
  by_cases h0 : errN l = 0
  · have hlen : l.length ≤ 128 := by
      unfold errN at h0
      split at h0
      · exact absurd h0 (by decide)
      · omega
    have hg : Good l := by
      unfold errN at h0
      rw [if_neg (by omega)] at h0
      exact good_of_chk h0
    have hR : addR l d = addN l d := by unfold addR; rw [if_pos h0]
    have hL : addL l d = if addN l d = 0 then l ++ [d] else l := by unfold addL; rw [hR]
    rw [hR, hL]
    exact add_any w l d hg hlen hr
  · have hR : addR l d = errN l := by unfold addR; rw [if_neg h0]
    have hL : addL l d = l := by unfold addL; rw [hR, if_neg h0]
    rw [hR, hL]
    exact add_err w l d hl hr (Lib.hid rfl) h0
end Go.Proofs.Ytogcpjkgliijmaa
