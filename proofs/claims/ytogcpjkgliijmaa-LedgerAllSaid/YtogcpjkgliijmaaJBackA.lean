/- journal.Append, Crash, Replay; that every text has what Open reads. -/
import Derived.Test.YtogcpjkgliijmaaJOpen
import Derived.Test.YtogcpjkgliijmaaLThen
namespace Go.Proofs.Ytogcpjkgliijmaa
open Go.RowKit

/-- Every text begins with some decisions that Open reads. -/
theorem open_exists (s : List UInt8) : ∃ ds, OpenAs s ds := by
  have key : ∀ n (ds : List Dec), s.length < 12 * (ds.length + n) → (∀ j (h : j < ds.length), decAt s (12 * j) = (ds[j], 0)) → ∃ ds, OpenAs s ds := by
    intro n
    induction n with
    | zero =>
      intro ds hlt hds
      exfalso
      rcases Nat.eq_zero_or_pos ds.length with h0 | h0
      · omega
      · have h1 := hds (ds.length - 1) (by omega)
        unfold decAt at h1
        split at h1
        · injection h1 with _ h2; exact absurd h2 (by decide)
        · omega
    | succ n ih =>
      intro ds hlt hds
      by_cases hz : (decAt s (12 * ds.length)).2 = 0
      · refine ih (ds ++ [(decAt s (12 * ds.length)).1]) (by simp; omega) (fun j hj => ?_)
        by_cases hjl : j < ds.length
        · rw [List.getElem_append_left hjl]; exact hds j hjl
        · have : j = ds.length := by simp at hj; omega
          subst this
          rw [List.getElem_concat_length rfl]
          exact Prod.ext rfl hz
      · exact ⟨ds, hds, hz⟩
  exact key (s.length + 1) [] (by simp; omega) (fun j h => by simp at h)

/-- What was safe is read behind a crash. -/
theorem open_safe {l ds : List Dec} (hg : ∀ i (h : i < l.length), l[i].ok = true) (k : Nat) (hk : k ≤ 12 * l.length) (torn : List UInt8) (h : OpenAs ((flatE l).take k ++ torn) ds) :
    k / 12 ≤ ds.length ∧ ds.take (k / 12) = l.take (k / 12) := by
  have hat : ∀ j (hj : j < k / 12), decAt ((flatE l).take k ++ torn) (12 * j) = (l[j]'(by omega), 0) := by
    intro j hj
    have hjl : j < l.length := by omega
    have hlen : ((flatE l).take k).length = k := by rw [List.length_take, flatE_len]; omega
    rw [← decAt_flat hg j hjl]
    unfold decAt
    rw [if_neg (by rw [List.length_append, hlen]; omega), if_neg (by rw [flatE_len]; omega), List.drop_append_of_le_length (by omega), List.take_append_of_le_length (by rw [List.length_drop, hlen]; omega), List.drop_take, List.take_take, Nat.min_eq_left (by omega)]
  have hle : k / 12 ≤ ds.length := by
    rcases Nat.lt_or_ge ds.length (k / 12) with hlt | hge
    · have := h.2
      rw [hat ds.length hlt] at this
      exact absurd rfl this
    · exact hge
  refine ⟨hle, List.ext_getElem (by simp; omega) (fun j h1 h2 => ?_)⟩
  have hj : j < k / 12 := by simp at h1; omega
  have e1 := h.1 j (by omega)
  rw [hat j hj] at e1
  injection e1 with e1
  rw [List.getElem_take, List.getElem_take]
  exact e1.symm

set_option maxHeartbeats 1000000 in
theorem append_ok (s : List UInt8) (d : Dec) (w : World) (h : d.ok = true) (hs : s.length ≤ 60000) :
    Calls Try.prog 42 #[.string ⟨s.toArray⟩, d.val] w fun e w' => e = .returned (.tuple #[.string ⟨(s ++ encS d).toArray⟩, .int .i64 0]) ∧ Below w.heap.size w w' := by
  have cE := fun W => encode_ok d W h
  rw [encB_eq] at cE
  unfold Dec.val at cE ⊢
  have CE := Lib.hid cE
  have t1 : (encS d).length = 12 := encS_len d
  have h2 : decide ((65536 : Int) < (s.length : Int) + 12) = false := by rw [decide_eq_false_iff_not]; omega
  clear cE h
  go_enter Try.func42, Try.ntmps42
  go_wp2_with fail
  refine (CE.out _).mono ?_; rintro e w1 ⟨rfl, hb⟩
  have hb2 := below_of_alloc hb
  have HB := Lib.hid hb2
  clear hb hb2 CE
  go_wp2_with fail
  go_ret2
  exact ⟨by rw [← ba_append]; rfl, HB.out⟩

set_option maxHeartbeats 1000000 in
theorem crash_any (s t : List UInt8) (k : Nat) (w : World) (hk : k ≤ s.length) (hs : s.length ≤ 1000) (ht : t.length ≤ 1000) :
    Calls Try.prog 44 #[.string ⟨s.toArray⟩, .int .i64 k, .string ⟨t.toArray⟩] w fun e w' => e = .returned (.string ⟨(s.take k ++ t).toArray⟩) ∧ w' = w := by
  have f1 := ext_take s k
  have f2 : (s.take k).length = k := by simp; omega
  go_enter Try.func44, Try.ntmps44
  go_wp2_with fail
  go_ret
  exact ⟨by first | (rw [← ba_append]; rfl) | (rw [← ba_append, ← ext_take]; rfl), rfl⟩

theorem foll_at {l : List Dec} (h : Good l) (k : Nat) (hk : k < l.length) : addN (l.take k) l[k] = if k = 128 then 3 else 0 := by
  have hl : (l.take k).length = k := by simp; omega
  have hf : foll (lastOf l k) l[k] = 0 := by
    rcases Nat.eq_zero_or_pos k with h0 | h0
    · subst h0; rw [lastOf_zero]; exact foll_none (h.1 _ _)
    · obtain ⟨m, rfl⟩ : ∃ m, k = m + 1 := ⟨k - 1, by omega⟩
      rw [lastOf_succ l m (by omega), foll_some (h.1 _ _)]
      have := h.2 m (m + 1) (by omega) (by omega)
      rw [if_neg]
      simp only [Bool.or_eq_true, decide_eq_true_eq]; omega
  unfold addN
  rw [hl]
  have e : lastOf (l.take k) k = lastOf l k := by unfold lastOf; rw [List.take_take, Nat.min_self]
  rw [e, hf]
end Go.Proofs.Ytogcpjkgliijmaa
