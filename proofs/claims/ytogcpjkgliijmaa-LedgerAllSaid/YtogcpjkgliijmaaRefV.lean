/- The reference's Valid, Encode, Append of any decision; journal.Append of any. -/
import Derived.Test.YtogcpjkgliijmaaJBackA
namespace Go.Proofs.Ytogcpjkgliijmaa
open Go.RowKit

set_option maxRecDepth 100000 in
set_option maxHeartbeats 4000000 in
theorem refvalid_bad (d : Dec) (w : World) (h : d.ok = false) :
    Calls Try.prog 60 #[d.val] w fun e w' => e = .returned (.bool false) ∧ Below w.heap.size w w' := by
  obtain ⟨day, known, kind, subj, value⟩ := d
  change validB day known kind subj value = false at h
  unfold Dec.val
  simp only
  by_cases a0 : 0 ≤ day
  · by_cases a1 : day ≤ 40000
    · by_cases a2 : 0 ≤ known
      · by_cases a3 : known ≤ 400
        · by_cases a4 : 1 ≤ kind
          · by_cases a5 : kind ≤ 5
            · by_cases a6 : 0 ≤ subj
              · by_cases a7 : subj ≤ 40
                · have b0 : (value == 0) = false := by
                    rw [beq_eq_false_iff_ne]; intro e; subst e
                    exact absurd (show validB day known kind subj 0 = true from validB_mk ⟨⟨a0, a1⟩, ⟨a2, a3⟩, ⟨a4, a5⟩, ⟨a6, a7⟩, ⟨by decide, by decide⟩⟩) (by rw [h]; decide)
                  have b1 : (value == 1) = false := by
                    rw [beq_eq_false_iff_ne]; intro e; subst e
                    exact absurd (show validB day known kind subj 1 = true from validB_mk ⟨⟨a0, a1⟩, ⟨a2, a3⟩, ⟨a4, a5⟩, ⟨a6, a7⟩, ⟨by decide, by decide⟩⟩) (by rw [h]; decide)
                  clear h
                  go_enter Try.func60, Try.ntmps60
                  go_wp2_with fail
                  go_ret
                  exact ⟨rfl, (Below.refl _ _).alloc (Nat.le_refl _) _⟩
                · have n0 : decide (subj ≤ 40) = false := by rw [decide_eq_false_iff_not]; exact a7
                  clear h a7
                  go_enter Try.func60, Try.ntmps60
                  go_wp2_with fail
                  go_ret
                  exact ⟨rfl, (Below.refl _ _).alloc (Nat.le_refl _) _⟩
              · have n0 : decide (0 ≤ subj) = false := by rw [decide_eq_false_iff_not]; exact a6
                clear h a6
                go_enter Try.func60, Try.ntmps60
                go_wp2_with fail
                go_ret
                exact ⟨rfl, (Below.refl _ _).alloc (Nat.le_refl _) _⟩
            · have n0 : decide (kind ≤ 5) = false := by rw [decide_eq_false_iff_not]; exact a5
              clear h a5
              go_enter Try.func60, Try.ntmps60
              go_wp2_with fail
              go_ret
              exact ⟨rfl, (Below.refl _ _).alloc (Nat.le_refl _) _⟩
          · have n0 : decide (1 ≤ kind) = false := by rw [decide_eq_false_iff_not]; exact a4
            clear h a4
            go_enter Try.func60, Try.ntmps60
            go_wp2_with fail
            go_ret
            exact ⟨rfl, (Below.refl _ _).alloc (Nat.le_refl _) _⟩
        · have n0 : decide (known ≤ 400) = false := by rw [decide_eq_false_iff_not]; exact a3
          clear h a3
          go_enter Try.func60, Try.ntmps60
          go_wp2_with fail
          go_ret
          exact ⟨rfl, (Below.refl _ _).alloc (Nat.le_refl _) _⟩
      · have n0 : decide (0 ≤ known) = false := by rw [decide_eq_false_iff_not]; exact a2
        clear h a2
        go_enter Try.func60, Try.ntmps60
        go_wp2_with fail
        go_ret
        exact ⟨rfl, (Below.refl _ _).alloc (Nat.le_refl _) _⟩
    · have n0 : decide (day ≤ 40000) = false := by rw [decide_eq_false_iff_not]; exact a1
      clear h a1
      go_enter Try.func60, Try.ntmps60
      go_wp2_with fail
      go_ret
      exact ⟨rfl, (Below.refl _ _).alloc (Nat.le_refl _) _⟩
  · have n0 : decide (0 ≤ day) = false := by rw [decide_eq_false_iff_not]; exact a0
    clear h a0
    go_enter Try.func60, Try.ntmps60
    go_wp2_with fail
    go_ret
    exact ⟨rfl, (Below.refl _ _).alloc (Nat.le_refl _) _⟩

theorem refvalid_any (d : Dec) (w : World) {q : Bool} (h : d.ok = q) :
    Calls Try.prog 60 #[d.val] w fun e w' => e = .returned (.bool q) ∧ Below w.heap.size w w' := by
  cases q
  · exact refvalid_bad d w h
  · exact refvalid_ok d w h

set_option maxHeartbeats 1000000 in
theorem refencode_bad (d : Dec) (w : World) (h : d.ok = false) :
    Calls Try.prog 41 #[d.val] w fun e w' => e = .returned (.tuple #[.string ⟨([] : List UInt8).toArray⟩, .int .i64 57]) ∧ Below w.heap.size w w' := by
  have cV := fun W => refvalid_bad d W h
  unfold Dec.val at cV ⊢
  have CV := Lib.hid cV; clear cV h
  go_enter Try.func41, Try.ntmps41
  go_wp2_with fail
  refine (CV.out _).mono ?_; rintro r W ⟨rfl, hb⟩
  go_wp2_with fail
  go_ret2
  exact ⟨rfl, below_of_alloc hb⟩

/-- What Encode answers. -/
def encR (d : Dec) : List UInt8 × Int := if d.ok = true then (encS d, 0) else ([], 57)
def appR (s : List UInt8) (d : Dec) : List UInt8 × Int := if d.ok = true then (s ++ encS d, 0) else (s, 57)

theorem refencode_any (d : Dec) (w : World) {b : List UInt8} {e : Int} (h : encR d = (b, e)) :
    Calls Try.prog 41 #[d.val] w fun r w' => r = .returned (.tuple #[.string ⟨b.toArray⟩, .int .i64 e]) ∧ Below w.heap.size w w' := by
  unfold encR at h
  cases hd : d.ok
  · rw [hd, if_neg (by decide)] at h; injection h with h1 h2; subst h1; subst h2; exact refencode_bad d w hd
  · rw [hd, if_pos rfl] at h; injection h with h1 h2; subst h1; subst h2; exact refencode_ok d w hd

theorem encode_any (d : Dec) (w : World) {b : List UInt8} {e : Int} (h : encR d = (b, e)) :
    Calls Try.prog 40 #[d.val] w fun r w' => r = .returned (.tuple #[.string ⟨b.toArray⟩, .int .i64 e]) ∧ Below w.heap.size w w' := by
  unfold encR at h
  cases hd : d.ok
  · rw [hd, if_neg (by decide)] at h; injection h with h1 h2; subst h1; subst h2; exact encode_bad d w hd
  · rw [hd, if_pos rfl] at h; injection h with h1 h2; subst h1; subst h2
    have := encode_ok d w hd
    rw [encB_eq] at this
    exact this

set_option maxHeartbeats 1000000 in
theorem append_bad (s : List UInt8) (d : Dec) (w : World) (h : d.ok = false) :
    Calls Try.prog 42 #[.string ⟨s.toArray⟩, d.val] w fun e w' => e = .returned (.tuple #[.string ⟨s.toArray⟩, .int .i64 57]) ∧ Below w.heap.size w w' := by
  have cE := fun W => encode_bad d W h
  unfold Dec.val at cE ⊢
  have CE := Lib.hid cE
  clear cE h
  go_enter Try.func42, Try.ntmps42
  go_wp2_with fail
  refine (CE.out _).mono ?_; rintro e w1 ⟨rfl, hb⟩
  have HB := Lib.hid (below_of_alloc hb)
  clear hb CE
  go_wp2_with fail
  go_ret2
  exact ⟨rfl, HB.out⟩

set_option maxHeartbeats 1000000 in
theorem refappend_bad (s : List UInt8) (d : Dec) (w : World) (h : d.ok = false) :
    Calls Try.prog 43 #[.string ⟨s.toArray⟩, d.val] w fun e w' => e = .returned (.tuple #[.string ⟨s.toArray⟩, .int .i64 57]) ∧ Below w.heap.size w w' := by
  have cE := fun W => refencode_bad d W h
  unfold Dec.val at cE ⊢
  have CE := Lib.hid cE
  clear cE h
  go_enter Try.func43, Try.ntmps43
  go_wp2_with fail
  refine (CE.out _).mono ?_; rintro e w1 ⟨rfl, hb⟩
  have HB := Lib.hid (below_of_alloc hb)
  clear hb CE
  go_wp2_with fail
  go_ret2
  exact ⟨rfl, HB.out⟩

theorem append_any (s : List UInt8) (d : Dec) (w : World) (hs : s.length ≤ 60000) {b : List UInt8} {e : Int} (h : appR s d = (b, e)) :
    Calls Try.prog 42 #[.string ⟨s.toArray⟩, d.val] w fun r w' => r = .returned (.tuple #[.string ⟨b.toArray⟩, .int .i64 e]) ∧ Below w.heap.size w w' := by
  unfold appR at h
  cases hd : d.ok
  · rw [hd, if_neg (by decide)] at h; injection h with h1 h2; subst h1; subst h2; exact append_bad s d w hd
  · rw [hd, if_pos rfl] at h; injection h with h1 h2; subst h1; subst h2; exact append_ok s d w hd hs

theorem refappend_any (s : List UInt8) (d : Dec) (w : World) (hs : s.length ≤ 60000) {b : List UInt8} {e : Int} (h : appR s d = (b, e)) :
    Calls Try.prog 43 #[.string ⟨s.toArray⟩, d.val] w fun r w' => r = .returned (.tuple #[.string ⟨b.toArray⟩, .int .i64 e]) ∧ Below w.heap.size w w' := by
  unfold appR at h
  cases hd : d.ok
  · rw [hd, if_neg (by decide)] at h; injection h with h1 h2; subst h1; subst h2; exact refappend_bad s d w hd
  · rw [hd, if_pos rfl] at h; injection h with h1 h2; subst h1; subst h2; exact refappend_ok s d w hd hs
end Go.Proofs.Ytogcpjkgliijmaa
