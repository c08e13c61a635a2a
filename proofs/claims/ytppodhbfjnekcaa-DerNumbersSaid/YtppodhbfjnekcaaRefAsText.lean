/- The specification's AsText. -/
import Derived.Test.YtppodhbfjnekcaaAsText
namespace Go.Proofs.Ytppodhbfjnekcaa
open Go.RowKit

set_option maxRecDepth 100000 in
set_option maxHeartbeats 1000000 in
theorem asText_ref_bad {t : Int} {nb : Bool} {sv : Value} {k c : Nat} {p : Option Addr} (w : World)
    (hbad : (t != 12) = true ∨ ((t != 12) = false ∧ nb = true) ∨ ((t != 12) = false ∧ nb = false ∧ 0 < k)) :
    Calls Try.prog 26 #[.agg #[.int .i64 t, sv, .bool nb, .slice p k c]] w fun e w' => e = .returned (.tuple #[.string ByteArray.empty, .int .i64 1]) ∧ Below w.heap.size w w' := by
  rcases hbad with h1 | ⟨h1, rfl⟩ | ⟨h1, rfl, h3⟩
  all_goals
    go_enter Try.func26, Try.ntmps26
    go_wp2
    all_goals
      go_ret2
      exact ⟨rfl, (Below.refl _ _).alloc (Nat.le_refl _) _⟩

set_option maxRecDepth 100000 in
set_option maxHeartbeats 1000000 in
theorem asText_ref_good {l : List UInt8} {n c c' b o : Nat} {p : Option Addr} (w : World) (rs : ByteArray) (re : Int) (hres : Hid (l.any unp = false ∧ rs = strOf l ∧ re = 0 ∨ l.any unp = true ∧ rs = ByteArray.empty ∧ re = 1)) (hl : l.length = n) (hm : n ≤ 9223372036854775807) (hn : 0 < n) (hc : ∀ j, j < n → w.cell? ⟨b, o + j, none⟩ = some (.int .u8 (l.getD j 0).toNat)) :
    Calls Try.prog 26 #[.agg #[.int .i64 12, .slice (some ⟨b, o, none⟩) n c', .bool false, .slice p 0 c]] w fun e w' => e = .returned (.tuple #[.string rs, .int .i64 re]) ∧ Below w.heap.size w w' := by
  have lA := World.block_lt_of_cell? _ _ (hc 0 hn)
  simp only at lA
  have hconv : ∀ {W : World}, Below w.heap.size w W → (Go.convert 27 9 (.slice (some ⟨b, o, none⟩) n c')).run Try.prog W = .ok (.string (strOf l)) W := fun hW => 
    (Bts.convert (P := Try.prog) (l := l) ⟨some ⟨b, o, none⟩, c', by rw [hl], by rw [hl]; omega, .inr ⟨b, o, rfl, fun j hj => cell_later hW (hc j (by rw [← hl]; exact hj))⟩⟩ 27 5 9 (by kernel_rfl) (by kernel_rfl) (by kernel_rfl))
  have hcv0 := hconv ((Below.refl w.heap.size w).alloc (Nat.le_refl _) (.cells #[.int .i64 12, .slice (some ⟨b, o, none⟩) n c', .bool false, .slice p 0 c] 30))
  clear hconv
  have HC := Lib.hid hc; clear hc
  have HL := Lib.hid hl; clear hl
  go_enter Try.func26, Try.ntmps26
  go_wp2_with fail
  go_loopw [4] (fun i wr => ∃ k : Nat, k ≤ n ∧ i = .int .i64 k ∧ Hid ((l.take k).any unp = false) ∧ wr = w.alloc (.cells #[.int .i64 12, .slice (some ⟨b, o, none⟩) n c', .bool false, .slice p 0 c] 30)) (fun i _ => n - (intOf i).toNat)
  case atStart => exact ⟨0, by omega, rfl, Lib.hid (by simp), rfl⟩
  case round =>
    obtain ⟨k, hk, rfl, HK, rfl⟩ := hrel
    by_cases hlt : k < n
    · obtain ⟨x, hx⟩ : ∃ x, x = l.getD k 0 := ⟨_, rfl⟩
      have ck := HC.out k hlt
      rw [← hx] at ck
      have HX2 := Lib.hid hx; clear hx
      have hits : unp x = true → rs = ByteArray.empty ∧ re = 1 := by
        intro hu
        have : l.any unp = true := by
          rw [List.any_eq_true]
          refine ⟨x, ?_, hu⟩
          rw [HX2.out]; simp [List.getD, HL.out, hlt]
        rcases hres.out with h | h
        · rw [this] at h; cases h.1
        · exact h.2
      have hits2 := hits
      unfold unp at hits
      by_cases h1 : (x.toNat : Int) < 32
      · obtain ⟨rfl, rfl⟩ := hits (by simp; omega)
        clear hits hits2
        go_wp2
        go_ret2
        exact ⟨rfl, (Below.refl _ _).alloc (Nat.le_refl _) _⟩
      · by_cases h2 : (126 : Int) < (x.toNat : Int)
        · obtain ⟨rfl, rfl⟩ := hits (by simp; omega)
          clear hits hits2
          go_wp2
          go_ret2
          exact ⟨rfl, (Below.refl _ _).alloc (Nat.le_refl _) _⟩
        · clear hits hits2
          have hu : unp x = false := by simp [unp]; omega
          have HU := Lib.hid hu; clear hu
          go_wp2
          go_roundw
          case rel =>
            refine ⟨k + 1, by omega, by go_num, Lib.hid ?_, by first | trivial | rfl⟩
            rw [take_snoc l k (by rw [HL.out]; exact hlt), List.any_append, HK.out, ← HX2.out]
            simp [HU.out]
          case measure => simp [intOf]; omega
    · have hno : l.any unp = false := by
        have := HK.out
        rwa [List.take_of_length_le (by rw [HL.out]; omega)] at this
      obtain ⟨rfl, rfl⟩ : rs = strOf l ∧ re = 0 := by
        rcases hres.out with h | h
        · exact h.2
        · rw [hno] at h; cases h.1
      clear hno
      go_wp2
      go_ret2
      exact ⟨rfl, (Below.refl _ _).alloc (Nat.le_refl _) _⟩

set_option maxRecDepth 100000 in
set_option maxHeartbeats 1000000 in
theorem asText_ref_empty {c c' : Nat} {p p' : Option Addr} (w : World) :
    Calls Try.prog 26 #[.agg #[.int .i64 12, .slice p' 0 c', .bool false, .slice p 0 c]] w fun e w' => e = .returned (.tuple #[.string ByteArray.empty, .int .i64 0]) ∧ Below w.heap.size w w' := by
  have hconv := fun (W : World) => (Bts.nil W p' c').convert (P := Try.prog) 27 5 9 (by kernel_rfl) (by kernel_rfl) (by kernel_rfl)
  go_enter Try.func26, Try.ntmps26
  go_wp2_with fail
  refine wp_loop_rounds 1 ?_; rw [rounds_succ]
  go_wp2
  go_ret2
  exact ⟨rfl, (Below.refl _ _).alloc (Nat.le_refl _) _⟩

theorem asText_ref {t : Int} {nb : Bool} {sv : Value} {l : List UInt8} {p : Option Addr} {k c : Nat} (w : World) (h : Bts w sv l) (q : Bool) (hq : isText t nb l k = q) (rs : ByteArray) (re : Int) (hres : Hid (q = true ∧ rs = strOf l ∧ re = 0 ∨ q = false ∧ rs = ByteArray.empty ∧ re = 1)) :
    Calls Try.prog 26 #[.agg #[.int .i64 t, sv, .bool nb, .slice p k c]] w fun e w' => e = .returned (.tuple #[.string rs, .int .i64 re]) ∧ Below w.heap.size w w' := by
  by_cases hbad : t ≠ 12 ∨ nb = true ∨ 0 < k
  · have hf : q = false := by
      rw [← hq]; unfold isText
      rcases hbad with h | h | h
      · simp [h]
      · simp [h]
      · simp; intro _ _ h2; omega
    obtain ⟨rfl, rfl⟩ : rs = ByteArray.empty ∧ re = 1 := by
      rcases hres.out with h | h
      · rw [hf] at h; cases h.1
      · exact h.2
    refine asText_ref_bad w ?_
    by_cases h1 : t = 12
    · cases nb
      · exact .inr (.inr ⟨by simp [h1], rfl, by rcases hbad with h | h | h; exact absurd h1 h; cases h; exact h⟩)
      · exact .inr (.inl ⟨by simp [h1], rfl⟩)
    · exact .inl (by simp [h1])
  · have h1 : t = 12 := by by_cases h : t = 12; exact h; exact absurd (.inl h) hbad
    have h2 : nb = false := by cases nb; rfl; exact absurd (.inr (.inl rfl)) hbad
    have h3 : k = 0 := by by_cases h : k = 0; exact h; exact absurd (.inr (.inr (by omega))) hbad
    subst h1; subst h2; subst h3
    have hq2 : q = !l.any unp := by rw [← hq]; simp [isText]
    obtain ⟨p', c', rfl, hm, h⟩ := h
    by_cases he : l = []
    · subst he
      obtain ⟨rfl, rfl⟩ : rs = ByteArray.empty ∧ re = 0 := by
        rcases hres.out with h | h
        · exact ⟨h.2.1, h.2.2⟩
        · rw [hq2] at h; cases h.1
      exact asText_ref_empty w
    · rcases h with h | ⟨b, o, rfl, h⟩
      · exact absurd h he
      · refine asText_ref_good w rs re (Lib.hid ?_) rfl hm (List.length_pos_iff.2 he) h
        rw [hq2] at hres
        rcases hres.out with h | h
        · exact .inl ⟨by simpa using h.1, h.2⟩
        · exact .inr ⟨by simpa using h.1, h.2⟩
end Go.Proofs.Ytppodhbfjnekcaa
