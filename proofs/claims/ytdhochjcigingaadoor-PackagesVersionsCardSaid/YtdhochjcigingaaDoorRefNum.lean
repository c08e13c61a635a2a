/- The document's Number (55). -/
import Derived.Test.YtdhochjcigingaaDoorBackA
namespace Go.Proofs.YtdhochjcigingaaDoor
open Go.RowKit
set_option linter.all false

def numV (l : List UInt8) : Int := l.foldl (fun v c => v * 10 + ((c.toNat : Int) - 48)) 0
def digB (c : UInt8) : Bool := decide (48 ≤ c.toNat ∧ c.toNat ≤ 57)
def numOk (l : List UInt8) : Bool := decide (1 ≤ l.length ∧ l.length ≤ 15 ∧ ¬ (1 < l.length ∧ (l.getD 0 0).toNat = 48)) && l.all digB

theorem numV_step (l : List UInt8) (k : Nat) (hk : k < l.length) : numV (l.take (k + 1)) = numV (l.take k) * 10 + (((l.getD k 0).toNat : Int) - 48) := by
  unfold numV
  rw [List.take_succ_eq_append_getElem hk, List.foldl_append, List.getD, List.getElem?_eq_getElem hk]
  rfl
theorem numV_bound (l : List UInt8) (h : l.all digB = true) : 0 ≤ numV l ∧ numV l < 10 ^ l.length := by
  have key : ∀ (l : List UInt8) (v : Int) (m : Nat), l.all digB = true → 0 ≤ v → v < 10 ^ m → 0 ≤ l.foldl (fun v c => v * 10 + ((c.toNat : Int) - 48)) v ∧ l.foldl (fun v c => v * 10 + ((c.toNat : Int) - 48)) v < 10 ^ (m + l.length) := by
    intro l
    induction l with
    | nil => intro v m _ h0 h1; exact ⟨h0, by simpa using h1⟩
    | cons c l ih =>
      intro v m h h0 h1
      simp only [List.all_cons, Bool.and_eq_true] at h
      have hc := of_decide_eq_true h.1
      have := ih (v * 10 + ((c.toNat : Int) - 48)) (m + 1) h.2 (by omega) (by rw [Int.pow_succ]; omega)
      rw [List.foldl_cons, List.length_cons, show m + (l.length + 1) = m + 1 + l.length from by omega]
      exact this
  have := key l 0 0 h (by omega) (by simp)
  simpa [numV] using this

def NumP (l : List UInt8) (w : World) (e : Ending) (w' : World) : Prop := e = .returned (.tuple #[.int .i64 (if numOk l then numV l else 0), .bool (numOk l)]) ∧ Below w.heap.size w w'

set_option maxHeartbeats 1000000 in
theorem refnum_0 (w : World) : Calls Tryd.prog 55 #[.string ⟨#[]⟩] w (NumP [] w) := by
  go_enter Tryd.func55, Tryd.ntmps55
  go_wp2_with fail
  refine bodyPost_ret (v := .tuple #[.int .i64 0, .bool false]) (by simp [results, Tryd.results55, go_sem]) rfl ⟨rfl, Below.refl _ _⟩
set_option maxHeartbeats 1000000 in
theorem refnum_long (l : List UInt8) (h : 15 < l.length) (w : World) (hs : l.length ≤ 1000) : Calls Tryd.prog 55 #[.string ⟨l.toArray⟩] w (NumP l w) := by
  have hn : numOk l = false := by unfold numOk; rw [decide_eq_false (by omega)]; rfl
  have h0 : ¬ l.length = 0 := by omega
  unfold NumP
  rw [hn]
  go_enter Tryd.func55, Tryd.ntmps55
  go_wp2_with fail
  refine bodyPost_ret (v := .tuple #[.int .i64 0, .bool false]) (by simp [results, Tryd.results55, go_sem]) rfl ⟨rfl, Below.refl _ _⟩

theorem ba_get (l : List UInt8) (k : Nat) (h : k < (⟨l.toArray⟩ : ByteArray).size) : (⟨l.toArray⟩ : ByteArray)[k]'h = l.getD k 0 := by
  have h' : k < l.length := by simpa [ByteArray.size] using h
  rw [List.getD, List.getElem?_eq_getElem h']
  rfl

set_option maxHeartbeats 1000000 in
theorem refnum_lead (l : List UInt8) (h1 : 1 < l.length) (h2 : l.length ≤ 15) (h3 : (l.getD 0 0).toNat = 48) (w : World) : Calls Tryd.prog 55 #[.string ⟨l.toArray⟩] w (NumP l w) := by
  have hn : numOk l = false := by unfold numOk; rw [decide_eq_false (by omega)]; rfl
  unfold NumP
  rw [hn]
  have e0 : ((l.length : Int) == 0) = false := beq_eq_false_iff_ne.2 (by omega)
  have hg := ba_get l 0
  generalize l.getD 0 0 = c at *
  have e1 : ((c.toNat : Int) == 48) = true := by rw [h3]; rfl
  have l0 : 0 < l.length := by omega
  have l1 : (1 : Int) < (l.length : Int) := by omega
  have l2 : ¬ (15 : Int) < (l.length : Int) := by omega
  clear h3 h1 h2 hn
  go_enter Tryd.func55, Tryd.ntmps55
  go_wp2_with fail
  refine bodyPost_ret (v := .tuple #[.int .i64 0, .bool false]) (by simp [results, Tryd.results55, go_sem]) rfl ⟨rfl, Below.refl _ _⟩

theorem digs_at {l : List UInt8} (h : l.all digB = true) (k : Nat) (hk : k < l.length) : 48 ≤ (l.getD k 0).toNat ∧ (l.getD k 0).toNat ≤ 57 := by
  rw [List.getD, List.getElem?_eq_getElem hk]
  exact of_decide_eq_true (List.all_eq_true.1 h _ (List.getElem_mem hk))
theorem numOk_dig {l : List UInt8} (h : numOk l = true) : l.all digB = true := by
  unfold numOk at h; simp only [Bool.and_eq_true] at h; exact h.2
theorem digs_step {l : List UInt8} {k : Nat} (hk : k < l.length) (h : (l.take k).all digB = true) (h0 : 48 ≤ (l.getD k 0).toNat) (h1 : (l.getD k 0).toNat ≤ 57) : (l.take (k + 1)).all digB = true := by
  rw [List.take_succ_eq_append_getElem hk, List.all_append, h]
  rw [List.getD, List.getElem?_eq_getElem hk] at h0 h1
  simp [digB]
  exact ⟨h0, h1⟩

set_option maxHeartbeats 2000000 in
theorem refnum_loop1 (l : List UInt8) (h1 : l.length = 1) (w : World) : Calls Tryd.prog 55 #[.string ⟨l.toArray⟩] w (NumP l w) := by
  have h2 : l.length ≤ 15 := by omega
  have e0 : ((l.length : Int) == 0) = false := beq_eq_false_iff_ne.2 (by omega)
  have l0 : 0 < l.length := by omega
  have l1 : ¬ (1 : Int) < (l.length : Int) := by omega
  have l2 : ¬ (15 : Int) < (l.length : Int) := by omega
  go_enter Tryd.func55, Tryd.ntmps55
  go_wp2_with fail
  go_loopw [4, 5] (fun nv iv wr => ∃ k : Nat, k ≤ l.length ∧ iv = .int .i64 (k : Int) ∧ nv = .int .i64 (numV (l.take k)) ∧ (l.take k).all digB = true ∧ w = wr) (fun _ iv _ => l.length - (intOf iv).toNat)
  case atStart => exact ⟨0, by omega, rfl, rfl, rfl, rfl⟩
  case round =>
    obtain ⟨k, hk, rfl, rfl, hd, rfl⟩ := hrel
    by_cases hlt : k < l.length
    · have hgk := ba_get l k
      have hk1 : (k : Int) < (l.length : Int) := by omega
      have hb := numV_bound _ hd
      have hp : (10 : Int) ^ (l.take k).length ≤ 10 ^ 15 := by
        rw [show (10 : Int) ^ (l.take k).length = ((10 ^ (l.take k).length : Nat) : Int) from by simp, show (10 : Int) ^ 15 = ((10 ^ 15 : Nat) : Int) from by simp]
        exact Int.ofNat_le.2 (Nat.pow_le_pow_right (by omega) (by simp; omega))
      have hs := numV_step l k hlt
      have HD := fun (a : 48 ≤ (l.getD k 0).toNat) b => digs_step hlt hd a b
      have HX := fun (a : l.all digB = true) => digs_at a k hlt
      have hb1 : 0 ≤ numV (l.take k) ∧ numV (l.take k) < 1000000000000000 := ⟨hb.1, by have := hb.2; omega⟩
      clear hp hb hd
      generalize numV (l.take k) = v at *
      generalize hck : l.getD k 0 = d at *
      obtain ⟨hv0, hv1⟩ := hb1
      by_cases h48 : d.toNat < 48
      · have i1 : (d.toNat : Int) < 48 := by omega
        have hn : numOk l = false := by
          rcases hq : numOk l with _ | _
          · rfl
          · have := HX (numOk_dig hq); omega
        have HN := Lib.hid hn
        clear HX HD hs hck hn
        go_wp2_with fail
        refine bodyPost_ret (v := .tuple #[.int .i64 0, .bool false]) (by simp [results, Tryd.results55, go_sem]) rfl ⟨by rw [HN.out]; rfl, Below.refl _ _⟩
      by_cases h57 : 57 < d.toNat
      · have i1 : ¬ (d.toNat : Int) < 48 := by omega
        have i2 : (57 : Int) < (d.toNat : Int) := by omega
        have hn : numOk l = false := by
          rcases hq : numOk l with _ | _
          · rfl
          · have := HX (numOk_dig hq); omega
        have HN := Lib.hid hn
        clear HX HD hs hck hn
        go_wp2_with fail
        refine bodyPost_ret (v := .tuple #[.int .i64 0, .bool false]) (by simp [results, Tryd.results55, go_sem]) rfl ⟨by rw [HN.out]; rfl, Below.refl _ _⟩
      · have i1 : ¬ (d.toNat : Int) < 48 := by omega
        have i2 : ¬ (57 : Int) < (d.toNat : Int) := by omega
        have HA := Lib.hid (HD (by omega) (by omega)); have HS := Lib.hid hs
        have w1 : IntKind.i64.wrap (v * 10) = v * 10 := IntWalk.i64_in _ (by omega)
        have w2 : IntKind.u8.wrap ((d.toNat : Int) - 48) = (d.toNat : Int) - 48 := by simp [IntKind.wrap, IntKind.bits, IntKind.signed]; omega
        have w3 : IntKind.i64.wrap ((d.toNat : Int) - 48) = (d.toNat : Int) - 48 := IntWalk.i64_in _ (by omega)
        have w4 : IntKind.i64.wrap (v * 10 + ((d.toNat : Int) - 48)) = v * 10 + ((d.toNat : Int) - 48) := IntWalk.i64_in _ (by omega)
        clear HX HD hs hck h48 h57
        go_wp2_with fail
        go_roundw
        case rel => exact ⟨k + 1, by omega, by go_num, by rw [HS.out], HA.out, by first | rfl | trivial⟩
        case measure => simp [intOf]; omega
    · have hk' : k = l.length := by omega
      subst hk'
      rw [List.take_length] at hd ⊢
      have hn : numOk l = true := by
        unfold numOk
        rw [hd, decide_eq_true ⟨by omega, h2, by omega⟩]; rfl
      have HN := Lib.hid hn
      generalize hv : numV l = v
      have HV := Lib.hid hv; clear hv
      clear hd hn
      go_wp2_with fail
      refine bodyPost_ret (v := .tuple #[.int .i64 v, .bool true]) (by simp [results, Tryd.results55, go_sem]) rfl ⟨by rw [HN.out, if_pos rfl, HV.out], Below.refl _ _⟩
set_option maxHeartbeats 2000000 in
theorem refnum_loop2 (l : List UInt8) (h1 : 1 < l.length) (h2 : l.length ≤ 15) (h3 : (l.getD 0 0).toNat ≠ 48) (w : World) : Calls Tryd.prog 55 #[.string ⟨l.toArray⟩] w (NumP l w) := by
  have H3 := Lib.hid h3
  have e0 : ((l.length : Int) == 0) = false := beq_eq_false_iff_ne.2 (by omega)
  have hg := ba_get l 0
  generalize hc : l.getD 0 0 = c at hg h3
  have e1 : ((c.toNat : Int) == 48) = false := beq_eq_false_iff_ne.2 (by omega)
  have l0 : 0 < l.length := by omega
  have l1 : (1 : Int) < (l.length : Int) := by omega
  have l2 : ¬ (15 : Int) < (l.length : Int) := by omega
  go_enter Tryd.func55, Tryd.ntmps55
  go_wp2_with fail
  go_loopw [4, 5] (fun nv iv wr => ∃ k : Nat, k ≤ l.length ∧ iv = .int .i64 (k : Int) ∧ nv = .int .i64 (numV (l.take k)) ∧ (l.take k).all digB = true ∧ w = wr) (fun _ iv _ => l.length - (intOf iv).toNat)
  case atStart => exact ⟨0, by omega, rfl, rfl, rfl, rfl⟩
  case round =>
    obtain ⟨k, hk, rfl, rfl, hd, rfl⟩ := hrel
    by_cases hlt : k < l.length
    · have hgk := ba_get l k
      have hk1 : (k : Int) < (l.length : Int) := by omega
      have hb := numV_bound _ hd
      have hp : (10 : Int) ^ (l.take k).length ≤ 10 ^ 15 := by
        rw [show (10 : Int) ^ (l.take k).length = ((10 ^ (l.take k).length : Nat) : Int) from by simp, show (10 : Int) ^ 15 = ((10 ^ 15 : Nat) : Int) from by simp]
        exact Int.ofNat_le.2 (Nat.pow_le_pow_right (by omega) (by simp; omega))
      have hs := numV_step l k hlt
      have HD := fun (a : 48 ≤ (l.getD k 0).toNat) b => digs_step hlt hd a b
      have HX := fun (a : l.all digB = true) => digs_at a k hlt
      have hb1 : 0 ≤ numV (l.take k) ∧ numV (l.take k) < 1000000000000000 := ⟨hb.1, by have := hb.2; omega⟩
      clear hp hb hd hg hc h3
      generalize numV (l.take k) = v at *
      generalize hck : l.getD k 0 = d at *
      obtain ⟨hv0, hv1⟩ := hb1
      by_cases h48 : d.toNat < 48
      · have i1 : (d.toNat : Int) < 48 := by omega
        have hn : numOk l = false := by
          rcases hq : numOk l with _ | _
          · rfl
          · have := HX (numOk_dig hq); omega
        have HN := Lib.hid hn
        clear HX HD hs hck hn
        go_wp2_with fail
        refine bodyPost_ret (v := .tuple #[.int .i64 0, .bool false]) (by simp [results, Tryd.results55, go_sem]) rfl ⟨by rw [HN.out]; rfl, Below.refl _ _⟩
      by_cases h57 : 57 < d.toNat
      · have i1 : ¬ (d.toNat : Int) < 48 := by omega
        have i2 : (57 : Int) < (d.toNat : Int) := by omega
        have hn : numOk l = false := by
          rcases hq : numOk l with _ | _
          · rfl
          · have := HX (numOk_dig hq); omega
        have HN := Lib.hid hn
        clear HX HD hs hck hn
        go_wp2_with fail
        refine bodyPost_ret (v := .tuple #[.int .i64 0, .bool false]) (by simp [results, Tryd.results55, go_sem]) rfl ⟨by rw [HN.out]; rfl, Below.refl _ _⟩
      · have i1 : ¬ (d.toNat : Int) < 48 := by omega
        have i2 : ¬ (57 : Int) < (d.toNat : Int) := by omega
        have HA := Lib.hid (HD (by omega) (by omega)); have HS := Lib.hid hs
        have w1 : IntKind.i64.wrap (v * 10) = v * 10 := IntWalk.i64_in _ (by omega)
        have w2 : IntKind.u8.wrap ((d.toNat : Int) - 48) = (d.toNat : Int) - 48 := by simp [IntKind.wrap, IntKind.bits, IntKind.signed]; omega
        have w3 : IntKind.i64.wrap ((d.toNat : Int) - 48) = (d.toNat : Int) - 48 := IntWalk.i64_in _ (by omega)
        have w4 : IntKind.i64.wrap (v * 10 + ((d.toNat : Int) - 48)) = v * 10 + ((d.toNat : Int) - 48) := IntWalk.i64_in _ (by omega)
        clear HX HD hs hck h48 h57
        go_wp2_with fail
        go_roundw
        case rel => exact ⟨k + 1, by omega, by go_num, by rw [HS.out], HA.out, by first | rfl | trivial⟩
        case measure => simp [intOf]; omega
    · have hk' : k = l.length := by omega
      subst hk'
      rw [List.take_length] at hd ⊢
      have hn : numOk l = true := by
        unfold numOk
        rw [hd, decide_eq_true ⟨by omega, h2, by exact fun h => H3.out h.2⟩]; rfl
      have HN := Lib.hid hn
      generalize hv : numV l = v
      have HV := Lib.hid hv; clear hv
      clear hg hd hn
      go_wp2_with fail
      refine bodyPost_ret (v := .tuple #[.int .i64 v, .bool true]) (by simp [results, Tryd.results55, go_sem]) rfl ⟨by rw [HN.out, if_pos rfl, HV.out], Below.refl _ _⟩

theorem refnum_any (l : List UInt8) (hs : l.length ≤ 1000) (w : World) : Calls Tryd.prog 55 #[.string ⟨l.toArray⟩] w (NumP l w) := by
  by_cases h0 : l = []
  · subst h0; exact refnum_0 w
  have h1 : 1 ≤ l.length := List.length_pos_iff.2 h0
  by_cases h15 : 15 < l.length
  · exact refnum_long l h15 w hs
  by_cases h2 : l.length = 1
  · exact refnum_loop1 l h2 w
  by_cases h3 : (l.getD 0 0).toNat = 48
  · exact refnum_lead l (by omega) (by omega) h3 w
  · exact refnum_loop2 l (by omega) (by omega) h3 w
end Go.Proofs.YtdhochjcigingaaDoor
