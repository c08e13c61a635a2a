/- The document's Parse (13). -/
import Derived.Test.YtdhochjcigingaaDoorRefNum
import Derived.Test.YtdhochjcigingaaDoorRefFind
import Derived.Test.YtdhochjcigingaaDoorRefStr
import Derived.Test.YtdhochjcigingaaDoorParseE
namespace Go.Proofs.YtdhochjcigingaaDoor
open Go.RowKit
set_option linter.all false

theorem ext_part (l : List UInt8) (a b : Nat) : (⟨l.toArray⟩ : ByteArray).extract a b = ⟨((l.take b).drop a).toArray⟩ := by
  apply ByteArray.ext
  simp [ByteArray.data_extract, List.extract_toArray, List.extract_eq_drop_take, List.drop_take]

/-- The result's box. -/
structure PR (w : World) (R : Nat) (W : World) : Prop where
  res : W.heap[R]? = some (.cells #[.int .i64 0, .int .i64 0] 23 (0, 0))
  below : Below w.heap.size w W
theorem PR.lt {w : World} {R : Nat} {W : World} (h : PR w R W) : R < W.heap.size := by
  have := h.res
  rcases Nat.lt_or_ge R W.heap.size with h | h
  · exact h
  · rw [Array.getElem?_eq_none h] at this; cases this
theorem PR.step {w : World} {R : Nat} {W W' : World} (h : PR w R W) (hb : Below W.heap.size W W') : PR w R W' :=
  ⟨(hb.block R h.lt).trans h.res, h.below.trans (hb.mono h.below.size)⟩
theorem PR.cells {w : World} {R : Nat} {W : World} (h : PR w R W) : W.cell? ⟨R, 0, none⟩ = some (.int .i64 0) ∧ W.cell? ⟨R, 1, none⟩ = some (.int .i64 0) ∧ W.frozen? ⟨R, 0, none⟩ = false ∧ W.frozen? ⟨R, 1, none⟩ = false :=
  ⟨by rw [cell_of_row _ R 0 _ _ _ h.res]; rfl, by rw [cell_of_row _ R 1 _ _ _ h.res]; rfl, by simp [World.frozen?, h.res], by simp [World.frozen?, h.res]⟩
theorem PR.out {w : World} {R : Nat} {W : World} (h : PR w R W) (hR : w.heap.size ≤ R) (a b n : Int) {x : Act} (ht : x.tmps.getD 2 undef = .pointer (some ⟨R, 0, none⟩)) (ht3 : x.tmps.getD 3 undef = .int .i64 n) (hd : x.defers = []) :
    bodyPost Tryd.prog Tryd.f13 (ParseP a b n w) .ret x ((W.setCell ⟨R, 0, none⟩ (.int .i64 a)).setCell ⟨R, 1, none⟩ (.int .i64 b)) := by
  have h1 := heap_setCell_same W R 0 _ _ (.int .i64 a) h.res
  have h2 := heap_setCell_same _ R 1 _ _ (.int .i64 b) h1
  have e0 := cell_of_row _ R 0 _ _ _ h2
  have e1 := cell_of_row _ R 1 _ _ _ h2
  simp at e0 e1 ht ht3
  refine bodyPost_ret (v := .tuple #[.agg #[.int .i64 a, .int .i64 b], .int .i64 n]) ?_ hd ⟨rfl, (h.below.setCell hR _).setCell hR _⟩
  simp [results, Tryd.results13, go_sem, ht, ht3, e0, e1]

def dashOk (A B : List UInt8) : Bool := numOk B && decide (0 < numV B) && validB (findS A : Nat) (numV B)
def DashP (A B : List UInt8) (w : World) (e : Ending) (w' : World) : Prop := ParseP (if dashOk A B then (findS A : Nat) else 0) (if dashOk A B then numV B else 0) (if dashOk A B then 0 else 7) w e w'

set_option maxHeartbeats 4000000 in
theorem refparse_dash (s A B : List UInt8) (hs : s.length ≤ 1000) (he : s = A ++ 45 :: B) (hA : ∀ c ∈ A, c.toNat ≠ 45) (w : World) : Calls Tryd.prog 13 #[.string ⟨s.toArray⟩] w (DashP A B w) := by
  have hP0 : PR w w.heap.size (w.alloc (.cells #[.int .i64 0, .int .i64 0] 23)) := ⟨heap_alloc_new _ _, (Below.refl _ _).alloc (Nat.le_refl _) _⟩
  have hlen : s.length = A.length + 1 + B.length := by rw [he]; simp; omega
  have hx1 : (⟨s.toArray⟩ : ByteArray).extract (A.length + 1) s.length = ⟨B.toArray⟩ := by
    rw [ext_part, List.take_of_length_le (Nat.le_refl _), he, List.drop_append, List.drop_eq_nil_of_le (by omega)]; simp
  have hx2 : (⟨s.toArray⟩ : ByteArray).extract 0 A.length = ⟨A.toArray⟩ := by
    rw [ext_part, he]; simp
  have hat : (s.getD A.length 0).toNat = 45 := by rw [he]; simp [List.getD]
  have hbef : ∀ k, k < A.length → (s.getD k 0).toNat ≠ 45 := fun k hk => by
    rw [he, List.getD, List.getElem?_append_left hk, List.getElem?_eq_getElem hk]
    exact hA _ (List.getElem_mem hk)
  clear he hA
  generalize hR : w.heap.size = R at hP0
  have HP0 := Lib.hid hP0; clear hP0
  go_enter Tryd.func13, Tryd.ntmps13
  go_wp2_with fail
  generalize w.alloc (.cells #[.int .i64 0, .int .i64 0] 23) = W at *
  go_loopw [4] (fun i wr => ∃ k : Nat, k ≤ A.length ∧ i = .int .i64 (k : Int) ∧ W = wr) (fun i _ => s.length - (intOf i).toNat)
  case atStart => exact ⟨0, by omega, rfl, rfl⟩
  case round =>
    obtain ⟨k, hk, rfl, rfl⟩ := hrel
    have hlt : k < s.length := by omega
    have hlt1 : (k : Int) < (s.length : Int) := by omega
    have hgk := ba_get s k
    by_cases hkA : k < A.length
    · have hne := hbef k hkA
      clear hat hbef hx1 hx2
      generalize s.getD k 0 = d at *
      have e1 : ((d.toNat : Int) == 45) = false := beq_eq_false_iff_ne.2 (by omega)
      go_wp2_with fail
      go_roundw
      case rel => exact ⟨k + 1, by omega, by go_num, by first | rfl | trivial⟩
      case measure => simp [intOf]; omega
    · have hk' : k = A.length := by omega
      subst hk'
      clear hbef
      generalize s.getD A.length 0 = d at *
      have e1 : ((d.toNat : Int) == 45) = true := by rw [hat]; rfl
      clear hat
      obtain ⟨v, ok, hN, hD⟩ : ∃ v ok, (∀ W, Calls Tryd.prog 55 #[.string ⟨B.toArray⟩] W fun e w' => e = .returned (.tuple #[.int .i64 v, .bool ok]) ∧ Below W.heap.size W w') ∧ (ok = numOk B ∧ (ok = true → v = numV B)) :=
        ⟨_, _, fun W => refnum_any B (by omega) W, rfl, fun h => by rw [if_pos h]⟩
      have hDD : DashP A B w = ParseP (if (ok && decide (0 < v) && validB (findS A : Nat) v) then (findS A : Nat) else 0) (if (ok && decide (0 < v) && validB (findS A : Nat) v) then v else 0) (if (ok && decide (0 < v) && validB (findS A : Nat) v) then 0 else 7) w := by
        unfold DashP dashOk
        rw [← hD.1]
        cases ok with
        | false => rfl
        | true => rw [hD.2 rfl]
      rw [hDD]
      clear hDD hD
      generalize hq1 : (if (ok && decide (0 < v) && validB (findS A : Nat) v) then ((findS A : Nat) : Int) else 0) = p1
      generalize hq2 : (if (ok && decide (0 < v) && validB (findS A : Nat) v) then v else 0) = p2
      generalize hq3 : (if (ok && decide (0 < v) && validB (findS A : Nat) v) then (0 : Int) else 7) = p3
      have cF := fun W => reffind_any A W
      have cV := fun W => refvalid_any (findS A : Nat) v W
      generalize (findS A : Int) = f at *
      rw [hlen] at hx1
      go_wp2_with fail
      refine (hN _).mono ?_
      rintro e w1 ⟨rfl, hb1⟩
      have hP1 := HP0.out.step hb1
      clear hN hb1
      go_wp2_with fail
      refine (cF _).mono ?_
      rintro e w2 ⟨rfl, hb2⟩
      have hP2 := hP1.step hb2
      clear cF hb2 hP1
      have hP3 := hP2.step ((Below.refl _ _).alloc (Nat.le_refl _) (.cells #[.int .i64 f, .int .i64 v] 23))
      have hle : w.heap.size ≤ R := by omega
      have hbox : (w2.alloc (.cells #[.int .i64 f, .int .i64 v] 23)).heap[w2.heap.size]? = some (.cells #[.int .i64 f, .int .i64 v] 23 (0, 0)) := heap_alloc_new _ _
      cases ok with
      | false =>
        obtain ⟨r0, r1, f0, f1⟩ := hP3.cells
        have HP3 := Lib.hid hP3; have HLE := Lib.hid hle
        have j1 : p1 = 0 := hq1.symm
        have j2 : p2 = 0 := hq2.symm
        have j3 : p3 = 7 := hq3.symm
        subst j1; subst j2; subst j3
        clear hP3 hP2 hle hq1 hq2 hq3
        go_wp2_with fail
        exact HP3.out.out HLE.out _ _ _ rfl rfl rfl
      | true =>
        by_cases h0 : 0 < v
        rotate_left
        · obtain ⟨r0, r1, f0, f1⟩ := hP3.cells
          have HP3 := Lib.hid hP3; have HLE := Lib.hid hle
          rw [decide_eq_false h0] at hq1 hq2 hq3
          have j1 : p1 = 0 := hq1.symm
          have j2 : p2 = 0 := hq2.symm
          have j3 : p3 = 7 := hq3.symm
          subst j1; subst j2; subst j3
          clear hP3 hP2 hle hq1 hq2 hq3
          go_wp2_with fail
          exact HP3.out.out HLE.out _ _ _ rfl rfl rfl
        · have cV1 := cV (w2.alloc (.cells #[.int .i64 f, .int .i64 v] 23))
          rcases hvv : validB f v with _ | _
          · rw [hvv] at cV1
            rw [decide_eq_true h0, hvv] at hq1 hq2 hq3
            have j1 : p1 = 0 := hq1.symm
            have j2 : p2 = 0 := hq2.symm
            have j3 : p3 = 7 := hq3.symm
            subst j1; subst j2; subst j3
            clear hq1 hq2 hq3
            have CV1 := Lib.hid cV1; have HP3 := Lib.hid hP3; have HLE := Lib.hid hle; have HB := Lib.hid hbox
            clear cV1 cV hP3 hP2 hle hbox
            go_wp2_with fail
            refine (CV1.out).mono ?_
            rintro e w4 ⟨rfl, hb4⟩
            have hP4 := HP3.out.step hb4
            obtain ⟨r0, r1, f0, f1⟩ := hP4.cells
            have HP4 := Lib.hid hP4
            clear hP4 hb4
            go_wp2_with fail
            exact HP4.out.out HLE.out _ _ _ rfl rfl rfl
          · rw [hvv] at cV1
            rw [decide_eq_true h0, hvv] at hq1 hq2 hq3
            have j1 : p1 = f := hq1.symm
            have j2 : p2 = v := hq2.symm
            have j3 : p3 = 0 := hq3.symm
            subst j1; subst j2; subst j3
            clear hq1 hq2 hq3
            have CV1 := Lib.hid cV1; have HP3 := Lib.hid hP3; have HLE := Lib.hid hle; have HB := Lib.hid hbox
            clear cV1 cV hP3 hP2 hle hbox
            go_wp2_with fail
            refine (CV1.out).mono ?_
            rintro e w4 ⟨rfl, hb4⟩
            have hP4 := HP3.out.step hb4
            have hb := (hb4.block w2.heap.size (by simp)).trans HB.out
            have g0 := cell_of_row _ _ 0 _ _ _ hb
            have g1 := cell_of_row _ _ 1 _ _ _ hb
            simp at g0 g1
            obtain ⟨r0, r1, f0, f1⟩ := hP4.cells
            have HP4 := Lib.hid hP4
            clear hP4 hb4 hb
            go_wp2_with fail
            exact HP4.out.out HLE.out _ _ _ rfl rfl rfl
end Go.Proofs.YtdhochjcigingaaDoor
