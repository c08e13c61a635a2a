/- The document's Parse (13) without a dash. -/
import Derived.Test.YtdhochjcigingaaDoorRefParse
namespace Go.Proofs.YtdhochjcigingaaDoor
open Go.RowKit
set_option linter.all false

def PlainP (s : List UInt8) (w : World) (e : Ending) (w' : World) : Prop := ParseP (if validB (findS s : Nat) 0 then (findS s : Nat) else 0) 0 (if validB (findS s : Nat) 0 then 0 else 7) w e w'

set_option maxHeartbeats 4000000 in
theorem refparse_none (s : List UInt8) (hs : s.length ≤ 1000) (hA : ∀ c ∈ s, c.toNat ≠ 45) (w : World) : Calls Tryd.prog 13 #[.string ⟨s.toArray⟩] w (PlainP s w) := by
  have hP0 : PR w w.heap.size (w.alloc (.cells #[.int .i64 0, .int .i64 0] 23)) := ⟨heap_alloc_new _ _, (Below.refl _ _).alloc (Nat.le_refl _) _⟩
  have hbef : ∀ k, k < s.length → (s.getD k 0).toNat ≠ 45 := fun k hk => by
    rw [List.getD, List.getElem?_eq_getElem hk]
    exact hA _ (List.getElem_mem hk)
  clear hA
  unfold PlainP
  have cF := fun W => reffind_any s W
  have cV := fun W => refvalid_any (findS s : Nat) 0 W
  generalize (findS s : Int) = f at *
  generalize hq1 : (if validB f 0 = true then f else 0) = p1
  generalize hq3 : (if validB f 0 = true then (0 : Int) else 7) = p3
  generalize hR : w.heap.size = R at hP0
  have HP0 := Lib.hid hP0; clear hP0
  go_enter Tryd.func13, Tryd.ntmps13
  go_wp2_with fail
  generalize w.alloc (.cells #[.int .i64 0, .int .i64 0] 23) = W at *
  go_loopw [4] (fun i wr => ∃ k : Nat, k ≤ s.length ∧ i = .int .i64 (k : Int) ∧ W = wr) (fun i _ => s.length - (intOf i).toNat)
  case atStart => exact ⟨0, by omega, rfl, rfl⟩
  case round =>
    obtain ⟨k, hk, rfl, rfl⟩ := hrel
    by_cases hlt : k < s.length
    · have hlt1 : (k : Int) < (s.length : Int) := by omega
      have hgk := ba_get s k
      have hne := hbef k hlt
      clear hbef
      generalize s.getD k 0 = d at *
      have e1 : ((d.toNat : Int) == 45) = false := beq_eq_false_iff_ne.2 (by omega)
      go_wp2_with fail
      go_roundw
      case rel => exact ⟨k + 1, by omega, by go_num, by first | rfl | trivial⟩
      case measure => simp [intOf]; omega
    · have hk' : k = s.length := by omega
      subst hk'
      clear hbef
      go_wp2_with fail
      refine (cF _).mono ?_
      rintro e w2 ⟨rfl, hb2⟩
      have hP2 := HP0.out.step hb2
      clear cF hb2
      have hP3 := hP2.step ((Below.refl _ _).alloc (Nat.le_refl _) (.cells #[.int .i64 f, .int .i64 0] 23))
      have hle : w.heap.size ≤ R := by omega
      have hbox : (w2.alloc (.cells #[.int .i64 f, .int .i64 0] 23)).heap[w2.heap.size]? = some (.cells #[.int .i64 f, .int .i64 0] 23 (0, 0)) := heap_alloc_new _ _
      have cV1 := cV (w2.alloc (.cells #[.int .i64 f, .int .i64 0] 23))
      have HP3 := Lib.hid hP3; have HLE := Lib.hid hle; have HB := Lib.hid hbox
      clear cV hP3 hP2 hle hbox
      rcases hvv : validB f 0 with _ | _
      · rw [hvv] at cV1
        rw [hvv] at hq1 hq3
        have j1 : p1 = 0 := hq1.symm
        have j3 : p3 = 7 := hq3.symm
        subst j1; subst j3
        have CV1 := Lib.hid cV1
        clear hq1 hq3 cV1
        go_wp2_with fail
        refine (CV1.out).mono ?_
        rintro e w4 ⟨rfl, hb4⟩
        have hP4 := HP3.out.step hb4
        obtain ⟨r0, r1, f0, f1⟩ := hP4.cells
        have HP4 := Lib.hid hP4
        clear hP4 hb4
        go_wp2_with fail
        exact HP4.out.out HLE.out _ _ _ rfl rfl rfl
      · rw [hvv] at cV1
        rw [hvv] at hq1 hq3
        have j1 : p1 = f := hq1.symm
        have j3 : p3 = 0 := hq3.symm
        subst j1; subst j3
        have CV1 := Lib.hid cV1
        clear hq1 hq3 cV1
        go_wp2_with fail
        refine (CV1.out).mono ?_
        rintro e w4 ⟨rfl, hb4⟩
        have hP4 := HP3.out.step hb4
        have hb := (hb4.block w2.heap.size (by simp)).trans HB.out
        have g0 := cell_of_row _ _ 0 _ _ _ hb
        have g1 := cell_of_row _ _ 1 _ _ _ hb
        simp at g0 g1
        obtain ⟨r0, r1, f0, f1⟩ := hP4.cells
        have HP4 := Lib.hid hP4
        clear hP4 hb4 hb
        go_wp2_with fail
        exact HP4.out.out HLE.out _ _ _ rfl rfl rfl
end Go.Proofs.YtdhochjcigingaaDoor
