/- What is said of slices of bytes and of elements in memory, and the contracts of small functions. -/
import Derived.Test.YtppodhbfjnekcaaRows
import Derived.WalkKit
import Derived.WalkSpells
import Derived.WalkLawsBesides
import Derived.BigQuiet
import Derived.Deep.QuietTactic
import Derived.Lib.Hide
import Derived.Lib.ConvBytes
import Derived.WalkSmall
import Derived.RegionTactic
import Derived.BigRegion
namespace Go.Proofs.Ytppodhbfjnekcaa
open Go.RowKit

/-- A slice value that reads as a list of bytes. -/
def Bts (w : World) (v : Value) (l : List UInt8) : Prop :=
  ∃ (p : Option Addr) (c : Nat), v = .slice p l.length c ∧ l.length ≤ 9223372036854775807 ∧
    (l = [] ∨ ∃ b o, p = some ⟨b, o, none⟩ ∧ ∀ j, j < l.length → w.cell? ⟨b, o + j, none⟩ = some (.int .u8 (l.getD j 0).toNat))

theorem Bts.mono {w w' : World} {v : Value} {l : List UInt8} (h : Bts w v l) (hb : Below w.heap.size w w') : Bts w' v l := by
  obtain ⟨p, c, hv, hl, h⟩ := h
  refine ⟨p, c, hv, hl, ?_⟩
  rcases h with h | ⟨b, o, hp, h⟩
  · exact .inl h
  · exact .inr ⟨b, o, hp, fun j hj => cell_later hb (h j hj)⟩

theorem Bts.nil (w : World) (p : Option Addr) (c : Nat) : Bts w (.slice p 0 c) [] := ⟨p, c, rfl, by simp, .inl rfl⟩

/-- 'string(b)'. -/
theorem Bts.convert {P : Program} {w : World} {v : Value} {l : List UInt8} (h : Bts w v l) (src e dst : TypeId)
    (hs : P.underlying src = some (.slice e)) (he : P.underlying e = some (.int .u8)) (hd : P.underlying dst = some .string) :
    (convert src dst v).run P w = .ok (.string ⟨l.toArray⟩) w := by
  obtain ⟨p, c, rfl, hl, h⟩ := h
  rcases h with h | ⟨b, o, rfl, h⟩
  · subst h
    cases p with
    | none => exact run_convert_bytes_nil w src e hs he 0 c dst hd
    | some a => 
      show (Go.convert src dst (.slice (some a) 0 c)).run P w = _
      rw [run_convert_bytes_string w src dst e _ 0 c hs he hd]
      rw [run_bytesToString w a 0 c [] (run_loadCells_list (P := P) w a [] (fun j v hj => by simp at hj))]
      rfl
  · have hx : (l.map fun b => (b.toNat : Int)).length = l.length := by simp
    rw [run_convert_bytes_arg (P := P) w src e hs he b o l.length c (l.map fun b => (b.toNat : Int)) hx (by
      intro i hi
      rw [h i hi]
      simp [List.getD, hi]) dst hd]
    simp [strOfNums, Function.comp_def]

set_option maxHeartbeats 400000 in
theorem bytesEqual {va vb : Value} {la lb : List UInt8} (w : World) (ha : Bts w va la) (hb : Bts w vb lb) :
    Calls Try.prog 65 #[va, vb] w fun e w' => e = .returned (.bool (la == lb)) ∧ w' = w := by
  have c1 := ha.convert (P := Try.prog) 27 5 9 (by kernel_rfl) (by kernel_rfl) (by kernel_rfl)
  have c2 := hb.convert (P := Try.prog) 27 5 9 (by kernel_rfl) (by kernel_rfl) (by kernel_rfl)
  clear ha hb
  go_enter Try.func65, Try.ntmps65
  go_wp2
  go_ret
  refine ⟨?_, rfl⟩
  congr 2

/-- Four cells of an element. -/
structure El (w : World) (b o : Nat) (t : Int) (bv : Value) (n : Bool) (ev : Value) : Prop where
  c0 : w.cell? ⟨b, o, none⟩ = some (.int .i64 t)
  c1 : w.cell? ⟨b, o + 1, none⟩ = some bv
  c2 : w.cell? ⟨b, o + 2, none⟩ = some (.bool n)
  c3 : w.cell? ⟨b, o + 3, none⟩ = some ev

theorem El.mono {w w' : World} {b o : Nat} {t : Int} {bv : Value} {n : Bool} {ev : Value} (h : El w b o t bv n ev) (hb : Below w.heap.size w w') : El w' b o t bv n ev :=
  ⟨cell_later hb h.c0, cell_later hb h.c1, cell_later hb h.c2, cell_later hb h.c3⟩

/-- What 'alike' says. -/
def alikeB (ta tb : Int) (na nb : Bool) (la lb : List UInt8) (ka kb : Nat) : Bool := decide (ta = tb) && (na == nb) && (la == lb) && decide (ka = kb)

set_option maxHeartbeats 1000000 in
theorem alike_any {va vb : Value} {la lb : List UInt8} {ta tb : Int} {na nb : Bool} {ba oa bb ob ka kb ca cb : Nat} {pa pb : Option Addr} (w : World) (hA : El w ba oa ta va na (.slice pa ka ca)) (hB : El w bb ob tb vb nb (.slice pb kb cb)) (ha : Bts w va la) (hb : Bts w vb lb) :
    Calls Try.prog 43 #[.agg #[.pointer (some ⟨ba, oa, none⟩), .pointer (some ⟨bb, ob, none⟩)]] w fun e w' => e = .returned (.bool (alikeB ta tb na nb la lb ka kb)) ∧ Below w.heap.size w w' := by
  obtain ⟨a0, a1, a2, a3⟩ := hA
  obtain ⟨b0, b1, b2, b3⟩ := hB
  have lA := World.block_lt_of_cell? _ _ a0
  have lB := World.block_lt_of_cell? _ _ b0
  simp only at lA lB
  have hEq := fun W (hW : Below w.heap.size w W) => bytesEqual W (ha.mono hW) (hb.mono hW)
  clear ha hb
  have hW : Below w.heap.size w (w.alloc (.cells #[Value.pointer (some { block := ba, off := oa }), Value.pointer (some { block := bb, off := ob })] 74)) := (Below.refl _ _).alloc (Nat.le_refl _) _
  have hE := fun n => hEq _ (hW.trans (below_drewN (Below.refl _ _) n))
  clear hEq
  have hgo : ∀ r, alikeB ta tb na nb la lb ka kb = r → Calls Try.prog 43 #[.agg #[.pointer (some ⟨ba, oa, none⟩), .pointer (some ⟨bb, ob, none⟩)]] w fun e w' => e = .returned (.bool r) ∧ Below w.heap.size w w' := by
    intro r hr
    by_cases h1 : ta = tb
    · have d1 : (ta == tb) = true := by simpa using h1
      have h1' := Lib.hid h1; clear h1
      by_cases h2 : na = nb
      · have d2 : (na == nb) = true := by simpa using h2
        have h2' := Lib.hid h2; clear h2
        by_cases h3 : (la == lb) = true
        · have hr' := Lib.hid hr; clear hr
          go_enter Try.func43, Try.ntmps43
          go_wp2
          go_quiet ((go_at_call 65; exact Calls.quiet_of_same (hE _)))
          go_wp2
          go_ret
          refine ⟨?_, below_drewN hW _⟩
          rw [← hr'.out]
          simp [alikeB, h1'.out, h2'.out, h3]
          rw [Bool.eq_iff_iff]; simp; omega
        · have d3 : (la == lb) = false := by simpa using h3
          clear h3
          have hr' := Lib.hid hr; clear hr
          go_enter Try.func43, Try.ntmps43
          go_wp2
          go_quiet ((go_at_call 65; exact Calls.quiet_of_same (hE _)))
          go_wp2
          go_ret
          refine ⟨?_, below_drewN hW _⟩
          rw [← hr'.out]
          simp [alikeB, d3]
      · have d2 : (na == nb) = false := by simpa using h2
        clear h2
        have hr' := Lib.hid hr; clear hr
        go_enter Try.func43, Try.ntmps43
        go_wp2
        go_quiet ((go_at_call 65; exact Calls.quiet_of_same (hE _)))
        go_wp2
        go_ret
        refine ⟨?_, below_drewN hW _⟩
        rw [← hr'.out]
        simp [alikeB, d2]
    · have d1 : (ta == tb) = false := by simpa using h1
      have h1' := Lib.hid h1; clear h1
      have hr' := Lib.hid hr; clear hr
      go_enter Try.func43, Try.ntmps43
      go_wp2
      go_quiet ((go_at_call 65; exact Calls.quiet_of_same (hE _)))
      go_wp2
      go_ret
      refine ⟨?_, below_drewN hW _⟩
      rw [← hr'.out]
      simp [alikeB, h1'.out]
  exact hgo _ rfl

end Go.Proofs.Ytppodhbfjnekcaa
