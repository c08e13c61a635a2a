/- The document's rows (58), Name (17), Kind (19). -/
import Derived.Test.YtdhochjcigingaaDoorStren
import Derived.Great.BuildSlice
import Derived.Laws.OwnMore
import Derived.OwnWalk
namespace Go.Proofs.YtdhochjcigingaaDoor
open Go.RowKit
set_option linter.all false

/-- The document's rows: name, kind. -/
def ralgCells (r : List UInt8 × Int × Int) : List Value := [.string ⟨r.1.toArray⟩, .int .i64 r.2.1]
def ralgC : List Value := algL.flatMap ralgCells

theorem rinfo89 : (Tryd.prog.info? 89).map (fun i => (i.zero, i.size, i.bytes)) = some (some (.agg #[.string ⟨#[]⟩, .int .i64 0]), 2, 24) := by kernel_rfl

def RRows (w : World) (e : Ending) (w' : World) : Prop := ∃ R, e = .returned (.slice (some ⟨R, 0, none⟩) 23 23) ∧ w'.heap[R]? = some (.cells ralgC.toArray 89 (0, 0)) ∧ w.heap.size ≤ R ∧ Below w.heap.size w w'

set_option maxRecDepth 100000 in
set_option maxHeartbeats 4000000 in
theorem refrows_any (w : World) : Calls Tryd.prog 58 #[] w (RRows w) := by
  obtain ⟨i0, hi, hz0, hz1, _⟩ := info_parts rinfo89
  have HI := Lib.hid hi; have HZ0 := Lib.hid hz0; have HZ1 := Lib.hid hz1
  clear hi hz0 hz1
  go_enter Tryd.func58, Tryd.ntmps58
  go_wp2_with (refine wp_buildSlice 90 89 23 _ rfl ralgC.toArray i0 (.agg #[.string ⟨#[]⟩, .int .i64 0]) Tryd.underlying90 HI.out HZ0.out (by rw [HZ1.out]; decide) (by rw [HZ1.out]; decide) (by rw [HZ1.out]; show _ = _; kernel_rfl) ?_)
  go_ret
  exact ⟨_, rfl, heap_alloc_new _ _, Nat.le_refl _, (Below.refl _ _).alloc (Nat.le_refl _) _⟩

/-- The document's rows lie in a block. -/
def RA (W : World) (R : Nat) : Prop := ∀ i, i < 23 → W.cell? ⟨R, i * 2, none⟩ = some (.string ⟨(anm i).toArray⟩) ∧ W.cell? ⟨R, i * 2 + 1, none⟩ = some (.int .i64 (akd i))
theorem ra_of {W : World} {R : Nat} (h : W.heap[R]? = some (.cells ralgC.toArray 89 (0, 0))) : RA W R := by
  have key : ∀ o, W.cell? ⟨R, o, none⟩ = ralgC[o]? := fun o => by
    simp [World.cell?, h]
  intro i hi
  have hl : algL.length = 23 := rfl
  have hd : algL.getD i ([], 0, 0) = algL[i]'(by omega) := by rw [List.getD, List.getElem?_eq_getElem (by omega)]; rfl
  have g := flatn_get ralgCells 2 (fun _ => rfl) algL i (by omega)
  unfold anm akd
  rw [hd, key, key]
  exact ⟨g 0 (by omega), g 1 (by omega)⟩
def RRowsA (w : World) (e : Ending) (w' : World) : Prop := ∃ R, e = .returned (.slice (some ⟨R, 0, none⟩) 23 23) ∧ RA w' R ∧ Below w.heap.size w w'
theorem refrows_at (w : World) : Calls Tryd.prog 58 #[] w (RRowsA w) :=
  (refrows_any w).mono fun _ _ ⟨R, he, hh, _, hb⟩ => ⟨R, he, ra_of hh, hb⟩


set_option maxHeartbeats 1000000 in
theorem refname_in (k : Nat) (h0 : 1 ≤ k) (hk : k < 23) (w : World) : Calls Tryd.prog 17 #[.int .i64 k] w (StrP (anm k) w) := by
  have h1 : (1 : Int) ≤ (k : Int) := by omega
  have h2 : (k : Int) < 23 := by omega
  go_enter Tryd.func17, Tryd.ntmps17
  go_wp2_with fail
  refine (refrows_at _).mono ?_
  rintro e W1 ⟨R, rfl, hv, hb⟩
  obtain ⟨c0, c1⟩ := hv k hk
  have HB := Lib.hid hb
  clear hv hb
  go_wp2_with fail
  go_ret
  exact ⟨rfl, HB.out⟩
theorem refname_out (i : Int) (h : ¬ (1 ≤ i ∧ i < 23)) (w : World) : Calls Tryd.prog 17 #[.int .i64 i] w (StrP [] w) := by
  by_cases h1 : i < 1
  · clear h
    go_enter Tryd.func17, Tryd.ntmps17
    go_wp2_with fail
    go_ret
    exact ⟨rfl, Below.refl _ _⟩
  · have h2 : 22 < i := by omega
    clear h
    go_enter Tryd.func17, Tryd.ntmps17
    go_wp2_with fail
    go_ret
    exact ⟨rfl, Below.refl _ _⟩
theorem refname_any (i : Int) (w : World) : Calls Tryd.prog 17 #[.int .i64 i] w (StrP (anI i) w) := by
  unfold anI
  by_cases hi : 1 ≤ i ∧ i < 23
  · rw [if_pos ⟨by omega, hi.2⟩]
    obtain ⟨n, rfl⟩ : ∃ n : Nat, i = n := ⟨i.toNat, by omega⟩
    rw [Int.toNat_natCast]
    exact refname_in n (by omega) (by omega) w
  · have he : (if 0 ≤ i ∧ i < 23 then anm i.toNat else []) = [] := by
      by_cases h : 0 ≤ i ∧ i < 23
      · have : i = 0 := by omega
        subst this; rfl
      · rw [if_neg h]
    rw [he]
    exact refname_out i hi w

set_option maxHeartbeats 1000000 in
theorem refkind_in (k : Nat) (h0 : 1 ≤ k) (hk : k < 23) (w : World) : Calls Tryd.prog 19 #[.int .i64 k] w (IntP (akd k) w) := by
  have h1 : (1 : Int) ≤ (k : Int) := by omega
  have h2 : (k : Int) < 23 := by omega
  go_enter Tryd.func19, Tryd.ntmps19
  go_wp2_with fail
  refine (refrows_at _).mono ?_
  rintro e W1 ⟨R, rfl, hv, hb⟩
  obtain ⟨c0, c1⟩ := hv k hk
  have HB := Lib.hid hb
  clear hv hb
  go_wp2_with fail
  go_ret
  exact ⟨rfl, HB.out⟩
theorem refkind_out (i : Int) (h : ¬ (1 ≤ i ∧ i < 23)) (w : World) : Calls Tryd.prog 19 #[.int .i64 i] w (IntP 0 w) := by
  by_cases h1 : i < 1
  · clear h
    go_enter Tryd.func19, Tryd.ntmps19
    go_wp2_with fail
    go_ret
    exact ⟨rfl, Below.refl _ _⟩
  · have h2 : 22 < i := by omega
    clear h
    go_enter Tryd.func19, Tryd.ntmps19
    go_wp2_with fail
    go_ret
    exact ⟨rfl, Below.refl _ _⟩
theorem refkind_any (i : Int) (w : World) : Calls Tryd.prog 19 #[.int .i64 i] w (IntP (akI i) w) := by
  unfold akI
  by_cases hi : 1 ≤ i ∧ i < 23
  · rw [if_pos ⟨by omega, hi.2⟩]
    obtain ⟨n, rfl⟩ : ∃ n : Nat, i = n := ⟨i.toNat, by omega⟩
    rw [Int.toNat_natCast]
    exact refkind_in n (by omega) (by omega) w
  · have he : (if 0 ≤ i ∧ i < 23 then akd i.toNat else 0) = 0 := by
      by_cases h : 0 ≤ i ∧ i < 23
      · have : i = 0 := by omega
        subst this; rfl
      · rw [if_neg h]
    rw [he]
    exact refkind_out i hi w
end Go.Proofs.YtdhochjcigingaaDoor
