/- der.look at elements without elements. -/
import Derived.Test.YtppodhbfjnekcaaSize
import Derived.Test.YtppodhbfjnekcaaSame
namespace Go.Proofs.Ytppodhbfjnekcaa
open Go.RowKit

theorem Plain.alloc_new (w : World) (c : Array Value) (t : TypeId) (n : Nat) (hn : n = w.heap.size) : Plain (w.alloc (.cells c t)) n := by
  subst hn; exact ⟨c, t, heap_alloc_new w _⟩

/-- What look says of them: all have their shape; and they are small. -/
def allShape : List Leaf → Bool
  | [] => true
  | x :: l => shapeB x.t x.nb x.ll 0 && allShape l

def LookPost (w : World) (s : Bool) (e : Ending) (w' : World) : Prop := e = .returned (.tuple #[.bool s, .bool true]) ∧ Below w.heap.size w w'

theorem MapP.lt {w : World} {r : Nat} {l : List (Addr × Int)} (h : MapP w r l) : r < w.heap.size := by
  obtain ⟨es, clock, hb, _⟩ := h
  exact (Array.getElem?_eq_some_iff.1 hb).1

theorem MapP.mono {w w' : World} {r : Nat} {l : List (Addr × Int)} (h : MapP w r l) (hb : Below w.heap.size w w') : MapP w' r l := by
  have hl := h.lt
  obtain ⟨es, clock, h1, h2, h3⟩ := h
  exact ⟨es, clock, (hb.block r hl).trans h1, h2, fun x hx => (h3 x hx).mono hb⟩

theorem MapP.drewN {w : World} {r : Nat} {l : List (Addr × Int)} (h : MapP w r l) (q : Nat) : MapP (w.drewN q) r l := h
theorem Plain.drewN {w : World} {b : Nat} (h : Plain w b) (q : Nat) : Plain (w.drewN q) b := h

theorem Put.cell {w w' : World} {r : Nat} (h : Put w w' r) {b o : Nat} (hne : b ≠ r) : w'.cell? ⟨b, o, none⟩ = w.cell? ⟨b, o, none⟩ := World.cell?_of_block (h.block b hne)

theorem Put.below {w w' : World} {r B : Nat} (h : Put w w' r) (hB : B ≤ r) : Below B w w' :=
  ⟨h.os, h.tape, h.output, by rw [h.size]; exact Nat.le_refl _, fun k hk => h.block k (by omega)⟩

theorem allShape_take (ls : List Leaf) (k : Nat) (h : k < ls.length) : allShape (ls.take (k + 1)) = (allShape (ls.take k) && shapeB (ls.getD k default).t (ls.getD k default).nb (ls.getD k default).ll 0) := by
  induction ls generalizing k with
  | nil => simp at h
  | cons x l ih =>
    cases k with
    | zero => simp [allShape]
    | succ k =>
      simp only [List.length_cons] at h
      have := ih k (by omega)
      simp only [List.take_succ_cons, allShape, this, List.getD_cons_succ, Bool.and_assoc]

/-- All that the walk through look asks of the world in which the root has been met. -/
structure Met (w w2 : World) (b o c n : Nat) (ls : List Leaf) : Prop where
  map : MapP w2 (w.heap.size + 1) [(⟨w.heap.size, 0, none⟩, -1)]
  root : Plain w2 w.heap.size
  elems : w2.cell? ⟨w.heap.size, 3, none⟩ = some (.slice (some ⟨b, o, none⟩) n c)
  todo : w2.cell? ⟨w.heap.size + 1 + 1, 0, none⟩ = some (.pointer (some ⟨w.heap.size, 0, none⟩))
  leaves : Leaves w2 b o ls
  row : Plain w2 b
  below : Below w.heap.size w w2

theorem Met.mono {w w2 w3 : World} {b o c n : Nat} {ls : List Leaf} (h : Met w w2 b o c n ls) (hb : Below w2.heap.size w2 w3) : Met w w3 b o c n ls :=
  ⟨h.map.mono hb, h.root.mono hb, cell_later hb h.elems, cell_later hb h.todo, h.leaves.mono hb, h.row.mono hb, h.below.trans (hb.mono h.below.size)⟩

theorem Met.fresh {w w2 : World} {b o c n : Nat} {ls : List Leaf} (_h : Met w w2 b o c n ls) (hb : b < w.heap.size) : Fresh [(⟨w.heap.size, 0, none⟩, -1)] b o n := by
  intro i _
  have : ((⟨b, o + i * 4, none⟩ : Addr) == ⟨w.heap.size, 0, none⟩) = false := by
    rw [beq_eq_false_iff_ne]; intro e; have := congrArg Addr.block e; simp at this; omega
  simp [getP, this]

theorem Met.lookE {w w2 : World} {b o c n : Nat} {ls : List Leaf} (h : Met w w2 b o c n ls) (hb : b < w.heap.size) (i : Nat) (hi : i < n) :
    (Instr.lookup 92 (.map (some (w.heap.size + 1))) (.pointer (some ⟨b, o + i * 4, none⟩)) true).run Try.prog w2 = .ok (.tuple #[.int .i64 0, .bool false]) w2 := by
  have := run_lookup_p_ok (a := ⟨b, o + i * 4, none⟩) h.map h.row
  rw [lookP_get, lookP_some, h.fresh hb i hi] at this
  exact this

theorem Met.lookR {w w2 : World} {b o c n : Nat} {ls : List Leaf} (h : Met w w2 b o c n ls) :
    (Instr.lookup 92 (.map (some (w.heap.size + 1))) (.pointer (some ⟨w.heap.size, 0, none⟩)) true).run Try.prog w2 = .ok (.tuple #[.int .i64 (-1), .bool true]) w2 := by
  have := run_lookup_p_ok (a := ⟨w.heap.size, 0, none⟩) h.map h.root
  rw [lookP_get, lookP_some] at this
  simpa [getP] using this

/-- The world in which the map is first asked, and what the first store leaves. -/
theorem met_start (w : World) (b o c n : Nat) (ls : List Leaf) (hl : Leaves w b o ls) (hp : Plain w b) :
    let X := ((w.alloc (.cells #[.int .i64 0, .slice none 0 0, .bool false, .slice (some ⟨b, o, none⟩) n c] 30)).alloc (.map #[] 0)).alloc (.cells #[.pointer (some ⟨w.heap.size, 0, none⟩)] 72)
    (Instr.lookup 92 (.map (some (w.heap.size + 1))) (.pointer (some ⟨w.heap.size, 0, none⟩)) true).run Try.prog X = .ok (.tuple #[.int .i64 0, .bool false]) X ∧
    ∃ w2, (Instr.mapUpdate 92 (.map (some (w.heap.size + 1))) (.pointer (some ⟨w.heap.size, 0, none⟩)) (.int .i64 (-1))).run Try.prog X = .ok () w2 ∧ Met w w2 b o c n ls := by
  intro X
  have hbl := hp.lt
  have hX : Below w.heap.size w X := (((Below.refl _ _).alloc (Nat.le_refl _) _).alloc (by simp) _).alloc (by simp; omega) _
  have h0 : X.heap[w.heap.size]? = some (.cells #[.int .i64 0, .slice none 0 0, .bool false, .slice (some ⟨b, o, none⟩) n c] 30 (0, 0)) :=
    (Below.heap_alloc _ _ _ (by simp; omega)).trans ((Below.heap_alloc _ _ _ (by simp)).trans (heap_alloc_new w _))
  have h1 : X.heap[w.heap.size + 1]? = some (.map #[] 0) := by
    refine (Below.heap_alloc _ _ _ (by simp)).trans ?_
    have := heap_alloc_new (w.alloc (.cells #[.int .i64 0, .slice none 0 0, .bool false, .slice (some ⟨b, o, none⟩) n c] 30)) (.map #[] 0)
    rwa [World.size_alloc] at this
  have h2 : X.heap[w.heap.size + 1 + 1]? = some (.cells #[.pointer (some ⟨w.heap.size, 0, none⟩)] 72 (0, 0)) := by
    have := heap_alloc_new ((w.alloc (.cells #[.int .i64 0, .slice none 0 0, .bool false, .slice (some ⟨b, o, none⟩) n c] 30)).alloc (.map #[] 0)) (.cells #[.pointer (some ⟨w.heap.size, 0, none⟩)] 72)
    rwa [World.size_alloc, World.size_alloc] at this
  have hr : Plain X w.heap.size := ⟨_, _, h0⟩
  have hm : MapP X (w.heap.size + 1) [] := ⟨_, _, h1, trivial, fun _ h => by cases h⟩
  refine ⟨?_, ?_⟩
  · have := run_lookup_p_ok (a := ⟨w.heap.size, 0, none⟩) hm hr
    rw [lookP_get, lookP_some] at this
    simpa [getP] using this
  · obtain ⟨w2, hup, hm2, hput⟩ := run_update_p (a := ⟨w.heap.size, 0, none⟩) (-1) hm hr
    have hb2 : Below w.heap.size w w2 := hX.trans (hput.below (by omega))
    refine ⟨w2, hup, hm2, hput.plain hm hr, ?_, ?_, hl.mono hb2, hp.mono hb2, hb2⟩
    · rw [hput.cell (by omega)]; simp [World.cell?, h0]
    · rw [hput.cell (by omega)]; simp [World.cell?, h2]

set_option maxRecDepth 100000 in
set_option maxHeartbeats 2000000 in
theorem look_leaves (b o c : Nat) (ls : List Leaf) (w : World) (n : Nat) (hn : ls.length = n) (hn0 : 0 < n) (hl : Leaves w b o ls) (hp : Plain w b) (hs : sizeL ls ≤ 2147483647) :
    Calls Try.prog 39 #[.slice (some ⟨b, o, none⟩) n c] w (LookPost w (allShape ls)) := by
  have hnb : n ≤ 33554432 := by have := sizeL_len ls; omega
  have hmm := @run_makeMap Try.prog
  have hbl := hp.lt
  have HN := Lib.hid hn; clear hn
  have HL := Lib.hid hl; clear hl
  obtain ⟨hlk1, w2, hup, hmet⟩ := met_start w b o c n ls HL.out hp
  have q3 := hmet.elems
  have q0 := hmet.todo
  go_enter Try.func39, Try.ntmps39
  go_wp2_with fail
  refine wp_loop_rounds 3 ?_; rw [rounds_succ]
  go_wp2_with fail
  go_loopw [2, 3, 6, 56] (fun sv mv tv i wr => ∃ (k : Nat) (s : Bool), k ≤ n ∧ i = .int .i64 k ∧ sv = .bool s ∧ mv = .bool true ∧ tv = .slice (some ⟨w.heap.size + 1 + 1, 0, none⟩) 1 1 ∧ Hid (s = allShape (ls.take k)) ∧ Met w wr b o c n ls) (fun _ _ _ i _ => n - (intOf i).toNat)
  case atStart => exact ⟨0, true, by omega, rfl, rfl, rfl, rfl, Lib.hid rfl, hmet⟩
  case round =>
    clear hlk1 hup q3 q0
    obtain ⟨k, s, hk, rfl, rfl, rfl, rfl, HS, hmr⟩ := hrel
    have q3 := hmr.elems
    by_cases hlt : k < n
    · obtain ⟨x, hx⟩ : ∃ x, x = ls.getD k default := ⟨_, rfl⟩
      have he := hmr.leaves k (by rw [HN.out]; exact hlt)
      rw [← hx] at he
      have hstep := allShape_take ls k (by rw [HN.out]; exact hlt)
      rw [← HS.out, ← hx] at hstep
      have HX := Lib.hid hx; clear hx
      have HST := Lib.hid hstep; clear hstep
      obtain ⟨e0, e1, e2, e3⟩ := he
      cases s
      · have hlk := hmr.lookE hbl k hlt
        go_wp2
        go_roundw
        case rel =>
          exact ⟨k + 1, false, by omega, by go_num, rfl, rfl, rfl, Lib.hid (by rw [HST.out]; rfl), hmr⟩
        case measure => simp [intOf]; omega
      · go_wp2_with fail
        refine (hasShape_any _).mono ?_
        rintro e w4 ⟨rfl, hb4⟩
        have hm4 := hmr.mono hb4
        have hlk := hm4.lookE hbl k hlt
        have g3 := hm4.elems
        have he4 := (hm4.leaves k (by rw [HN.out]; exact hlt)).c3
        rw [← HX.out] at he4
        go_wp2
        go_roundw
        case rel =>
          exact ⟨k + 1, _, by omega, by go_num, rfl, rfl, rfl, Lib.hid (by rw [HST.out]; rfl), hm4⟩
        case measure => simp [intOf]; omega
    · have hall : s = allShape ls := by
        rw [HS.out, List.take_of_length_le (by rw [HN.out]; omega)]
      subst hall
      have hlkR := hmr.lookR
      have q0 := hmr.todo
      go_wp2_with fail
      rw [rounds_succ]
      go_wp2_with fail
      refine (size_leaves b o c (w.heap.size + 1) ls _ _ n HN.out hmr.leaves hmr.map hmr.row (hmr.fresh hbl) hs).mono ?_
      rintro e w' ⟨rfl, q, rfl⟩
      obtain ⟨w5, hup5, hm5, hput5⟩ := run_update_p (a := ⟨w.heap.size, 0, none⟩) (sizeL ls : Int) (hmr.map.drewN q) (hmr.root.drewN q)
      have g0 : w5.cell? ⟨w.heap.size + 1 + 1, 0, none⟩ = some (.pointer (some ⟨w.heap.size, 0, none⟩)) := (hput5.cell (by omega)).trans q0
      have hroot5 : Plain w5 w.heap.size := hput5.plain (hmr.map.drewN q) (hmr.root.drewN q)
      have hlk5 : (Instr.lookup 92 (.map (some (w.heap.size + 1))) (.pointer (some ⟨w.heap.size, 0, none⟩)) false).run Try.prog w5.drew = .ok (.int .i64 (sizeL ls)) w5.drew := by
        have := run_lookup_p (w := w5.drew) (a := ⟨w.heap.size, 0, none⟩) hm5 hroot5
        rw [lookP_get] at this
        simpa [setP, getP] using this
      have hb5 : Below w.heap.size w w5 := hmr.below.trans ((below_drewN (Below.refl _ _) q).trans (hput5.below (by omega)))
      have hs' : (sizeL ls : Int) ≤ 2147483647 := by omega
      go_wp2_with fail
      rw [rounds_succ]
      go_wp2_with fail
      go_region
      go_wp2
      go_ret2
      exact ⟨rfl, hb5.drew⟩
end Go.Proofs.Ytppodhbfjnekcaa
