/- The reference's Valid, Encode, Append; what was written. -/
import Derived.Test.YtogcpjkgliijmaaRNum
import Derived.Deep.RegionHeld3
namespace Go.Proofs.Ytogcpjkgliijmaa
open Go.RowKit

set_option maxRecDepth 100000 in
set_option maxHeartbeats 1000000 in
theorem refvalid_ok (d : Dec) (w : World) (h : d.ok = true) :
    Calls Try.prog 60 #[d.val] w fun e w' => e = .returned (.bool true) ∧ Below w.heap.size w w' := by
  obtain ⟨⟨d0, d1⟩, ⟨k0, k1⟩, ⟨n0, n1⟩, ⟨s0, s1⟩, ⟨v0, v1⟩⟩ := validB_true h
  obtain ⟨day, known, kind, subj, value⟩ := d
  simp only at d0 d1 k0 k1 n0 n1 s0 s1 v0 v1
  unfold Dec.val
  simp only
  clear h
  have hv : value = 0 ∨ value = 1 := by omega
  rcases hv with rfl | rfl
  all_goals
    clear v0 v1
    go_enter Try.func60, Try.ntmps60
    go_wp2_with fail
    go_ret
    exact ⟨rfl, (Below.refl _ _).alloc (Nat.le_refl _) _⟩

theorem ba_append (a b : List UInt8) : (⟨a.toArray⟩ : ByteArray) ++ ⟨b.toArray⟩ = ⟨(a ++ b).toArray⟩ := by
  apply ByteArray.ext
  simp [ByteArray.data_append]

/-- The box of a decision, and what stays. -/
structure EB (d : Dec) (w W : World) : Prop where
  c0 : W.cell? ⟨w.heap.size, 0, none⟩ = some (.int .i64 d.day)
  c1 : W.cell? ⟨w.heap.size, 1, none⟩ = some (.int .i64 d.known)
  c2 : W.cell? ⟨w.heap.size, 2, none⟩ = some (.int .i64 d.kind)
  c3 : W.cell? ⟨w.heap.size, 3, none⟩ = some (.int .i64 d.subj)
  c4 : W.cell? ⟨w.heap.size, 4, none⟩ = some (.int .i64 d.value)
  below : Below w.heap.size w W

theorem EB.step {d : Dec} {w W W' : World} (h : EB d w W) (hb : Below W.heap.size W W') : EB d w W' :=
  ⟨cell_later hb h.c0, cell_later hb h.c1, cell_later hb h.c2, cell_later hb h.c3, cell_later hb h.c4, below_step h.below hb⟩

theorem number_eb (d : Dec) (w W : World) (n x : Int) (m : Nat) (hx : x = m) (h0 : 0 ≤ n) (h1 : n < 4294967296) (hm : m ≤ 4) (h : EB d w W) :
    Calls Try.prog 65 #[.int .i64 n, .int .i64 x] W fun e w' => e = .returned (.string ⟨(beS n m).toArray⟩) ∧ EB d w w' := by
  subst hx
  exact (number_any W n m h0 h1 hm).mono fun e w' ⟨he, hb⟩ => ⟨he, h.step hb⟩

set_option maxHeartbeats 4000000 in
theorem refencode_ok (d : Dec) (w : World) (h : d.ok = true) :
    Calls Try.prog 41 #[d.val] w fun e w' => e = .returned (.tuple #[.string ⟨(encS d).toArray⟩, .int .i64 0]) ∧ Below w.heap.size w w' := by
  obtain ⟨⟨d0, d1⟩, ⟨k0, k1⟩, ⟨n0, n1⟩, ⟨s0, s1⟩, ⟨v0, v1⟩⟩ := validB_true h
  have cV := fun W => refvalid_ok d W h
  unfold Dec.val at cV ⊢
  have CV := Lib.hid cV; clear cV h
  go_enter Try.func41, Try.ntmps41
  go_wp2_with fail
  refine (CV.out _).mono ?_; rintro r W ⟨rfl, hb⟩
  have x0 : W.cell? ⟨w.heap.size, 0, none⟩ = some (.int .i64 d.day) := by rw [hb.cell (p := ⟨w.heap.size, 0, none⟩) (by simp)]; simp
  have x1 : W.cell? ⟨w.heap.size, 1, none⟩ = some (.int .i64 d.known) := by rw [hb.cell (p := ⟨w.heap.size, 1, none⟩) (by simp)]; simp
  have x2 : W.cell? ⟨w.heap.size, 2, none⟩ = some (.int .i64 d.kind) := by rw [hb.cell (p := ⟨w.heap.size, 2, none⟩) (by simp)]; simp
  have x3 : W.cell? ⟨w.heap.size, 3, none⟩ = some (.int .i64 d.subj) := by rw [hb.cell (p := ⟨w.heap.size, 3, none⟩) (by simp)]; simp
  have x4 : W.cell? ⟨w.heap.size, 4, none⟩ = some (.int .i64 d.value) := by rw [hb.cell (p := ⟨w.heap.size, 4, none⟩) (by simp)]; simp
  have hE : EB d w W.drew := ⟨x0, x1, x2, x3, x4, (below_of_alloc hb).drew⟩
  obtain ⟨B, hB⟩ : ∃ B, B = w.heap.size := ⟨_, rfl⟩
  rw [← hB] at x0 x1 x2 x3 x4
  have HB := Lib.hid hB
  clear CV hb
  go_wp2_with fail
  rw [← hB]
  clear hB
  have t1 : (beS d.day 3).length = 3 := beS_len _ _
  have t2 : (beS d.known 2).length = 2 := beS_len _ _
  have t3 : (beS d.kind 1).length = 1 := beS_len _ _
  have t4 : (beS d.subj 1).length = 1 := beS_len _ _
  have t5 : (beS d.value 1).length = 1 := beS_len _ _
  go_region_held3 (fun W => W.cell? ⟨B, 0, none⟩ = some (.int .i64 d.day) ∧ W.cell? ⟨B, 1, none⟩ = some (.int .i64 d.known) ∧ W.cell? ⟨B, 2, none⟩ = some (.int .i64 d.kind) ∧ W.cell? ⟨B, 3, none⟩ = some (.int .i64 d.subj) ∧ W.cell? ⟨B, 4, none⟩ = some (.int .i64 d.value)) (go_keep)
    ((go_at_call 65; refine (number_eb d w _ _ _ _ (by first | exact (rfl : (3 : Int) = ((3 : Nat) : Int)) | exact (rfl : (2 : Int) = ((2 : Nat) : Int)) | exact (rfl : (1 : Int) = ((1 : Nat) : Int))) (by omega) (by omega) (by decide) (by assumption)).mono ?_; rintro e w' ⟨rfl, hE'⟩; have y0 := hE'.c0; have y1 := hE'.c1; have y2 := hE'.c2; have y3 := hE'.c3; have y4 := hE'.c4; rw [← HB.out] at y0 y1 y2 y3 y4))
  simp only [ba_append]
  rw [show beS d.day 3 ++ beS d.known 2 ++ beS d.kind 1 ++ beS d.subj 1 ++ beS d.value 1 = bodyS d from rfl]
  have cS := fun W => refsum_any ⟨(bodyS d).toArray⟩ W (by show (bodyS d).toArray.size ≤ maxLen; rw [List.size_toArray, bodyS_len]; decide)
  change ∀ W, Calls Try.prog 56 _ W fun e w' => e = .returned (.int .i64 (sumS (bodyS d) : Nat)) ∧ w' = W at cS
  have CS := Lib.hid cS
  have hs := sumS_lt (bodyS d)
  have hs0 : (0 : Int) ≤ (sumS (bodyS d) : Nat) := by omega
  have hs1 : ((sumS (bodyS d) : Nat) : Int) < 4294967296 := by omega
  have t6 : (bodyS d).length = 8 := bodyS_len d
  have t7 : (beS (sumS (bodyS d) : Nat) 4).length = 4 := beS_len _ _
  have hE2 := CS.out
  have henc : encS d = bodyS d ++ beS (sumS (bodyS d) : Nat) 4 := rfl
  have HE := Lib.hid henc
  clear cS hE2 hs henc
  go_wp2_with fail
  refine (CS.out _).mono ?_; rintro e w2 ⟨rfl, rfl⟩
  go_wp2_with fail
  refine (number_eb d w _ _ 4 4 rfl hs0 hs1 (by decide) (by assumption)).mono ?_; rintro e w3 ⟨rfl, hE6⟩
  go_wp2_with fail
  go_ret2
  exact ⟨by rw [HE.out, ← ba_append]; rfl, hE6.below⟩
end Go.Proofs.Ytogcpjkgliijmaa
