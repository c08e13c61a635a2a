/- The reference's Latest of a good ledger. -/
import Derived.Test.YtogcpjkgliijmaaKnown
import Derived.Test.YtogcpjkgliijmaaEq
import Derived.Test.YtogcpjkgliijmaaLatest
import Derived.Test.YtogcpjkgliijmaaAddsM
/- The reference's Known of a good ledger. -/
namespace Go.Proofs.Ytogcpjkgliijmaa
open Go.RowKit

theorem cutN_at {l : List Dec} (hg : Good l) (day : Int) (k : Nat) (hk : k < l.length) : decide (l[k].day ≤ day) = decide (k < cutN l day) := by
  have h := cutN_good hg day k hk
  by_cases hc : k < cutN l day
  · have := h.1 hc
    rw [decide_eq_true hc, decide_eq_true_eq]; exact this
  · rw [decide_eq_false hc, decide_eq_false_iff_not]; exact fun h2 => hc (h.2 h2)

set_option maxHeartbeats 2000000 in
theorem refknown_any (w : World) {p : Option Addr} {c : Nat} (day : Int) (l : List Dec) (hg : Good l) (hl : l.length ≤ 1000) (hr : Reads w p l) :
    Calls Try.prog 31 #[.agg #[.slice p l.length c], .int .i64 day] w fun e w' => e = .returned (.int .i64 (knownK l (cutN l day))) ∧ Below w.heap.size w w' := by
  have hbx : Below w.heap.size w (w.alloc (.cells #[.slice p l.length c] 25)) := (Below.refl _ _).alloc (Nat.le_refl _) _
  have hcut := cutN_le l day
  have HR := Lib.hid (hr.mono hbx); have HBX := Lib.hid hbx; have HAT := Lib.hid (cutN_at hg day); have HG := Lib.hid hg
  generalize cutN l day = m at *
  clear hr hbx hg
  go_enter Try.func31, Try.ntmps31
  go_wp2_with fail
  generalize w.alloc (.cells #[.slice p l.length c] 25) = W0 at *
  go_loopw [11, 5] (fun i kn wr => ∃ k : Nat, k ≤ l.length ∧ i = .int .i64 k ∧ kn = .int .i64 (knownK l (min k m)) ∧ Below W0.heap.size W0 wr) (fun i _ _ => l.length - (intOf i).toNat)
  case atStart => exact ⟨0, Nat.zero_le _, rfl, by rw [Nat.zero_min, knownK_zero], Below.refl _ _⟩
  case round =>
    obtain ⟨k, hk, rfl, rfl, hb⟩ := hrel
    by_cases hlt : k < l.length
    · rcases HR.out with h | ⟨b, o, hp, hrow⟩
      · subst h; simp at hlt
      subst hp
      obtain ⟨c0, c1, c2, c3, c4⟩ := (hrow.mono hb) k hlt
      obtain ⟨g0, g1, g2⟩ := knownK_le HG.out hlt
      have hat := HAT.out k hlt
      have HB := Lib.hid (hb.alloc hb.size (.cells #[.int .i64 l[k].day, .int .i64 l[k].known, .int .i64 l[k].kind, .int .i64 l[k].subj, .int .i64 l[k].value] 27))
      clear hb hrow
      by_cases hkm : k < m
      · have e1 : min k m = k := by omega
        have e2 : knownK l (min (k + 1) m) = l[k].known := by rw [show min (k + 1) m = k + 1 by omega, knownK_succ hlt]
        rw [e1]
        rw [decide_eq_true hkm] at hat
        have hif : (if knownK l k < l[k].known then l[k].known else knownK l k) = knownK l (min (k + 1) m) := by rw [e2]; split <;> omega
        have HIF := Lib.hid hif
        clear hif e1 e2
        go_wp2_with fail
        go_roundw
        case rel => exact ⟨k + 1, by omega, by go_num, val_i HIF.out, HB.out⟩
        case measure => simp [intOf]; omega
      · have e1 : knownK l (min (k + 1) m) = knownK l (min k m) := by rw [show min (k + 1) m = min k m by omega]
        have HE := Lib.hid e1
        rw [decide_eq_false hkm] at hat
        clear e1
        go_wp2_with fail
        go_roundw
        case rel => exact ⟨k + 1, by omega, by go_num, by rw [HE.out], HB.out⟩
        case measure => simp [intOf]; omega
    · have e1 : min k m = m := by omega
      rw [e1]
      have HB := Lib.hid (below_step HBX.out hb)
      clear hb e1
      go_wp2_with fail
      go_ret
      exact ⟨rfl, HB.out⟩
end Go.Proofs.Ytogcpjkgliijmaa

namespace Go.Proofs.Ytogcpjkgliijmaa
open Go.RowKit

theorem resW_over {w : World} {b : Nat} {x : Dec} (d : Dec) (h : w.heap[b]? = some (.cells (cells5 x).toArray 27 (0, 0))) :
    (resW w b d.day d.known d.kind d.subj d.value).heap[b]? = some (.cells (cells5 d).toArray 27 (0, 0)) := by
  unfold resW
  have h1 := heap_setCell_same w b 0 _ _ (.int .i64 d.day) h
  have h2 := heap_setCell_same _ b 1 _ _ (.int .i64 d.known) h1
  have h3 := heap_setCell_same _ b 2 _ _ (.int .i64 d.kind) h2
  have h4 := heap_setCell_same _ b 3 _ _ (.int .i64 d.subj) h3
  have h5 := heap_setCell_same _ b 4 _ _ (.int .i64 d.value) h4
  rw [h5]; rfl

theorem resW_below {w W : World} {B b : Nat} (h : Below B w W) (hb : B ≤ b) (a0 a1 a2 a3 a4 : Int) : Below B w (resW W b a0 a1 a2 a3 a4) := by
  unfold resW
  exact ((((h.setCell (by simp only; omega) _).setCell (by simp only; omega) _).setCell (by simp only; omega) _).setCell (by simp only; omega) _).setCell (by simp only; omega) _

theorem res29_run {W : World} {b : Nat} {d : Dec} {q : Bool} {a : Act} (hh : W.heap[b]? = some (.cells (cells5 d).toArray 27 (0, 0))) (ht : a.tmps.getD 8 undef = .pointer (some ⟨b, 0, none⟩)) (h9 : a.tmps.getD 9 undef = .bool q) :
    (results Try.f29 a.tmps).run Try.prog W = .ok (.tuple #[d.val, .bool q]) W := by
  have e0 := cell_of_row _ b 0 _ _ _ hh
  have e1 := cell_of_row _ b 1 _ _ _ hh
  have e2 := cell_of_row _ b 2 _ _ _ hh
  have e3 := cell_of_row _ b 3 _ _ _ hh
  have e4 := cell_of_row _ b 4 _ _ _ hh
  unfold Dec.val
  simp [cells5] at e0 e1 e2 e3 e4 ht h9
  clear hh
  simp [results, Try.results29, go_sem, ht, h9, e0, e1, e2, e3, e4]

def RLRel (W0 : World) (B : Nat) (l : List Dec) (kd s : Int) (m : Nat) (fv iv : Value) (wr : World) : Prop :=
  ∃ (k : Nat) (r : Option Dec), r = latestK l kd s (min k m) ∧ iv = .int .i64 k ∧ fv = .bool r.isSome ∧ k ≤ l.length ∧ wr.heap[B + 1 + 1]? = some (.cells (cells5 (r.getD dz)).toArray 27 (0, 0)) ∧ Below (B + 1 + 1) W0 wr

set_option maxHeartbeats 4000000 in
theorem reflatest_any (w : World) {p : Option Addr} {c : Nat} (kd s day : Int) (l : List Dec) (hg : Good l) (hl : l.length ≤ 1000) (hr : Reads w p l) :
    Calls Try.prog 29 #[.agg #[.slice p l.length c], .int .i64 kd, .int .i64 s, .int .i64 day] w (LatestPost w (latestK l kd s (cutN l day))) := by
  obtain ⟨B, hB⟩ : ∃ B, B = w.heap.size := ⟨_, rfl⟩
  have hbx : Below w.heap.size w (((w.alloc (.cells #[.slice p l.length c] 25)).alloc (.cells #[.int .i64 0, .int .i64 0, .int .i64 0, .int .i64 0, .int .i64 0] 27)).alloc (.cells #[.int .i64 0, .int .i64 0, .int .i64 0, .int .i64 0, .int .i64 0] 27)) := (((Below.refl _ _).alloc (Nat.le_refl _) _).alloc (by simp) _).alloc (by simp; omega) _
  have k1 : (((w.alloc (.cells #[.slice p l.length c] 25)).alloc (.cells #[.int .i64 0, .int .i64 0, .int .i64 0, .int .i64 0, .int .i64 0] 27)).alloc (.cells #[.int .i64 0, .int .i64 0, .int .i64 0, .int .i64 0, .int .i64 0] 27)).heap[B + 1]? = some (.cells (cells5 dz).toArray 27 (0, 0)) := by
    rw [hB, heap_alloc_old _ _ (by simp)]; exact heap_alloc2_new w _ _
  have k2 : (((w.alloc (.cells #[.slice p l.length c] 25)).alloc (.cells #[.int .i64 0, .int .i64 0, .int .i64 0, .int .i64 0, .int .i64 0] 27)).alloc (.cells #[.int .i64 0, .int .i64 0, .int .i64 0, .int .i64 0, .int .i64 0] 27)).heap[B + 1 + 1]? = some (.cells (cells5 dz).toArray 27 (0, 0)) := by
    rw [hB, show w.heap.size + 1 + 1 = ((w.alloc (.cells #[.slice p l.length c] 25)).alloc (.cells #[.int .i64 0, .int .i64 0, .int .i64 0, .int .i64 0, .int .i64 0] 27)).heap.size by simp]; exact heap_alloc_new _ _
  have kb : (((w.alloc (.cells #[.slice p l.length c] 25)).alloc (.cells #[.int .i64 0, .int .i64 0, .int .i64 0, .int .i64 0, .int .i64 0] 27)).alloc (.cells #[.int .i64 0, .int .i64 0, .int .i64 0, .int .i64 0, .int .i64 0] 27)).cell? ⟨B, 0, none⟩ = some (.slice p l.length c) := by
    rw [hB, World.cell?_alloc_lt _ _ _ (by simp; omega), World.cell?_alloc_lt _ _ _ (by simp)]; simp
  have hcut := cutN_le l day
  have HR := Lib.hid (hr.mono hbx); have HBX := Lib.hid hbx; have HAT := Lib.hid (cutN_at hg day); have HB := Lib.hid hB; have HRB := Lib.hid hr; have K1 := Lib.hid k1; have K2 := Lib.hid k2
  generalize cutN l day = m at *
  have KB := Lib.hid kb
  clear hr hbx hg k1 k2
  go_enter Try.func29, Try.ntmps29
  go_upto_region 3 with (fail)
  rw [← hB]
  generalize ((w.alloc (.cells #[.slice p l.length c] 25)).alloc (.cells #[.int .i64 0, .int .i64 0, .int .i64 0, .int .i64 0, .int .i64 0] 27)).alloc (.cells #[.int .i64 0, .int .i64 0, .int .i64 0, .int .i64 0, .int .i64 0] 27) = W0 at *
  clear hB kb
  have kb := KB.out
  go_wp2_with fail
  clear kb
  go_loopw [11, 17] (fun fv iv wr => RLRel W0 B l kd s m fv iv wr) (fun _ iv _ => l.length - (intOf iv).toNat)
  case atStart => exact ⟨0, none, by rw [Nat.zero_min]; rfl, rfl, rfl, Nat.zero_le _, K2.out, Below.refl _ _⟩
  case round =>
    obtain ⟨k, r, hrr, rfl, rfl, hk, hbox, hb⟩ := hrel
    have hsz := lt_of_heap hbox
    by_cases hlt : k < l.length
    · rcases HRB.out with h | ⟨b, o, hp, hrow⟩
      · subst h; simp at hlt
      subst hp
      have hblt := World.block_lt_of_cell? w _ (hrow k hlt).1
      simp only at hblt
      obtain ⟨c0, c1, c2, c3, c4⟩ := ((hrow.mono HBX.out).blk (hb.block b (by have := HB.out; omega))) k hlt
      have hat := HAT.out k hlt
      obtain ⟨d, hde⟩ : ∃ d, d = l[k] := ⟨_, rfl⟩
      rw [← hde] at c0 c1 c2 c3 c4 hat
      have hla : ∀ q : Nat, q = min (k + 1) m → latestK l kd s q = if k < m ∧ d.kind = kd ∧ d.subj = s then some d else r := by
        intro q hq
        subst hq
        by_cases hkm : k < m
        · rw [show min (k + 1) m = k + 1 by omega, latestK_succ hlt, ← hde, hrr, show min k m = k by omega]
          by_cases h1 : d.kind = kd ∧ d.subj = s
          · rw [if_pos h1, if_pos ⟨hkm, h1⟩]
          · rw [if_neg h1, if_neg (fun h => h1 h.2)]
        · rw [show min (k + 1) m = min k m by omega, if_neg (fun h => hkm h.1)]; exact hrr.symm
      have hba : Below wr.heap.size wr (wr.alloc (.cells #[.int .i64 d.day, .int .i64 d.known, .int .i64 d.kind, .int .i64 d.subj, .int .i64 d.value] 27)) := (Below.refl _ _).alloc (Nat.le_refl _) _
      have hb2 := hb.trans (hba.mono (by omega))
      have hbox2 := (hba.block _ hsz).trans hbox
      obtain ⟨X, hX⟩ : ∃ X, X = wr.heap.size := ⟨_, rfl⟩
      have x0 : (wr.alloc (.cells #[.int .i64 d.day, .int .i64 d.known, .int .i64 d.kind, .int .i64 d.subj, .int .i64 d.value] 27)).cell? ⟨X, 0, none⟩ = some (.int .i64 d.day) := by rw [hX]; simp
      have x1 : (wr.alloc (.cells #[.int .i64 d.day, .int .i64 d.known, .int .i64 d.kind, .int .i64 d.subj, .int .i64 d.value] 27)).cell? ⟨X, 1, none⟩ = some (.int .i64 d.known) := by rw [hX]; simp
      have x2 : (wr.alloc (.cells #[.int .i64 d.day, .int .i64 d.known, .int .i64 d.kind, .int .i64 d.subj, .int .i64 d.value] 27)).cell? ⟨X, 2, none⟩ = some (.int .i64 d.kind) := by rw [hX]; simp
      have x3 : (wr.alloc (.cells #[.int .i64 d.day, .int .i64 d.known, .int .i64 d.kind, .int .i64 d.subj, .int .i64 d.value] 27)).cell? ⟨X, 3, none⟩ = some (.int .i64 d.subj) := by rw [hX]; simp
      have x4 : (wr.alloc (.cells #[.int .i64 d.day, .int .i64 d.known, .int .i64 d.kind, .int .i64 d.subj, .int .i64 d.value] 27)).cell? ⟨X, 4, none⟩ = some (.int .i64 d.value) := by rw [hX]; simp
      have p0 := cell_of_row _ (B + 1 + 1) 0 _ _ _ hbox2
      have p1 := cell_of_row _ (B + 1 + 1) 1 _ _ _ hbox2
      have p2 := cell_of_row _ (B + 1 + 1) 2 _ _ _ hbox2
      have p3 := cell_of_row _ (B + 1 + 1) 3 _ _ _ hbox2
      have p4 := cell_of_row _ (B + 1 + 1) 4 _ _ _ hbox2
      have pf : ∀ j, (wr.alloc (.cells #[.int .i64 d.day, .int .i64 d.known, .int .i64 d.kind, .int .i64 d.subj, .int .i64 d.value] 27)).frozen? ⟨B + 1 + 1, j, none⟩ = false := fun j => by simp only [World.frozen?, hbox2]; rfl
      simp [cells5] at p0 p1 p2 p3 p4
      have hne : ¬ X = B + 1 + 1 := by omega
      have hne' : ¬ B + 1 + 1 = X := by omega
      have HLA := Lib.hid hla; have HB2 := Lib.hid hb2; have HBOX := Lib.hid hbox2
      clear hla hb2 hbox2 hbox hb hba hrr hrow hde hblt
      go_upto_region 6 with (fail)
      rw [← hX]
      generalize wr.alloc (.cells #[.int .i64 d.day, .int .i64 d.known, .int .i64 d.kind, .int .i64 d.subj, .int .i64 d.value] 27) = W1 at *
      clear hX c0 c1 c2 c3 c4
      by_cases h1 : d.kind = kd
      · have b1 : (d.kind == kd) = true := by rw [beq_iff_eq]; exact h1
        by_cases h2 : d.subj = s
        · have b2 : (d.subj == s) = true := by rw [beq_iff_eq]; exact h2
          by_cases h3 : k < m
          · rw [decide_eq_true h3] at hat
            have HN := Lib.hid ((HLA.out _ rfl).trans (if_pos ⟨h3, h1, h2⟩))
            have HOV := Lib.hid (resW_over d HBOX.out); have HBL := Lib.hid (resW_below HB2.out (Nat.le_refl _) d.day d.known d.kind d.subj d.value)
            clear h1 h2 h3
            go_upto_region 8 with (fail)
            change Code.wp _ _ _ _ (resW W1 (B + 1 + 1) d.day d.known d.kind d.subj d.value)
            generalize resW W1 (B + 1 + 1) d.day d.known d.kind d.subj d.value = W2 at *
            clear p0 p1 p2 p3 p4 pf x0 x1 x2 x3 x4
            go_wp2_with fail
            go_roundw
            case rel => exact ⟨k + 1, some d, HN.out.symm, by go_num, rfl, by omega, HOV.out, HBL.out⟩
            case measure => simp [intOf]; omega
          · rw [decide_eq_false h3] at hat
            have HN := Lib.hid ((HLA.out _ rfl).trans (if_neg (fun h => h3 h.1)))
            clear h1 h2 h3 p0 p1 p2 p3 p4 pf
            go_wp2_with fail
            go_roundw
            case rel => exact ⟨k + 1, r, HN.out.symm, by go_num, rfl, by omega, HBOX.out, HB2.out⟩
            case measure => simp [intOf]; omega
        · have b2 : (d.subj == s) = false := by rw [beq_eq_false_iff_ne]; exact h2
          have HN := Lib.hid ((HLA.out _ rfl).trans (if_neg (fun h => h2 h.2.2)))
          clear h1 h2 p0 p1 p2 p3 p4 pf
          go_wp2_with fail
          go_roundw
          case rel => exact ⟨k + 1, r, HN.out.symm, by go_num, rfl, by omega, HBOX.out, HB2.out⟩
          case measure => simp [intOf]; omega
      · have b1 : (d.kind == kd) = false := by rw [beq_eq_false_iff_ne]; exact h1
        have HN := Lib.hid ((HLA.out _ rfl).trans (if_neg (fun h => h1 h.2.1)))
        clear h1 p0 p1 p2 p3 p4 pf
        go_wp2_with fail
        go_roundw
        case rel => exact ⟨k + 1, r, HN.out.symm, by go_num, rfl, by omega, HBOX.out, HB2.out⟩
        case measure => simp [intOf]; omega
    · have e1 : min k m = m := by omega
      rw [e1] at hrr
      have h1 := (hb.block (B + 1) (by omega)).trans K1.out
      have HOV := Lib.hid (resW_over (r.getD dz) h1)
      have hbw : Below B w wr := by
        have h2 := HBX.out
        rw [← HB.out] at h2
        exact h2.trans (hb.mono (by omega))
      have HBL := Lib.hid (resW_below hbw (show B ≤ B + 1 by omega) (r.getD dz).day (r.getD dz).known (r.getD dz).kind (r.getD dz).subj (r.getD dz).value)
      have p0 := cell_of_row _ (B + 1 + 1) 0 _ _ _ hbox
      have p1 := cell_of_row _ (B + 1 + 1) 1 _ _ _ hbox
      have p2 := cell_of_row _ (B + 1 + 1) 2 _ _ _ hbox
      have p3 := cell_of_row _ (B + 1 + 1) 3 _ _ _ hbox
      have p4 := cell_of_row _ (B + 1 + 1) 4 _ _ _ hbox
      have q0 := cell_of_row _ (B + 1) 0 _ _ _ h1
      have q1 := cell_of_row _ (B + 1) 1 _ _ _ h1
      have q2 := cell_of_row _ (B + 1) 2 _ _ _ h1
      have q3 := cell_of_row _ (B + 1) 3 _ _ _ h1
      have q4 := cell_of_row _ (B + 1) 4 _ _ _ h1
      have qf : ∀ j, wr.frozen? ⟨B + 1, j, none⟩ = false := fun j => by simp only [World.frozen?, h1]; rfl
      simp [cells5] at p0 p1 p2 p3 p4 q0 q1 q2 q3 q4
      have HRR := Lib.hid hrr
      clear hbox hb h1 hbw e1 hrr hsz
      go_wp2_with fail
      refine bodyPost_ret (res29_run HOV.out rfl rfl) rfl ?_
      unfold LatestPost
      have := HBL.out
      rw [HB.out] at this
      exact ⟨by rw [← HRR.out], by rw [HB.out]; exact this⟩
end Go.Proofs.Ytogcpjkgliijmaa
