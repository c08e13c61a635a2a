/- journal.Replay. -/
import Derived.Test.YtogcpjkgliijmaaJBackA
namespace Go.Proofs.Ytogcpjkgliijmaa
open Go.RowKit

def ReplayPost (w : World) (ds : List Dec) (e : Ending) (w' : World) : Prop :=
  ∃ (p : Option Addr) (c : Nat), e = .returned (.tuple #[.agg #[.slice p ds.length c], .int .i64 ds.length]) ∧ Reads w' p ds ∧ Below w.heap.size w w'

def PRel (W1 : World) (B : Nat) (ds : List Dec) (iv : Value) (wr : World) : Prop :=
  ∃ (k : Nat) (p : Option Addr) (c : Nat), iv = .int .i64 k ∧ k ≤ ds.length ∧ Below B W1 wr ∧ wr.heap[B]? = some (.cells #[.slice p k c] 25 (0, 0)) ∧ Rd wr (B + 1) p (ds.take k) ∧ k ≤ c

theorem res48_run {W : World} {b : Nat} {v : Value} {n : Int} {a : Act} (hh : W.heap[b]? = some (.cells #[v] 25 (0, 0))) (ht : a.tmps.getD 2 undef = .pointer (some ⟨b, 0, none⟩)) (h3 : a.tmps.getD 3 undef = .int .i64 n) :
    (results Try.f48 a.tmps).run Try.prog W = .ok (.tuple #[.agg #[v], .int .i64 n]) W := by
  have e0 := cell_of_row _ b 0 _ _ _ hh
  simp at e0 ht h3
  clear hh
  simp [results, Try.results48, go_sem, ht, h3, e0]

set_option maxHeartbeats 4000000 in
theorem replay_any (s : List UInt8) (ds : List Dec) (w : World) (h : OpenAs s ds) (hg : Good ds) (hl : ds.length ≤ 100) (hs : s.length ≤ 100000) :
    Calls Try.prog 48 #[.string ⟨s.toArray⟩] w (ReplayPost w ds) := by
  have cO := open_any s ds (w.alloc (.cells #[.slice none 0 0] 25)) h hs
  unfold OpenPost at cO
  have CO := Lib.hid cO; clear cO h
  obtain ⟨R, hR⟩ : ∃ R, R = w.heap.size := ⟨_, rfl⟩
  have hb0 : Below R w (w.alloc (.cells #[.slice none 0 0] 25)) := by rw [hR]; exact (Below.refl _ _).alloc (Nat.le_refl _) _
  have hr0 : (w.alloc (.cells #[.slice none 0 0] 25)).heap[R]? = some (.cells #[.slice none 0 0] 25 (0, 0)) := by rw [hR]; exact heap_alloc_new _ _
  have hz0 : (w.alloc (.cells #[.slice none 0 0] 25)).heap.size = R + 1 := by rw [hR]; simp
  go_enter Try.func48, Try.ntmps48
  go_wp2_with fail
  rw [← hR]
  refine CO.out.mono ?_; rintro e W1 ⟨v, rfl, hdv, hb1⟩
  have hr1 := (hb1.block R (by omega)).trans hr0
  have hb01 : Below R w W1 := hb0.trans (hb1.mono (by omega))
  have hs1 : R + 1 ≤ W1.heap.size := by have := hb1.size; omega
  obtain ⟨pv, cv, rfl, hcv, hxv⟩ := hdv
  have hrv : Reads W1 pv ds := by
    rcases hxv with h | ⟨b, hp, _, h⟩
    · exact .inl h
    · exact .inr ⟨b, 0, hp, h⟩
  obtain ⟨B, hB⟩ : ∃ B, B = W1.heap.size := ⟨_, rfl⟩
  have hb2 : Below B W1 (W1.alloc (.cells #[.slice none 0 0] 25)) := by rw [hB]; exact (Below.refl _ _).alloc (Nat.le_refl _) _
  have hB2 : (W1.alloc (.cells #[.slice none 0 0] 25)).heap[B]? = some (.cells #[.slice none 0 0] 25 (0, 0)) := by rw [hB]; exact heap_alloc_new _ _
  have HB2 := Lib.hid hb2; have HBB := Lib.hid hB2; have HR1 := Lib.hid hr1; have HB01 := Lib.hid hb01; have HRV := Lib.hid hrv; have HBE := Lib.hid hB; have HRE := Lib.hid hR
  clear hb2 hB2 hr1 hb01 hrv hxv CO hb0 hr0 hz0 hb1 hR
  go_wp2_with fail
  rw [← hB]
  generalize W1.alloc (.cells #[.slice none 0 0] 25) = W2 at *
  clear hB
  go_loopw [16] (fun iv wr => PRel W1 B ds iv wr) (fun iv _ => ds.length - (intOf iv).toNat)
  case atStart => exact ⟨0, none, 0, rfl, Nat.zero_le _, HB2.out, HBB.out, .inl rfl, Nat.le_refl _⟩
  case round =>
    obtain ⟨k, p, c, rfl, hk, hb, hbox, hrd, hkc⟩ := hrel
    have hsz := lt_of_heap hbox
    by_cases hlt : k < ds.length
    · have hrv := HRV.out
      rcases hrv with h | ⟨b, o, hp, hrow⟩
      · subst h; simp at hlt
      subst hp
      have hrow2 : Row wr b o ds := by
        have hblt : b < B := by have := World.block_lt_of_cell? W1 _ (hrow k hlt).1; have := HBE.out; simp only at *; omega
        exact hrow.blk (hb.block b hblt)
      obtain ⟨c0, c1, c2, c3, c4⟩ := hrow2 k hlt
      obtain ⟨d, hde⟩ : ∃ d, d = ds[k] := ⟨_, rfl⟩
      rw [← hde] at c0 c1 c2 c3 c4
      have hb3 : Below wr.heap.size wr (wr.alloc (.cells #[.int .i64 d.day, .int .i64 d.known, .int .i64 d.kind, .int .i64 d.subj, .int .i64 d.value] 27)) := (Below.refl _ _).alloc (Nat.le_refl _) _
      have htl : (ds.take k).length = k := by simp; omega
      have hf := foll_at hg k hlt
      rw [if_neg (by omega), ← hde] at hf
      have cA := add_any (wr.alloc (.cells #[.int .i64 d.day, .int .i64 d.known, .int .i64 d.kind, .int .i64 d.subj, .int .i64 d.value] 27)) (p := p) (c := c) (ds.take k) d (hg.take k) (by omega) (hrd.reads.mono hb3)
      rw [hf, if_pos rfl, htl] at cA
      unfold Dec.val at cA
      have q0 := cell_of_row _ B 0 _ _ _ ((hb3.block B hsz).trans hbox)
      simp at q0
      have hbB : Below B W1 (wr.alloc (.cells #[.int .i64 d.day, .int .i64 d.known, .int .i64 d.kind, .int .i64 d.subj, .int .i64 d.value] 27)) := hb.trans (hb3.mono (by omega))
      have hB3 := (hb3.block B hsz).trans hbox
      have htk : ds.take (k + 1) = ds.take k ++ [d] := by rw [List.take_succ_eq_append_getElem hlt, hde]
      have hs3 : B + 1 ≤ (wr.alloc (.cells #[.int .i64 d.day, .int .i64 d.known, .int .i64 d.kind, .int .i64 d.subj, .int .i64 d.value] 27)).heap.size := by simp; omega
      have CA := Lib.hid cA; have HBB3 := Lib.hid hbB; have HB3 := Lib.hid hB3; have HTK := Lib.hid htk; have HS3 := Lib.hid hs3; have HTL := Lib.hid htl
      clear hb3 htl hf cA hbB hB3 htk hrow2 hrow hb hbox hrd hsz hde hs3
      have x0 : (wr.alloc (.cells #[.int .i64 d.day, .int .i64 d.known, .int .i64 d.kind, .int .i64 d.subj, .int .i64 d.value] 27)).cell? ⟨wr.heap.size, 0, none⟩ = some (.int .i64 d.day) := by simp
      have x1 : (wr.alloc (.cells #[.int .i64 d.day, .int .i64 d.known, .int .i64 d.kind, .int .i64 d.subj, .int .i64 d.value] 27)).cell? ⟨wr.heap.size, 1, none⟩ = some (.int .i64 d.known) := by simp
      have x2 : (wr.alloc (.cells #[.int .i64 d.day, .int .i64 d.known, .int .i64 d.kind, .int .i64 d.subj, .int .i64 d.value] 27)).cell? ⟨wr.heap.size, 2, none⟩ = some (.int .i64 d.kind) := by simp
      have x3 : (wr.alloc (.cells #[.int .i64 d.day, .int .i64 d.known, .int .i64 d.kind, .int .i64 d.subj, .int .i64 d.value] 27)).cell? ⟨wr.heap.size, 3, none⟩ = some (.int .i64 d.subj) := by simp
      have x4 : (wr.alloc (.cells #[.int .i64 d.day, .int .i64 d.known, .int .i64 d.kind, .int .i64 d.subj, .int .i64 d.value] 27)).cell? ⟨wr.heap.size, 4, none⟩ = some (.int .i64 d.value) := by simp
      go_upto_region 6 with (fail)
      generalize wr.alloc (.cells #[.int .i64 d.day, .int .i64 d.known, .int .i64 d.kind, .int .i64 d.subj, .int .i64 d.value] 27) = W3 at *
      go_wp2_with fail
      refine CA.out.mono ?_; rintro e W4 ⟨v', rfl, hdv, hb4⟩
      have hl1 : (ds.take k ++ [d]).length = k + 1 := by rw [List.length_append, HTL.out]; rfl
      obtain ⟨p', c', rfl, hc', hx'⟩ := hdv
      rw [hl1] at hc' ⊢
      have hB4 := (hb4.block B (by have := HS3.out; omega)).trans HB3.out
      have z0 := cell_of_row _ B 0 _ _ _ hB4
      simp at z0
      have z1 : W4.frozen? ⟨B, 0, none⟩ = false := by simp [World.frozen?, hB4]
      have hB5 := heap_setCell_same W4 B 0 _ _ (.slice p' (k + 1) c') hB4
      have hb5 : Below B W1 (W4.setCell ⟨B, 0, none⟩ (.slice p' (k + 1) c')) := (HBB3.out.trans (hb4.mono (by have := HS3.out; omega))).setCell (Nat.le_refl _) _
      have hrd5 : Rd (W4.setCell ⟨B, 0, none⟩ (.slice p' (k + 1) c')) (B + 1) p' (ds.take (k + 1)) := by
        rw [HTK.out]
        rcases hx' with h | ⟨b, hp, h1, h2⟩
        · exact .inl h
        · have hlt := World.block_lt_of_cell? W4 _ (h2 0 (by omega)).1
          have hne : B + 1 ≤ b := by have := HS3.out; omega
          exact .inr ⟨b, 0, hp, hne, by simpa [World.setCell] using hlt, h2.blk (heap_setCell_other W4 ⟨B, 0, none⟩ b _ (by simp only; omega))⟩
      have HB5 := Lib.hid hB5; have HBL5 := Lib.hid hb5; have HRD5 := Lib.hid hrd5; have HC5 := Lib.hid hc'
      clear hB4 hB5 hb5 hrd5 hc' hx' hb4 x0 x1 x2 x3 x4 q0 c0 c1 c2 c3 c4 hl1 CA
      go_wp2_with fail
      go_roundw
      case rel => exact ⟨k + 1, p', c', by go_num, by omega, HBL5.out, by rw [HB5.out]; rfl, HRD5.out, HC5.out⟩
      case measure => simp [intOf]; omega
    · have hkn : k = ds.length := by omega
      subst hkn
      rw [List.take_length] at hrd
      have q0 := cell_of_row _ B 0 _ _ _ hbox
      simp at q0
      have hRlt : R < B := by have := HBE.out; omega
      have hR2 := (hb.block R hRlt).trans HR1.out
      have z0 := cell_of_row _ R 0 _ _ _ hR2
      simp at z0
      have z1 : wr.frozen? ⟨R, 0, none⟩ = false := by simp [World.frozen?, hR2]
      have hR3 := heap_setCell_same wr R 0 _ _ (.slice p ds.length c) hR2
      have hbf : Below R w (wr.setCell ⟨R, 0, none⟩ (.slice p ds.length c)) := (HB01.out.trans (hb.mono (by omega))).setCell (Nat.le_refl _) _
      have hrf : Reads (wr.setCell ⟨R, 0, none⟩ (.slice p ds.length c)) p ds := by
        rcases hrd with h | ⟨b, o, hp, h1, _, h2⟩
        · exact .inl h
        · exact .inr ⟨b, o, hp, h2.blk (heap_setCell_other wr ⟨R, 0, none⟩ b _ (by simp only; omega))⟩
      have HR3 := Lib.hid hR3; have HBF := Lib.hid hbf; have HRF := Lib.hid hrf
      clear hR2 hR3 hbf hrf hrd hb hbox
      go_wp2_with fail
      refine bodyPost_ret (res48_run (v := .slice p ds.length c) (by rw [HR3.out]; rfl) rfl rfl) rfl ?_
      have := HBF.out
      rw [HRE.out] at this
      exact ⟨p, c, rfl, by rw [← HRE.out] at *; exact HRF.out, by rw [HRE.out]; exact this⟩
end Go.Proofs.Ytogcpjkgliijmaa
