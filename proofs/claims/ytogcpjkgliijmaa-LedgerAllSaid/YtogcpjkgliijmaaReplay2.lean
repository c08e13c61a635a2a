/- journal.Replay of any decisions. -/
import Derived.Test.YtogcpjkgliijmaaReplay
namespace Go.Proofs.Ytogcpjkgliijmaa
open Go.RowKit

/-- A decision more, if it follows. -/
def addF (l : List Dec) (d : Dec) : List Dec := if addN l d = 0 then l ++ [d] else l
def rep (ds : List Dec) : List Dec := ds.foldl addF []
theorem rep_snoc (ds : List Dec) (d : Dec) : rep (ds ++ [d]) = addF (rep ds) d := foldl_snoc addF [] ds d

theorem good_add {l : List Dec} {d : Dec} (h : Good l) : Good (addF l d) := by
  unfold addF
  split
  · rename_i h0
    unfold addN at h0
    split at h0
    · exact absurd h0 (by decide)
    · have hok : d.ok = true := by
        cases hd : d.ok
        · rw [foll_bad hd] at h0; exact absurd h0 (by decide)
        · rfl
      have hv := validB_true hok
      rcases Nat.eq_zero_or_pos l.length with hl | hl
      · obtain rfl := List.length_eq_zero_iff.1 hl
        exact h.snoc hok (by show (0 : Int) ≤ d.day; omega) (by show (0 : Int) ≤ d.known; omega)
      · obtain ⟨m, hm⟩ : ∃ m, l.length = m + 1 := ⟨l.length - 1, by omega⟩
        rw [hm, lastOf_succ l m (by omega), foll_some hok] at h0
        split at h0
        · exact absurd h0 (by decide)
        · rename_i hn
          simp only [Bool.or_eq_true, decide_eq_true_eq] at hn
          have e : l[l.length - 1] = l[m] := by simp [hm]
          exact h.snoc hok (by rw [getLastD_eq hl, e]; omega) (by rw [getLastD_eq hl, e]; omega)
  · exact h

theorem rep_good (ds : List Dec) : ∀ k, k ≤ ds.length → Good (rep (ds.take k)) ∧ (rep (ds.take k)).length ≤ k := by
  intro k
  induction k with
  | zero => intro _; exact ⟨Good.nil, Nat.le_refl _⟩
  | succ k ih =>
    intro hk
    obtain ⟨h1, h2⟩ := ih (by omega)
    rw [List.take_succ_eq_append_getElem (by omega), rep_snoc]
    refine ⟨good_add h1, ?_⟩
    unfold addF
    split
    · simp; omega
    · omega

def ReplayPost2 (w : World) (ds : List Dec) (e : Ending) (w' : World) : Prop :=
  ∃ (p : Option Addr) (c : Nat), e = .returned (.tuple #[.agg #[.slice p (rep ds).length c], .int .i64 ds.length]) ∧ Reads w' p (rep ds) ∧ Below w.heap.size w w'

def PRel2 (W1 : World) (B : Nat) (ds : List Dec) (iv : Value) (wr : World) : Prop :=
  ∃ (k : Nat) (p : Option Addr) (c : Nat), iv = .int .i64 k ∧ k ≤ ds.length ∧ Below B W1 wr ∧ wr.heap[B]? = some (.cells #[.slice p (rep (ds.take k)).length c] 25 (0, 0)) ∧ Rd wr (B + 1) p (rep (ds.take k)) ∧ (rep (ds.take k)).length ≤ c

set_option maxHeartbeats 4000000 in
theorem replay_rep (s : List UInt8) (ds : List Dec) (w : World) (h : OpenAs s ds) (hl : ds.length ≤ 100) (hs : s.length ≤ 100000) :
    Calls Try.prog 48 #[.string ⟨s.toArray⟩] w (ReplayPost2 w ds) := by
  have cO := open_any s ds (w.alloc (.cells #[.slice none 0 0] 25)) h hs
  unfold OpenPost at cO
  have CO := Lib.hid cO; clear cO h
  obtain ⟨R, hR⟩ : ∃ R, R = w.heap.size := ⟨_, rfl⟩
  have hb0 : Below R w (w.alloc (.cells #[.slice none 0 0] 25)) := by rw [hR]; exact (Below.refl _ _).alloc (Nat.le_refl _) _
  have hr0 : (w.alloc (.cells #[.slice none 0 0] 25)).heap[R]? = some (.cells #[.slice none 0 0] 25 (0, 0)) := by rw [hR]; exact heap_alloc_new _ _
  have hz0 : (w.alloc (.cells #[.slice none 0 0] 25)).heap.size = R + 1 := by rw [hR]; simp
  go_enter Try.func48, Try.ntmps48
  go_wp2_with fail
  rw [← hR]
  refine CO.out.mono ?_; rintro e W1 ⟨v, rfl, hdv, hb1⟩
  have hr1 := (hb1.block R (by omega)).trans hr0
  have hb01 : Below R w W1 := hb0.trans (hb1.mono (by omega))
  have hs1 : R + 1 ≤ W1.heap.size := by have := hb1.size; omega
  obtain ⟨pv, cv, rfl, hcv, hxv⟩ := hdv
  have hrv : Reads W1 pv ds := by
    rcases hxv with h | ⟨b, hp, _, h⟩
    · exact .inl h
    · exact .inr ⟨b, 0, hp, h⟩
  obtain ⟨B, hB⟩ : ∃ B, B = W1.heap.size := ⟨_, rfl⟩
  have hb2 : Below B W1 (W1.alloc (.cells #[.slice none 0 0] 25)) := by rw [hB]; exact (Below.refl _ _).alloc (Nat.le_refl _) _
  have hB2 : (W1.alloc (.cells #[.slice none 0 0] 25)).heap[B]? = some (.cells #[.slice none 0 0] 25 (0, 0)) := by rw [hB]; exact heap_alloc_new _ _
  have HB2 := Lib.hid hb2; have HBB := Lib.hid hB2; have HR1 := Lib.hid hr1; have HB01 := Lib.hid hb01; have HRV := Lib.hid hrv; have HBE := Lib.hid hB; have HRE := Lib.hid hR
  clear hb2 hB2 hr1 hb01 hrv hxv CO hb0 hr0 hz0 hb1 hR
  go_wp2_with fail
  rw [← hB]
  generalize W1.alloc (.cells #[.slice none 0 0] 25) = W2 at *
  clear hB
  go_loopw [16] (fun iv wr => PRel2 W1 B ds iv wr) (fun iv _ => ds.length - (intOf iv).toNat)
  case atStart => exact ⟨0, none, 0, rfl, Nat.zero_le _, HB2.out, HBB.out, .inl rfl, Nat.le_refl _⟩
  case round =>
    obtain ⟨k, p, c, rfl, hk, hb, hbox, hrd, hkc⟩ := hrel
    have hsz := lt_of_heap hbox
    by_cases hlt : k < ds.length
    · have hrv := HRV.out
      rcases hrv with h | ⟨b, o, hp, hrow⟩
      · subst h; simp at hlt
      subst hp
      have hrow2 : Row wr b o ds := by
        have hblt : b < B := by have := World.block_lt_of_cell? W1 _ (hrow k hlt).1; have := HBE.out; simp only at *; omega
        exact hrow.blk (hb.block b hblt)
      obtain ⟨c0, c1, c2, c3, c4⟩ := hrow2 k hlt
      obtain ⟨d, hde⟩ : ∃ d, d = ds[k] := ⟨_, rfl⟩
      rw [← hde] at c0 c1 c2 c3 c4
      have hb3 : Below wr.heap.size wr (wr.alloc (.cells #[.int .i64 d.day, .int .i64 d.known, .int .i64 d.kind, .int .i64 d.subj, .int .i64 d.value] 27)) := (Below.refl _ _).alloc (Nat.le_refl _) _
      obtain ⟨hgk, hlk⟩ := rep_good ds k hk
      have cA := add_any (wr.alloc (.cells #[.int .i64 d.day, .int .i64 d.known, .int .i64 d.kind, .int .i64 d.subj, .int .i64 d.value] 27)) (p := p) (c := c) (rep (ds.take k)) d hgk (by omega) (hrd.reads.mono hb3)
      change Calls _ _ _ _ (AddPost _ (addF (rep (ds.take k)) d) _) at cA
      unfold Dec.val at cA
      have q0 := cell_of_row _ B 0 _ _ _ ((hb3.block B hsz).trans hbox)
      simp at q0
      have hbB : Below B W1 (wr.alloc (.cells #[.int .i64 d.day, .int .i64 d.known, .int .i64 d.kind, .int .i64 d.subj, .int .i64 d.value] 27)) := hb.trans (hb3.mono (by omega))
      have hB3 := (hb3.block B hsz).trans hbox
      have htk : rep (ds.take (k + 1)) = addF (rep (ds.take k)) d := by rw [List.take_succ_eq_append_getElem hlt, hde, rep_snoc]
      rw [← htk] at cA
      have hs3 : B + 1 ≤ (wr.alloc (.cells #[.int .i64 d.day, .int .i64 d.known, .int .i64 d.kind, .int .i64 d.subj, .int .i64 d.value] 27)).heap.size := by simp; omega
      have CA := Lib.hid cA; have HBB3 := Lib.hid hbB; have HB3 := Lib.hid hB3; have HS3 := Lib.hid hs3; have HLK := Lib.hid hlk
      obtain ⟨L1, hL1⟩ : ∃ L1, L1 = rep (ds.take (k + 1)) := ⟨_, rfl⟩
      rw [← hL1] at CA
      have HL1 := Lib.hid hL1
      clear hb3 hgk hlk cA hbB hB3 htk hL1 hrow2 hrow hb hbox hrd hsz hde hs3
      have x0 : (wr.alloc (.cells #[.int .i64 d.day, .int .i64 d.known, .int .i64 d.kind, .int .i64 d.subj, .int .i64 d.value] 27)).cell? ⟨wr.heap.size, 0, none⟩ = some (.int .i64 d.day) := by simp
      have x1 : (wr.alloc (.cells #[.int .i64 d.day, .int .i64 d.known, .int .i64 d.kind, .int .i64 d.subj, .int .i64 d.value] 27)).cell? ⟨wr.heap.size, 1, none⟩ = some (.int .i64 d.known) := by simp
      have x2 : (wr.alloc (.cells #[.int .i64 d.day, .int .i64 d.known, .int .i64 d.kind, .int .i64 d.subj, .int .i64 d.value] 27)).cell? ⟨wr.heap.size, 2, none⟩ = some (.int .i64 d.kind) := by simp
      have x3 : (wr.alloc (.cells #[.int .i64 d.day, .int .i64 d.known, .int .i64 d.kind, .int .i64 d.subj, .int .i64 d.value] 27)).cell? ⟨wr.heap.size, 3, none⟩ = some (.int .i64 d.subj) := by simp
      have x4 : (wr.alloc (.cells #[.int .i64 d.day, .int .i64 d.known, .int .i64 d.kind, .int .i64 d.subj, .int .i64 d.value] 27)).cell? ⟨wr.heap.size, 4, none⟩ = some (.int .i64 d.value) := by simp
      go_upto_region 6 with (fail)
      generalize wr.alloc (.cells #[.int .i64 d.day, .int .i64 d.known, .int .i64 d.kind, .int .i64 d.subj, .int .i64 d.value] 27) = W3 at *
      go_wp2_with fail
      refine CA.out.mono ?_; rintro e W4 ⟨v', rfl, hdv, hb4⟩
      obtain ⟨p', c', rfl, hc', hx'⟩ := hdv
      have hB4 := (hb4.block B (by have := HS3.out; omega)).trans HB3.out
      have z0 := cell_of_row _ B 0 _ _ _ hB4
      simp at z0
      have z1 : W4.frozen? ⟨B, 0, none⟩ = false := by simp [World.frozen?, hB4]
      have hB5 := heap_setCell_same W4 B 0 _ _ (.slice p' L1.length c') hB4
      have hb5 : Below B W1 (W4.setCell ⟨B, 0, none⟩ (.slice p' L1.length c')) := (HBB3.out.trans (hb4.mono (by have := HS3.out; omega))).setCell (Nat.le_refl _) _
      have hrd5 : Rd (W4.setCell ⟨B, 0, none⟩ (.slice p' L1.length c')) (B + 1) p' L1 := by
        rcases hx' with h | ⟨b, hp, h1, h2⟩
        · exact .inl h
        · rcases Nat.eq_zero_or_pos L1.length with h0 | h0
          · exact .inl (List.length_eq_zero_iff.1 h0)
          have hlt := World.block_lt_of_cell? W4 _ (h2 0 h0).1
          have hne : B + 1 ≤ b := by have := HS3.out; omega
          exact .inr ⟨b, 0, hp, hne, by simpa [World.setCell] using hlt, h2.blk (heap_setCell_other W4 ⟨B, 0, none⟩ b _ (by simp only; omega))⟩
      have HB5 := Lib.hid hB5; have HBL5 := Lib.hid hb5; have HRD5 := Lib.hid hrd5; have HC5 := Lib.hid hc'
      clear hB4 hB5 hb5 hrd5 hc' hx' hb4 x0 x1 x2 x3 x4 q0 c0 c1 c2 c3 c4 CA
      go_wp2_with fail
      go_roundw
      case rel => exact ⟨k + 1, p', c', by go_num, by omega, HBL5.out, by rw [← HL1.out, HB5.out]; rfl, by rw [← HL1.out]; exact HRD5.out, by rw [← HL1.out]; exact HC5.out⟩
      case measure => simp [intOf]; omega
    · have hkn : k = ds.length := by omega
      subst hkn
      rw [List.take_length] at hrd hbox
      obtain ⟨L, hL⟩ : ∃ L, L = rep ds := ⟨_, rfl⟩
      rw [← hL] at hrd hbox
      have HL := Lib.hid hL
      clear hL
      have q0 := cell_of_row _ B 0 _ _ _ hbox
      simp at q0
      have hRlt : R < B := by have := HBE.out; omega
      have hR2 := (hb.block R hRlt).trans HR1.out
      have z0 := cell_of_row _ R 0 _ _ _ hR2
      simp at z0
      have z1 : wr.frozen? ⟨R, 0, none⟩ = false := by simp [World.frozen?, hR2]
      have hR3 := heap_setCell_same wr R 0 _ _ (.slice p L.length c) hR2
      have hbf : Below R w (wr.setCell ⟨R, 0, none⟩ (.slice p L.length c)) := (HB01.out.trans (hb.mono (by omega))).setCell (Nat.le_refl _) _
      have hrf : Reads (wr.setCell ⟨R, 0, none⟩ (.slice p L.length c)) p L := by
        rcases hrd with h | ⟨b, o, hp, h1, _, h2⟩
        · exact .inl h
        · exact .inr ⟨b, o, hp, h2.blk (heap_setCell_other wr ⟨R, 0, none⟩ b _ (by simp only; omega))⟩
      have HR3 := Lib.hid hR3; have HBF := Lib.hid hbf; have HRF := Lib.hid hrf
      clear hR2 hR3 hbf hrf hrd hb hbox
      go_wp2_with fail
      refine bodyPost_ret (res48_run (v := .slice p L.length c) (by rw [HR3.out]; rfl) rfl rfl) rfl ?_
      have := HBF.out
      rw [HRE.out] at this
      exact ⟨p, c, by rw [← HL.out], by rw [← HL.out]; exact HRF.out, by rw [HRE.out]; exact this⟩
end Go.Proofs.Ytogcpjkgliijmaa
