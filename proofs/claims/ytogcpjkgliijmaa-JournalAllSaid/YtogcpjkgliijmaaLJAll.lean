/- The walk of JournalAll. -/
import Derived.Test.YtogcpjkgliijmaaRReplay
import Derived.Test.YtogcpjkgliijmaaJSums
import Derived.Deep.CutRange
import Derived.Deep.DeepCutAuto
namespace Go.Proofs.Ytogcpjkgliijmaa
open Go.RowKit
attribute [local go_sem ↓] Go.wp_at_zero Go.wp_at_succ

set_option maxRecDepth 100000 in
set_option maxHeartbeats 2000000 in
theorem ljall_heavy (w : World) (a : Option Addr) (n c : Nat) (d : Dec) (t : ByteArray) (x y z : Int) (h : decide (n ≤ 400) = false) :
    Calls Try.prog 9 #[.slice a n c, d.val, .string t, .int .i64 x, .int .i64 y, .int .i64 z] w fun e w' => e = .returned (.bool true) ∧ Below w.heap.size w w' := by
  have hb0 : Below w.heap.size w (w.alloc (.cells #[.int .i64 d.day, .int .i64 d.known, .int .i64 d.kind, .int .i64 d.subj, .int .i64 d.value] 27)) := (Below.refl _ _).alloc (Nat.le_refl _) _
  have HB0 := Lib.hid hb0; clear hb0
  unfold Dec.val
  go_enter Try.func9, Try.ntmps9
  go_wp2_with fail
  refine (light_any a n c false _ h).mono ?_
  rintro e w1 ⟨rfl, rfl⟩
  go_wp2_with fail
  refine (jawake_any _).mono ?_
  rintro e w2 ⟨rfl, hb⟩
  go_wp2_with fail
  go_ret
  exact ⟨rfl, below_step HB0.out hb⟩

set_option maxRecDepth 100000 in
set_option maxHeartbeats 2000000 in
theorem ljall_torn (w : World) (a : Option Addr) (n c : Nat) (d : Dec) (t : ByteArray) (x y z : Int) (h : decide (n ≤ 400) = true) (h2 : decide ((300 : Int) < (t.size : Int)) = true) :
    Calls Try.prog 9 #[.slice a n c, d.val, .string t, .int .i64 x, .int .i64 y, .int .i64 z] w fun e w' => e = .returned (.bool true) ∧ Below w.heap.size w w' := by
  have hb0 : Below w.heap.size w (w.alloc (.cells #[.int .i64 d.day, .int .i64 d.known, .int .i64 d.kind, .int .i64 d.subj, .int .i64 d.value] 27)) := (Below.refl _ _).alloc (Nat.le_refl _) _
  have HB0 := Lib.hid hb0; clear hb0
  unfold Dec.val
  go_enter Try.func9, Try.ntmps9
  go_wp2_with fail
  refine (light_any a n c true _ h).mono ?_
  rintro e w1 ⟨rfl, rfl⟩
  go_wp2_with fail
  refine (jawake_any _).mono ?_
  rintro e w2 ⟨rfl, hb⟩
  go_wp2_with fail
  go_ret
  exact ⟨rfl, below_step HB0.out hb⟩

/-- Three decisions in a row. -/
theorem row3 (W : World) (a b c : Dec) : Row (W.alloc (.cells (flat [a, b, c]).toArray 27)) W.heap.size 0 [a, b, c] := by
  intro j hj
  have h : j = 0 ∨ j = 1 ∨ j = 2 := by simp at hj; omega
  rcases h with rfl | rfl | rfl <;> simp [flat, cells5]

def BRel (W6 : World) (Db : Nat) (sl : List UInt8) (wc : World) : Prop :=
  ∃ sb : List UInt8, sb.length = sl.length ∧ (∀ j (hj : j < sb.length), wc.cell? ⟨Db, 0 + j, none⟩ = some (.int .u8 sb[j].toNat)) ∧ Below W6.heap.size W6 wc

theorem brel_set {W6 W8 : World} {Db i : Nat} {sl : List UInt8} (z : Int) (hil : i < sl.length) (hcell : ∀ j (hj : j < sl.length), W8.cell? ⟨Db, j, none⟩ = some (.int .u8 sl[j].toNat)) (hb : Below W6.heap.size W6 W8) (hD : Db = W6.heap.size) :
    BRel W6 Db sl (W8.setCell ⟨Db, i, none⟩ (.int .u8 (((sl[i].toNat : Int) + z) % 256))) := by
  refine ⟨sl.set i (byteOf ((sl[i].toNat : Int) + z)), by simp, fun j hj => ?_, hb.setCell (by rw [hD]; exact Nat.le_refl _) _⟩
  rw [Nat.zero_add]
  rw [List.length_set] at hj
  by_cases hji : j = i
  · subst hji
    rw [List.getElem_set_self, World.cell?_setCell_same _ _ _ (hcell j hil), ← byteV_of]; rfl
  · rw [List.getElem_set_ne (Ne.symm hji), World.cell?_setCell_other _ _ _ _ (by intro e; injection e with _ e; exact hji e.symm)]
    exact hcell j hj

theorem decode_both (s : List UInt8) (hs : s.length ≤ 100000) (zz : Int) : ∃ (D : Dec) (n e : Int),
    (∀ W, Calls Try.prog 53 #[.string ⟨s.toArray⟩, .int .i64 zz] W fun r w' => r = .returned (.tuple #[D.val, .int .i64 n, .int .i64 e]) ∧ Below W.heap.size W w') ∧
    (∀ W, Calls Try.prog 54 #[.string ⟨s.toArray⟩, .int .i64 zz] W fun r w' => r = .returned (.tuple #[D.val, .int .i64 n, .int .i64 e]) ∧ Below W.heap.size W w') := by
  rcases Int.lt_or_le zz 0 with h | h
  · have hz := Or.inl (b := decide (zz < 0) = false ∧ decide ((s.length : Int) < zz) = true) (by rw [decide_eq_true_eq]; exact h : decide (zz < 0) = true)
    exact ⟨dz, 0, 2, fun W => decode_out s zz W hz, fun W => refdecode_out s zz W hz⟩
  · rcases Int.lt_or_le (s.length : Int) zz with h2 | h2
    · have hz := Or.inr (a := decide (zz < 0) = true) (And.intro (by rw [decide_eq_false_iff_not]; omega : decide (zz < 0) = false) (by rw [decide_eq_true_eq]; exact h2 : decide ((s.length : Int) < zz) = true))
      exact ⟨dz, 0, 2, fun W => decode_out s zz W hz, fun W => refdecode_out s zz W hz⟩
    · obtain ⟨i, rfl⟩ := Int.eq_ofNat_of_zero_le h
      exact ⟨(decAt s i).1, _, (decAt s i).2, fun W => decode_any s i W (by omega) hs rfl rfl, fun W => refdecode_any s i W (by omega) hs rfl rfl⟩

theorem crashS_len (s t : List UInt8) (k : Int) : (crashS s t k).length ≤ s.length + t.length := by
  unfold crashS
  rw [List.length_append, List.length_take]; omega

def cst : Dec := ⟨40000, 400, 5, 40, 1⟩

set_option maxRecDepth 100000 in
set_option maxHeartbeats 16000000 in
theorem ljall_light (w : World) (a : Option Addr) (n c : Nat) (d : Dec) (T : List UInt8) (x y z : Int) (hx : -9223372036854775808 ≤ x ∧ x ≤ 9223372036854775807) (hy : -9223372036854775808 ≤ y ∧ y ≤ 9223372036854775807) (hz : -9223372036854775808 ≤ z ∧ z ≤ 9223372036854775807)
    (h : decide (n ≤ 400) = true) (hi : Ints w w.heap.size a n) (hT : T.length ≤ 300) :
    Calls Try.prog 9 #[.slice a n c, d.val, .string ⟨T.toArray⟩, .int .i64 x, .int .i64 y, .int .i64 z] w fun e w' => e = .returned (.bool true) ∧ Below w.heap.size w w' := by
  have h400 : n ≤ 400 := by simpa using h
  obtain ⟨hx0, hx1⟩ := hx
  obtain ⟨hy0, hy1⟩ := hy
  obtain ⟨hz0, hz1⟩ := hz
  have hb0 : Below w.heap.size w (w.alloc (.cells #[.int .i64 d.day, .int .i64 d.known, .int .i64 d.kind, .int .i64 d.subj, .int .i64 d.value] 27)) := (Below.refl _ _).alloc (Nat.le_refl _) _
  obtain ⟨R, hR⟩ : ∃ R, R = w.heap.size := ⟨_, rfl⟩
  have hr0 : (w.alloc (.cells #[.int .i64 d.day, .int .i64 d.known, .int .i64 d.kind, .int .i64 d.subj, .int .i64 d.value] 27)).heap[R]? = some (.cells #[.int .i64 d.day, .int .i64 d.known, .int .i64 d.kind, .int .i64 d.subj, .int .i64 d.value] 27 (0, 0)) := by rw [hR]; exact heap_alloc_new _ _
  have hi1 : Ints (w.alloc (.cells #[.int .i64 d.day, .int .i64 d.known, .int .i64 d.kind, .int .i64 d.subj, .int .i64 d.value] 27)) (w.alloc (.cells #[.int .i64 d.day, .int .i64 d.known, .int .i64 d.kind, .int .i64 d.subj, .int .i64 d.value] 27)).heap.size a n := by
    rcases hi with h | ⟨b, o, ha, hb, h⟩
    · exact .inl h
    · refine .inr ⟨b, o, ha, by simp; omega, fun j hj => ?_⟩
      obtain ⟨q, hq, h1, h2⟩ := h j hj
      exact ⟨q, cell_later hb0 hq, h1, h2⟩
  have cR := roll_any a n c _ h400 hi1
  have hT2 : decide ((300 : Int) < (T.length : Int)) = false := by rw [decide_eq_false_iff_not]; omega
  have HB0 := Lib.hid hb0; have HR0 := Lib.hid hr0; have CR := Lib.hid cR; have HR := Lib.hid hR
  clear hb0 hr0 hi1 hi cR
  unfold Dec.val
  go_enter Try.func9, Try.ntmps9
  go_wp2_with fail
  rw [← hR]
  generalize w.alloc (.cells #[.int .i64 d.day, .int .i64 d.known, .int .i64 d.kind, .int .i64 d.subj, .int .i64 d.value] 27) = w0 at *
  clear hR
  refine (light_any a n c true _ h).mono ?_
  rintro e w0' ⟨rfl, rfl⟩
  go_wp2_with fail
  refine CR.out.mono ?_
  rintro e w1 ⟨rfl, hd, hb1⟩
  obtain ⟨g, hg⟩ : ∃ g, g = w0'.heap.size := ⟨_, rfl⟩
  rw [← hg] at hd ⊢
  have hRg : R < g := by have := lt_of_heap HR0.out; omega
  have hr1 := (hb1.block R (by omega)).trans HR0.out
  have hb01 : Below w.heap.size w w1 := below_step HB0.out hb1
  have hgw : w.heap.size ≤ g := by have := HR.out; omega
  clear h h400 CR hb1
  have HB1 := Lib.hid hb01; have HR1 := Lib.hid hr1; have HG := Lib.hid (And.intro hRg hgw); clear hb01 hr1 hg hRg hgw
  go_wp2_with fail
  refine (ledger_any w1 g 6 hd (by omega)).mono ?_
  rintro e w2 ⟨l, p, q, rfl, hgd, hl, hq, hs, hxr, hd2, hg2⟩
  have hr2 := (hg2.block R (by have := hd.lt; have := HG.out; omega) (by have := HG.out; simp; omega)).trans HR1.out
  have hrd : Reads w2 p l := by
    rcases hxr with h | ⟨b, hp, _, h⟩
    · exact .inl h
    · exact .inr ⟨b, 0, hp, h⟩
  have hb2 : Below w.heap.size w w2 := ⟨hg2.os.trans HB1.out.os, hg2.tape.trans HB1.out.tape, hg2.output.trans HB1.out.output, Nat.le_trans HB1.out.size hg2.size, fun k hk => (hg2.block k (Nat.lt_of_lt_of_le hk HB1.out.size) (by have := HG.out; simp; omega)).trans (HB1.out.block k hk)⟩
  have cW := written_any w2 (p := p) (c := q) l hrd hgd.1 (by omega)
  have CW := Lib.hid cW; have HB2 := Lib.hid hb2; have HD2 := Lib.hid hd2; have HR2 := Lib.hid hr2
  have hfl := flatE_len l
  obtain ⟨sl, hsl⟩ : ∃ sl, sl = flatE l := ⟨_, rfl⟩
  rw [← hsl] at CW hfl
  have hsl72 : sl.length ≤ 72 := by omega
  clear cW hb2 hd2 hr2 hd hg2 hxr hrd hs hgd HR1 HB1 HB0 HR0 hsl hfl hl hq
  go_wp2_with fail
  refine CW.out.mono ?_
  rintro e w3 ⟨rfl, hb3⟩
  have hd3 := HD2.out.below hb3
  have hr3 := (hb3.block R (lt_of_heap HR2.out)).trans HR2.out
  have HB3 := Lib.hid (below_step HB2.out hb3); have HD3 := Lib.hid hd3; have HR3 := Lib.hid hr3
  have r0 := cell_of_row _ R 0 _ _ _ hr3
  have r1 := cell_of_row _ R 1 _ _ _ hr3
  have r2 := cell_of_row _ R 2 _ _ _ hr3
  have r3 := cell_of_row _ R 3 _ _ _ hr3
  have r4 := cell_of_row _ R 4 _ _ _ hr3
  simp at r0 r1 r2 r3 r4
  clear hd3 hr3 hb3 CW HB2 HD2 HR2
  go_upto_region 5 with (fail)
  have hdd : DiceAt w3.drew g := HD3.out
  have hne : R ≠ g := by have := HG.out; omega
  refine wp_region_held_drew (S := fun W => W.cell? ⟨R, 0, none⟩ = some (.int .i64 d.day) ∧ W.cell? ⟨R, 1, none⟩ = some (.int .i64 d.known) ∧ W.cell? ⟨R, 2, none⟩ = some (.int .i64 d.kind) ∧ W.cell? ⟨R, 3, none⟩ = some (.int .i64 d.subj) ∧ W.cell? ⟨R, 4, none⟩ = some (.int .i64 d.value)) (by kernel_rfl) ⟨r0, r1, r2, r3, r4⟩ (fun hHeld => ?_)
  refine wpAnyH_take (i := 0) (oi := ?oi1) (v := ?v1) ?h1 (by kernel_rfl) (by kernel_rfl) (by kernel_rfl) ?hq1 (Or.inl ⟨?hw1, ?hy1⟩) hHeld ?rest1
  case h1 => simp only [List.getElem?_toArray, List.getElem?_cons_succ, List.getElem?_cons_zero]; rfl
  case hw1 => rfl
  case hy1 => intro w hSw; (try dsimp only at hSw); first | (go_simp; done) | (go_simp; with_reducible rfl)
  case hq1 => intro _ _ _ h; exact h
  try simp only [Act.put, List.setIfInBounds_toArray, List.set_cons_zero, List.set_cons_succ]
  refine wpAnyH_take (i := 1) (oi := ?oi2) (v := ?v2) ?h2 (by kernel_rfl) (by kernel_rfl) (by kernel_rfl) ?hq2 (Or.inl ⟨?hw2, ?hy2⟩) hHeld ?rest2
  case h2 => simp only [List.getElem?_toArray, List.getElem?_cons_succ, List.getElem?_cons_zero]; rfl
  case hw2 => rfl
  case hy2 => intro w hSw; (try dsimp only at hSw); first | (go_simp; done) | (go_simp; with_reducible rfl)
  case hq2 => intro _ _ _ h; exact h
  try simp only [Act.put, List.setIfInBounds_toArray, List.set_cons_zero, List.set_cons_succ]
  refine wpAnyH_take (i := 2) (oi := ?oi3) (v := ?v3) ?h3 (by kernel_rfl) (by kernel_rfl) (by kernel_rfl) ?hq3 (Or.inl ⟨?hw3, ?hy3⟩) hHeld ?rest3
  case h3 => simp only [List.getElem?_toArray, List.getElem?_cons_succ, List.getElem?_cons_zero]; rfl
  case hw3 => rfl
  case hy3 => intro w hSw; (try dsimp only at hSw); first | (go_simp; done) | (go_simp; with_reducible rfl)
  case hq3 => intro _ _ _ h; exact h
  try simp only [Act.put, List.setIfInBounds_toArray, List.set_cons_zero, List.set_cons_succ]
  refine wpAnyH_take (i := 4) (oi := ?oi4) (v := ?v4) ?h4 (by kernel_rfl) (by kernel_rfl) (by kernel_rfl) ?hq4 (Or.inl ⟨?hw4, ?hy4⟩) hHeld ?rest4
  case h4 => simp only [List.getElem?_toArray, List.getElem?_cons_succ, List.getElem?_cons_zero]; rfl
  case hw4 => rfl
  case hy4 => intro w hSw; (try dsimp only at hSw); first | (go_simp; done) | (go_simp; with_reducible rfl)
  case hq4 => intro _ _ _ h; exact h
  try simp only [Act.put, List.setIfInBounds_toArray, List.set_cons_zero, List.set_cons_succ]
  refine wpAnyH_take (i := 7) (oi := ?oi7) (v := ?v7) ?h7 (by kernel_rfl) (by kernel_rfl) (by kernel_rfl) ?hq7 (Or.inl ⟨?hw7, ?hy7⟩) hHeld ?rest7
  case h7 => simp only [List.getElem?_toArray, List.getElem?_cons_succ, List.getElem?_cons_zero]; rfl
  case hw7 => rfl
  case hy7 => intro w hSw; (try dsimp only at hSw); first | (go_simp; done) | (go_simp; with_reducible rfl)
  case hq7 => intro _ _ _ h; exact h
  try simp only [Act.put, List.setIfInBounds_toArray, List.set_cons_zero, List.set_cons_succ]
  refine wpAnyH_ready (rs := [3]) (by kernel_rfl) (by simp) ?_
  refine AllReadyH.cons (o := ?o5) ?h5 (fun K hK => ?step5) ?more5
  case h5 => simp only [List.getElem?_toArray, List.getElem?_cons_succ, List.getElem?_cons_zero]; rfl
  case step5 =>
    go_simp
    go_at_call 17
    refine (decision_any _ g ⟨0, 0, 0, 0, 0⟩ hdd (by decide) (by decide)).mono ?_
    rintro e w4 ⟨d2, rfl, -, -, -, -, -, hd4, hg4⟩
    have s0 := hg4.cell (w := w3.drew) r0 (by simp; omega)
    have s1 := hg4.cell (w := w3.drew) r1 (by simp; omega)
    have s2 := hg4.cell (w := w3.drew) r2 (by simp; omega)
    have s3 := hg4.cell (w := w3.drew) r3 (by simp; omega)
    have s4 := hg4.cell (w := w3.drew) r4 (by simp; omega)
    have hb4 : Below w.heap.size w w4 := ⟨hg4.os.trans HB3.out.os, hg4.tape.trans HB3.out.tape, hg4.output.trans HB3.out.output, Nat.le_trans HB3.out.size hg4.size, fun k hk => (hg4.block k (Nat.lt_of_lt_of_le hk HB3.out.size) (by have := HG.out; simp; omega)).trans (HB3.out.block k hk)⟩
    have HB4 := Lib.hid hb4
    clear hd4 hg4 hb4
    refine hK.out _ _ ⟨s0, s1, s2, s3, s4⟩ (fun hHeld2 => ?_)
    clear hHeld hK K s0 s1 s2 s3 s4; have hHeld := hHeld2; clear hHeld2
    unfold Dec.val
    try simp only [Act.put, List.setIfInBounds_toArray, List.set_cons_zero, List.set_cons_succ]
    refine wpAnyH_ready (rs := [5]) (by kernel_rfl) (by simp) ?_
    refine AllReadyH.cons (o := ?o6) ?h6 (fun K hK => ?step6) ?more6
    case h6 => simp only [List.getElem?_toArray, List.getElem?_cons_succ, List.getElem?_cons_zero]; rfl
    case step6 =>
      go_simp
      have hrow := row3 w4 d d2 cst
      have hb5 : Below w4.heap.size w4 (w4.alloc (.cells (flat [d, d2, cst]).toArray 27)) := (Below.refl _ _).alloc (Nat.le_refl _) _
      change Row (w4.alloc (.cells #[.int .i64 d.day, .int .i64 d.known, .int .i64 d.kind, .int .i64 d.subj, .int .i64 d.value, .int .i64 d2.day, .int .i64 d2.known, .int .i64 d2.kind, .int .i64 d2.subj, .int .i64 d2.value, .int .i64 40000, .int .i64 400, .int .i64 5, .int .i64 40, .int .i64 1] 27)) w4.heap.size 0 [d, d2, cst] at hrow
      change Below w4.heap.size w4 (w4.alloc (.cells #[.int .i64 d.day, .int .i64 d.known, .int .i64 d.kind, .int .i64 d.subj, .int .i64 d.value, .int .i64 d2.day, .int .i64 d2.known, .int .i64 d2.kind, .int .i64 d2.subj, .int .i64 d2.value, .int .i64 40000, .int .i64 400, .int .i64 5, .int .i64 40, .int .i64 1] 27)) at hb5
      refine hK.out _ _ ⟨cell_later hb5 hHeld.1, cell_later hb5 hHeld.2.1, cell_later hb5 hHeld.2.2.1, cell_later hb5 hHeld.2.2.2.1, cell_later hb5 hHeld.2.2.2.2⟩ (fun hHeld2 => ?_)
      clear hHeld hK K; have hHeld := hHeld2; clear hHeld2
      try simp only [Act.put, List.setIfInBounds_toArray, List.set_cons_zero, List.set_cons_succ]
      refine wpAnyH_take (i := 6) (oi := ?oi8) (v := ?v8) ?h8 (by kernel_rfl) (by kernel_rfl) (by kernel_rfl) ?hq8 (Or.inl ⟨?hw8, ?hy8⟩) hHeld ?rest8
      case h8 => simp only [List.getElem?_toArray, List.getElem?_cons_succ, List.getElem?_cons_zero]; rfl
      case hw8 => rfl
      case hy8 => intro w hSw; (try dsimp only at hSw); first | (go_simp; done) | (go_simp; with_reducible rfl)
      case hq8 => intro _ _ _ h; exact h
      try simp only [Act.put, List.setIfInBounds_toArray, List.set_cons_zero, List.set_cons_succ]
      refine wpAnyH_done (by kernel_rfl) ?_ _
      have HRW := Lib.hid hrow; have HB5 := Lib.hid (below_step HB4.out hb5)
      clear hrow hb5 hHeld HB4 HB3 HD3 HR3 r0 r1 r2 r3 r4 hdd hne HG HR
      generalize w4.heap.size = X at *
      generalize w4.alloc (.cells #[.int .i64 d.day, .int .i64 d.known, .int .i64 d.kind, .int .i64 d.subj, .int .i64 d.value, .int .i64 d2.day, .int .i64 d2.known, .int .i64 d2.kind, .int .i64 d2.subj, .int .i64 d2.value, .int .i64 40000, .int .i64 400, .int .i64 5, .int .i64 40, .int .i64 1] 27) = W5 at *
      go_wp2_with fail
      go_loopw [69] (fun iv wr => ∃ k : Nat, k ≤ 3 ∧ iv = .int .i64 k ∧ Below W5.heap.size W5 wr) (fun iv _ => 3 - (intOf iv).toNat)
      case atStart => exact ⟨0, by omega, rfl, Below.refl _ _⟩
      case round =>
        obtain ⟨k, hk, rfl, hb⟩ := hrel
        by_cases hlt : k < 3
        · have hrow := (HRW.out.mono hb) k hlt
          obtain ⟨D, hDD⟩ : ∃ D, D = ([d, d2, cst])[k]'hlt := ⟨_, rfl⟩
          rw [← hDD] at hrow
          simp only [Nat.zero_add] at hrow
          obtain ⟨c0, c1, c2, c3, c4⟩ := hrow
          obtain ⟨b1, e1, he⟩ : ∃ b e, encR D = (b, e) := ⟨_, _, rfl⟩
          obtain ⟨b2, e2, ha⟩ : ∃ b e, appR sl D = (b, e) := ⟨_, _, rfl⟩
          have cE := fun W => encode_any D W he
          have cRE := fun W => refencode_any D W he
          have cAp := fun W => append_any sl D W (by omega) ha
          have cRA := fun W => refappend_any sl D W (by omega) ha
          unfold Dec.val at cE cRE cAp cRA
          have CE := Lib.hid cE; have CRE := Lib.hid cRE; have CAP := Lib.hid cAp; have CRA := Lib.hid cRA
          have hba : Below wr.heap.size wr (wr.alloc (.cells #[.int .i64 D.day, .int .i64 D.known, .int .i64 D.kind, .int .i64 D.subj, .int .i64 D.value] 27)) := (Below.refl _ _).alloc (Nat.le_refl _) _
          have HB1 := Lib.hid (below_step hb hba)
          obtain ⟨Y, hY⟩ : ∃ Y, Y = wr.heap.size := ⟨_, rfl⟩
          have x0 : (wr.alloc (.cells #[.int .i64 D.day, .int .i64 D.known, .int .i64 D.kind, .int .i64 D.subj, .int .i64 D.value] 27)).cell? ⟨Y, 0, none⟩ = some (.int .i64 D.day) := by rw [hY]; simp
          have x1 : (wr.alloc (.cells #[.int .i64 D.day, .int .i64 D.known, .int .i64 D.kind, .int .i64 D.subj, .int .i64 D.value] 27)).cell? ⟨Y, 1, none⟩ = some (.int .i64 D.known) := by rw [hY]; simp
          have x2 : (wr.alloc (.cells #[.int .i64 D.day, .int .i64 D.known, .int .i64 D.kind, .int .i64 D.subj, .int .i64 D.value] 27)).cell? ⟨Y, 2, none⟩ = some (.int .i64 D.kind) := by rw [hY]; simp
          have x3 : (wr.alloc (.cells #[.int .i64 D.day, .int .i64 D.known, .int .i64 D.kind, .int .i64 D.subj, .int .i64 D.value] 27)).cell? ⟨Y, 3, none⟩ = some (.int .i64 D.subj) := by rw [hY]; simp
          have x4 : (wr.alloc (.cells #[.int .i64 D.day, .int .i64 D.known, .int .i64 D.kind, .int .i64 D.subj, .int .i64 D.value] 27)).cell? ⟨Y, 4, none⟩ = some (.int .i64 D.value) := by rw [hY]; simp
          clear hDD he ha cE cRE cAp cRA hb hba
          go_upto_region 8 with (fail)
          rw [← hY]
          generalize wr.alloc (.cells #[.int .i64 D.day, .int .i64 D.known, .int .i64 D.kind, .int .i64 D.subj, .int .i64 D.value] 27) = wa at *
          clear hY c0 c1 c2 c3 c4
          go_wp2_with fail
          refine (CE.out _).mono ?_; rintro e w6 ⟨rfl, hb6⟩
          have xa0 := cell_later hb6 x0
          have xa1 := cell_later hb6 x1
          have xa2 := cell_later hb6 x2
          have xa3 := cell_later hb6 x3
          have xa4 := cell_later hb6 x4
          have HB6 := Lib.hid (below_step HB1.out hb6)
          clear hb6 CE x0 x1 x2 x3 x4
          go_wp2_with fail
          refine (CRE.out _).mono ?_; rintro e w7 ⟨rfl, hb7⟩
          have xb0 := cell_later hb7 xa0
          have xb1 := cell_later hb7 xa1
          have xb2 := cell_later hb7 xa2
          have xb3 := cell_later hb7 xa3
          have xb4 := cell_later hb7 xa4
          have HB7 := Lib.hid (below_step HB6.out hb7)
          clear hb7 CRE xa0 xa1 xa2 xa3 xa4
          go_wp2_with fail
          refine (CAP.out _).mono ?_; rintro e w8 ⟨rfl, hb8⟩
          have xc0 := cell_later hb8 xb0
          have xc1 := cell_later hb8 xb1
          have xc2 := cell_later hb8 xb2
          have xc3 := cell_later hb8 xb3
          have xc4 := cell_later hb8 xb4
          have HB8 := Lib.hid (below_step HB7.out hb8)
          clear hb8 CAP xb0 xb1 xb2 xb3 xb4
          go_wp2_with fail
          refine (CRA.out _).mono ?_; rintro e w9 ⟨rfl, hb9⟩
          have HB9 := Lib.hid (below_step HB8.out hb9)
          clear hb9 CRA xc0 xc1 xc2 xc3 xc4
          go_wp2_with fail
          go_roundw
          case rel => exact ⟨k + 1, by omega, by go_num, HB9.out⟩
          case measure => simp [intOf]; omega
        · have HBL := Lib.hid (below_step HB5.out hb)
          clear hb HB5 HRW
          go_upto_region 15 with (fail)
          clear hlt hk
          obtain ⟨W6, rfl⟩ : ∃ W6 : World, W6 = wr := ⟨_, rfl⟩
          obtain ⟨N, hN⟩ : ∃ N, N = sl.length := ⟨_, rfl⟩
          obtain ⟨Db, hDb⟩ : ∃ Db, Db = W6.heap.size := ⟨_, rfl⟩
          obtain ⟨cb, W7, hcv, hb7, hcell⟩ := conv_new W6 Db hDb.symm ⟨sl.toArray⟩
          rw [ba_size, ← hN] at hcv
          have hb7' : Below W6.heap.size W6 W7 := by rw [← hDb]; exact hb7
          have HB7 := Lib.hid hb7'; have HCELL := Lib.hid hcell; have HDB := Lib.hid hDb; have HN := Lib.hid hN
          have hN72 : N ≤ 72 := by omega
          clear hb7 hb7' hcell hDb hN
          go_upto_if 118 with (fail)
          clear hcv
          go_cut [] from 116 to 130 (fun wc => BRel W6 Db sl wc)
          case first =>
            by_cases hN0 : 0 < N
            · have g1 : decide ((0 : Int) < (N : Int)) = true := by rw [decide_eq_true_eq]; omega
              have g2 : decide (0 < N) = true := by rw [decide_eq_true_eq]; omega
              obtain ⟨i, hi, hiN⟩ : ∃ i : Nat, y % (N : Int) = i ∧ i < N := ⟨(y % (N : Int)).toNat, by rw [Int.toNat_of_nonneg (Int.emod_nonneg _ (by omega))], by have := Int.emod_lt_of_pos y (show (0 : Int) < N by omega); have := Int.emod_nonneg y (show (N : Int) ≠ 0 by omega); omega⟩
              have cM := fun W => mod_any y N W (by omega) (by omega) (by omega) (by omega)
              rw [hi] at cM
              have hil : i < sl.length := by have := HN.out; omega
              obtain ⟨hc0, hf0⟩ := HCELL.out i hil
              have hc0' : W7.cell? ⟨Db, i, none⟩ = some (.int .u8 sl[i].toNat) := hc0
              have CM := Lib.hid cM
              have hi0 : (0 : Int) ≤ (i : Int) := by omega
              have hi1 : (i : Int) < (N : Int) := by omega
              have hbt := sl[i].toNat_lt
              clear cM hi hc0
              go_wp2_with fail
              refine (CM.out _).mono ?_
              rintro e W8 ⟨rfl, rfl⟩
              go_wp2_with fail
              go_meet
              exact brel_set z hil (fun j hj => (HCELL.out j hj).1) HB7.out HDB.out
            · have g1 : decide ((0 : Int) < (N : Int)) = false := by rw [decide_eq_false_iff_not]; omega
              have g2 : decide (0 < N) = false := by rw [decide_eq_false_iff_not]; omega
              go_wp2_with fail
              go_meet
              exact ⟨sl, rfl, fun j hj => by rw [Nat.zero_add]; exact (HCELL.out j hj).1, HB7.out⟩
          case rest =>
            obtain ⟨sb, hsb, hcb, hbb⟩ := hcut
            obtain ⟨W8, rfl⟩ : ∃ W8 : World, W8 = wc := ⟨_, rfl⟩
            obtain ⟨m1, hm1⟩ : ∃ m1, m1 = x % ((sl.length : Int) + 2) := ⟨_, rfl⟩
            have hm1a : -9223372036854775808 ≤ m1 ∧ m1 ≤ 9223372036854775807 := by
              have := Int.emod_nonneg x (show (sl.length : Int) + 2 ≠ 0 by omega); have := Int.emod_lt_of_pos x (show (0 : Int) < (sl.length : Int) + 2 by omega); omega
            have cM := fun W => mod_any x ((sl.length : Int) + 2) W (by omega) (by omega) (by omega) (by omega)
            rw [← hm1] at cM
            have CM := Lib.hid cM
            have HSB := Lib.hid hsb; have HCB := Lib.hid hcb; have HBB := Lib.hid hbb
            clear cM hm1 hsb hcb hbb HCELL HB7
            go_wp2_with fail
            refine (CM.out _).mono ?_
            rintro e W9 ⟨rfl, rfl⟩
            clear CM
            obtain ⟨X2, hX2⟩ : ∃ X2, X2 = W9.heap.size := ⟨_, rfl⟩
            have hel : ∀ k, k < 2 → ∃ nn : Int, (-9223372036854775808 ≤ nn ∧ nn ≤ 9223372036854775807) ∧ (W9.alloc (.cells #[.int .i64 x, .int .i64 m1] 3)).cell? ⟨X2, k, none⟩ = some (.int .i64 nn) := by
              intro k hk
              rw [hX2]
              have : k = 0 ∨ k = 1 := by omega
              rcases this with rfl | rfl
              · exact ⟨x, ⟨hx0, hx1⟩, by simp⟩
              · exact ⟨m1, hm1a, by simp⟩
            have hb9 : Below W9.heap.size W9 (W9.alloc (.cells #[.int .i64 x, .int .i64 m1] 3)) := (Below.refl _ _).alloc (Nat.le_refl _) _
            have HEL := Lib.hid hel; have HB9 := Lib.hid hb9
            clear hel hb9
            go_wp2_with fail
            rw [← hX2]
            generalize W9.alloc (.cells #[.int .i64 x, .int .i64 m1] 3) = W10 at *
            clear hX2
            go_loopw [138] (fun iv wr => ∃ k : Nat, k ≤ 2 ∧ iv = .int .i64 k ∧ Below W10.heap.size W10 wr) (fun iv _ => 2 - (intOf iv).toNat)
            case atStart => exact ⟨0, by omega, rfl, Below.refl _ _⟩
            case round =>
              obtain ⟨k, hk, rfl, hb⟩ := hrel
              by_cases hlt : k < 2
              · obtain ⟨nn, ⟨hn0, hn1⟩, hcn⟩ := HEL.out k hlt
                have g5k : decide ((k : Int) < 2) = true := by rw [decide_eq_true_eq]; omega
                have g6k : decide (k < 2) = true := by rw [decide_eq_true_eq]; omega
                have hcn' := cell_later hb hcn
                have hcv := conv_cells (P := Try.prog) (w := wr) (b := Db) (o := 0) (k := N) (c := cb) (l := sb) (by rw [HSB.out]; exact HN.out.symm) (fun j hj => cell_later hb (cell_later HB9.out (HCB.out j hj))) 60 5 9 (by kernel_rfl) (by kernel_rfl) (by kernel_rfl)
                obtain ⟨X3, hX3⟩ : ∃ X3, X3 = wr.heap.size := ⟨_, rfl⟩
                have hel : ∀ k, k < 3 → ∃ t : List UInt8, t.length ≤ 300 ∧ (wr.alloc (.cells #[.string ⟨T.toArray⟩, .string ⟨#[]⟩, .string ⟨sb.toArray⟩] 9)).cell? ⟨X3, k, none⟩ = some (.string ⟨t.toArray⟩) := by
                  intro k hk
                  rw [hX3]
                  have : k = 0 ∨ k = 1 ∨ k = 2 := by omega
                  rcases this with rfl | rfl | rfl
                  · exact ⟨T, hT, by simp⟩
                  · exact ⟨[], by decide, by simp⟩
                  · exact ⟨sb, by rw [HSB.out]; omega, by simp⟩
                have hbn : Below wr.heap.size wr (wr.alloc (.cells #[.string ⟨T.toArray⟩, .string ⟨#[]⟩, .string ⟨sb.toArray⟩] 9)) := (Below.refl _ _).alloc (Nat.le_refl _) _
                have HEL3 := Lib.hid hel; have HBN := Lib.hid (below_step hb hbn)
                clear hel hbn hb hcn
                go_wp2_with fail
                rw [← hX3]
                change Code.wp _ _ _ _ (wr.alloc (.cells #[.string ⟨T.toArray⟩, .string ⟨#[]⟩, .string ⟨sb.toArray⟩] 9))
                generalize wr.alloc (.cells #[.string ⟨T.toArray⟩, .string ⟨#[]⟩, .string ⟨sb.toArray⟩] 9) = W11 at *
                clear hX3 hcn' hcv
                go_loopw [147] (fun iv wr => ∃ k : Nat, k ≤ 3 ∧ iv = .int .i64 k ∧ Below W11.heap.size W11 wr) (fun iv _ => 3 - (intOf iv).toNat)
                case atStart => exact ⟨0, by omega, rfl, Below.refl _ _⟩
                case round =>
                  obtain ⟨k3, hk3, rfl, hb3⟩ := hrel
                  by_cases hlt3 : k3 < 3
                  · obtain ⟨t, ht, hct⟩ := HEL3.out k3 hlt3
                    have g7k : decide ((k3 : Int) < 3) = true := by rw [decide_eq_true_eq]; omega
                    have g8k : decide (k3 < 3) = true := by rw [decide_eq_true_eq]; omega
                    have hct' := cell_later hb3 hct
                    obtain ⟨ys, hys⟩ : ∃ ys, ys = crashS sl t nn := ⟨_, rfl⟩
                    have hyl : ys.length ≤ 372 := by rw [hys]; have := crashS_len sl t nn; omega
                    have cC := fun W => crash_int sl t nn W (by omega) (by omega)
                    have cRC := fun W => refcrash_int sl t nn W (by omega) (by omega)
                    rw [← hys] at cC cRC
                    obtain ⟨ds, hds⟩ := open_exists ys
                    have hdl : ds.length ≤ 31 := by have := hds.le; omega
                    have hrl : (rep ds).length ≤ 31 := by have := (rep_good ds ds.length (Nat.le_refl _)).2; rw [List.take_length] at this; omega
                    have cO := fun W => open_any ys ds W hds (by omega)
                    have cRO := fun W => refopen_any ys ds W hds (by omega)
                    have cP := fun W => replay_rep ys ds W hds (by omega) (by omega)
                    have cRP := fun W => refreplay_rep ys ds W hds (by omega) (by omega)
                    have cW := fun W => whole_any ys ds W hds (by omega)
                    have cRW := fun W => refwhole_any ys ds W hds (by omega)
                    unfold OpenPost at cO cRO
                    unfold ReplayPost2 at cP cRP
                    obtain ⟨L, hL⟩ : ∃ L, L = rep ds := ⟨_, rfl⟩
                    obtain ⟨M, hM⟩ : ∃ M, M = 12 * ds.length := ⟨_, rfl⟩
                    obtain ⟨nd, hnd⟩ : ∃ nd, nd = ds.length := ⟨_, rfl⟩
                    rw [← hL] at cP cRP hrl
                    rw [← hM] at cO cRO cW cRW
                    have CC := Lib.hid cC; have CRC := Lib.hid cRC; have CO := Lib.hid cO; have CRO := Lib.hid cRO; have CP := Lib.hid cP; have CRP := Lib.hid cRP; have CW := Lib.hid cW; have CRW := Lib.hid cRW
                    have HB3 := Lib.hid hb3
                    clear cC cRC cO cRO cP cRP cW cRW hys hL hM hds hct hb3 hnd
                    go_wp2_with fail
                    refine (CC.out _).mono ?_
                    rintro e w' ⟨rfl, rfl⟩
                    go_wp2_with fail
                    refine (CRC.out _).mono ?_
                    rintro e w' ⟨rfl, rfl⟩
                    clear hct' CC CRC
                    obtain ⟨V0, rfl⟩ : ∃ V0 : World, V0 = wr := ⟨_, rfl⟩
                    go_wp2_with fail
                    refine (CO.out _).mono ?_
                    rintro e V1 ⟨v1, rfl, hdv1, hb1⟩
                    obtain ⟨p1, c1, rfl, _, hx1⟩ := hdv1
                    have hr1 : Reads V1 p1 ds := by
                      rcases hx1 with h | ⟨b, hp, _, h⟩
                      · exact .inl h
                      · exact .inr ⟨b, 0, hp, h⟩
                    have HV1 := Lib.hid hb1; have HR1 := Lib.hid hr1
                    clear hb1 hr1 hx1 CO
                    go_wp2_with fail
                    refine (CRO.out _).mono ?_
                    rintro e V2 ⟨v2, rfl, hdv2, hb2⟩
                    obtain ⟨p2, c2, rfl, _, hx2⟩ := hdv2
                    have hr2 : Reads V2 p2 ds := by
                      rcases hx2 with h | ⟨b, hp, _, h⟩
                      · exact .inl h
                      · exact .inr ⟨b, 0, hp, h⟩
                    have HV2 := Lib.hid (below_step HV1.out hb2); have HR2 := Lib.hid hr2; have HR12 := Lib.hid (HR1.out.mono hb2)
                    clear hb2 hr2 hx2 CRO HV1 HR1
                    go_wp2_with fail
                    refine (CP.out _).mono ?_
                    rintro e V3 ⟨p3, c3, rfl, hr3, hb4⟩
                    have hba : Below V3.heap.size V3 (V3.alloc (.cells #[.slice p3 L.length c3] 25)) := (Below.refl _ _).alloc (Nat.le_refl _) _
                    obtain ⟨E1, hE1⟩ : ∃ E1, E1 = V3.heap.size := ⟨_, rfl⟩
                    have hbx1 : (V3.alloc (.cells #[.slice p3 L.length c3] 25)).cell? ⟨E1, 0, none⟩ = some (.slice p3 L.length c3) := by rw [hE1]; simp
                    have h24 := below_step hb4 hba
                    have HV4 := Lib.hid (below_step HV2.out h24); have HR13 := Lib.hid (HR12.out.mono h24); have HR23 := Lib.hid (HR2.out.mono h24); have HR33 := Lib.hid (hr3.mono hba); have HX1 := Lib.hid hbx1
                    clear hb4 hr3 hba hbx1 h24 HV2 HR12 HR2 CP
                    go_upto_region 28 with (fail)
                    rw [← hE1]
                    generalize V3.alloc (.cells #[.slice p3 L.length c3] 25) = V4 at *
                    clear hE1
                    go_wp2_with fail
                    refine (CRP.out _).mono ?_
                    rintro e V5 ⟨p4, c4, rfl, hr4, hb5⟩
                    have hba : Below V5.heap.size V5 (V5.alloc (.cells #[.slice p4 L.length c4] 25)) := (Below.refl _ _).alloc (Nat.le_refl _) _
                    obtain ⟨E2, hE2⟩ : ∃ E2, E2 = V5.heap.size := ⟨_, rfl⟩
                    have hbx2 : (V5.alloc (.cells #[.slice p4 L.length c4] 25)).cell? ⟨E2, 0, none⟩ = some (.slice p4 L.length c4) := by rw [hE2]; simp
                    have h46 := below_step hb5 hba
                    have hbx1 := cell_later h46 HX1.out
                    have HV6 := Lib.hid (below_step HV4.out h46); have HR16 := Lib.hid (HR13.out.mono h46); have HR26 := Lib.hid (HR23.out.mono h46); have HR36 := Lib.hid (HR33.out.mono h46); have HR46 := Lib.hid (hr4.mono hba)
                    clear hb5 hr4 hba h46 HV4 HR13 HR23 HR33 HX1 CRP
                    go_upto_region 29 with (fail)
                    rw [← hE2]
                    generalize V5.alloc (.cells #[.slice p4 L.length c4] 25) = V6 at *
                    clear hE2
                    have cS := samedecs_same V6 p1 p2 c1 c2 ds HR16.out HR26.out (by omega)
                    have CS := Lib.hid cS
                    clear cS
                    go_wp2_with fail
                    refine CS.out.mono ?_
                    rintro e V7 ⟨rfl, hb7⟩
                    have hbx17 := cell_later hb7 hbx1
                    have hbx27 := cell_later hb7 hbx2
                    have cT := refsame_same V7 p3 p4 c3 c4 L (HR36.out.mono hb7) (HR46.out.mono hb7) (by omega)
                    have CT := Lib.hid cT
                    have HV7 := Lib.hid (below_step HV6.out hb7)
                    clear cT hb7 hbx1 hbx2 HV6 HR16 HR26 HR36 HR46 CS
                    go_wp2_with fail
                    refine CT.out.mono ?_
                    rintro e V8 ⟨rfl, hb8⟩
                    have HV8 := Lib.hid (below_step HV7.out hb8)
                    clear hb8 hbx17 hbx27 HV7 CT
                    go_wp2_with fail
                    refine (CW.out _).mono ?_
                    rintro e V9 ⟨rfl, hb9⟩
                    have HV9 := Lib.hid (below_step HV8.out hb9)
                    clear hb9 HV8 CW
                    go_wp2_with fail
                    refine (CRW.out _).mono ?_
                    rintro e V10 ⟨rfl, hb10⟩
                    have HV10 := Lib.hid (below_step HV9.out hb10)
                    clear hb10 HV9 CRW
                    have cM := fun W => mod_any y ((ys.length : Int) + 2) W (by omega) (by omega) (by omega) (by omega)
                    obtain ⟨m2, hm2⟩ : ∃ m2, m2 = y % ((ys.length : Int) + 2) := ⟨_, rfl⟩
                    rw [← hm2] at cM
                    have CM := Lib.hid cM
                    clear cM hm2
                    go_wp2_with fail
                    refine (CM.out _).mono ?_
                    rintro e w' ⟨rfl, rfl⟩
                    clear CM
                    obtain ⟨X4, hX4⟩ : ∃ X4, X4 = w'.heap.size := ⟨_, rfl⟩
                    have hel : ∀ k, k < 3 → ∃ zz : Int, (w'.alloc (.cells #[.int .i64 y, .int .i64 m2, .int .i64 0] 3)).cell? ⟨X4, k, none⟩ = some (.int .i64 zz) := by
                      intro k hk
                      rw [hX4]
                      have : k = 0 ∨ k = 1 ∨ k = 2 := by omega
                      rcases this with rfl | rfl | rfl
                      · exact ⟨y, by simp⟩
                      · exact ⟨m2, by simp⟩
                      · exact ⟨0, by simp⟩
                    have hba : Below w'.heap.size w' (w'.alloc (.cells #[.int .i64 y, .int .i64 m2, .int .i64 0] 3)) := (Below.refl _ _).alloc (Nat.le_refl _) _
                    have HEL4 := Lib.hid hel; have HV11 := Lib.hid (below_step HV10.out hba)
                    clear hel hba HV10
                    go_wp2_with fail
                    rw [← hX4]
                    generalize w'.alloc (.cells #[.int .i64 y, .int .i64 m2, .int .i64 0] 3) = V11 at *
                    clear hX4
                    go_loopw [219] (fun iv wr => ∃ k : Nat, k ≤ 3 ∧ iv = .int .i64 k ∧ Below V11.heap.size V11 wr) (fun iv _ => 3 - (intOf iv).toNat)
                    case atStart => exact ⟨0, by omega, rfl, Below.refl _ _⟩
                    case round =>
                      obtain ⟨k4, hk4, rfl, hb4⟩ := hrel
                      by_cases hlt4 : k4 < 3
                      · obtain ⟨zz, hcz⟩ := HEL4.out k4 hlt4
                        have hcz' := cell_later hb4 hcz
                        obtain ⟨D, dn, de, cD, cRD⟩ := decode_both ys (by omega) zz
                        unfold Dec.val at cD cRD
                        have CD := Lib.hid cD; have CRD := Lib.hid cRD; have HB4 := Lib.hid hb4
                        clear cD cRD hb4 hcz
                        go_wp2_with fail
                        refine (CD.out _).mono ?_
                        rintro e U1 ⟨rfl, hb5⟩
                        obtain ⟨Q1, hQ1⟩ : ∃ Q1, Q1 = U1.heap.size := ⟨_, rfl⟩
                        have q0 : (U1.alloc (.cells #[.int .i64 D.day, .int .i64 D.known, .int .i64 D.kind, .int .i64 D.subj, .int .i64 D.value] 27)).cell? ⟨Q1, 0, none⟩ = some (.int .i64 D.day) := by rw [hQ1]; simp
                        have q1 : (U1.alloc (.cells #[.int .i64 D.day, .int .i64 D.known, .int .i64 D.kind, .int .i64 D.subj, .int .i64 D.value] 27)).cell? ⟨Q1, 1, none⟩ = some (.int .i64 D.known) := by rw [hQ1]; simp
                        have q2 : (U1.alloc (.cells #[.int .i64 D.day, .int .i64 D.known, .int .i64 D.kind, .int .i64 D.subj, .int .i64 D.value] 27)).cell? ⟨Q1, 2, none⟩ = some (.int .i64 D.kind) := by rw [hQ1]; simp
                        have q3 : (U1.alloc (.cells #[.int .i64 D.day, .int .i64 D.known, .int .i64 D.kind, .int .i64 D.subj, .int .i64 D.value] 27)).cell? ⟨Q1, 3, none⟩ = some (.int .i64 D.subj) := by rw [hQ1]; simp
                        have q4 : (U1.alloc (.cells #[.int .i64 D.day, .int .i64 D.known, .int .i64 D.kind, .int .i64 D.subj, .int .i64 D.value] 27)).cell? ⟨Q1, 4, none⟩ = some (.int .i64 D.value) := by rw [hQ1]; simp
                        have hba : Below U1.heap.size U1 (U1.alloc (.cells #[.int .i64 D.day, .int .i64 D.known, .int .i64 D.kind, .int .i64 D.subj, .int .i64 D.value] 27)) := (Below.refl _ _).alloc (Nat.le_refl _) _
                        have HU2 := Lib.hid (below_step (below_step HB4.out hb5) hba)
                        clear hb5 hba hcz' CD HB4
                        go_upto_region 35 with (fail)
                        rw [← hQ1]
                        generalize U1.alloc (.cells #[.int .i64 D.day, .int .i64 D.known, .int .i64 D.kind, .int .i64 D.subj, .int .i64 D.value] 27) = U2 at *
                        clear hQ1
                        have HQ := Lib.hid (And.intro q0 (And.intro q1 (And.intro q2 (And.intro q3 q4))))
                        clear q0 q1 q2 q3 q4
                        go_wp2_with fail
                        refine (CRD.out _).mono ?_
                        rintro e U3 ⟨rfl, hb5⟩
                        obtain ⟨Q2, hQ2⟩ : ∃ Q2, Q2 = U3.heap.size := ⟨_, rfl⟩
                        have s0 : (U3.alloc (.cells #[.int .i64 D.day, .int .i64 D.known, .int .i64 D.kind, .int .i64 D.subj, .int .i64 D.value] 27)).cell? ⟨Q2, 0, none⟩ = some (.int .i64 D.day) := by rw [hQ2]; simp
                        have s1 : (U3.alloc (.cells #[.int .i64 D.day, .int .i64 D.known, .int .i64 D.kind, .int .i64 D.subj, .int .i64 D.value] 27)).cell? ⟨Q2, 1, none⟩ = some (.int .i64 D.known) := by rw [hQ2]; simp
                        have s2 : (U3.alloc (.cells #[.int .i64 D.day, .int .i64 D.known, .int .i64 D.kind, .int .i64 D.subj, .int .i64 D.value] 27)).cell? ⟨Q2, 2, none⟩ = some (.int .i64 D.kind) := by rw [hQ2]; simp
                        have s3 : (U3.alloc (.cells #[.int .i64 D.day, .int .i64 D.known, .int .i64 D.kind, .int .i64 D.subj, .int .i64 D.value] 27)).cell? ⟨Q2, 3, none⟩ = some (.int .i64 D.subj) := by rw [hQ2]; simp
                        have s4 : (U3.alloc (.cells #[.int .i64 D.day, .int .i64 D.known, .int .i64 D.kind, .int .i64 D.subj, .int .i64 D.value] 27)).cell? ⟨Q2, 4, none⟩ = some (.int .i64 D.value) := by rw [hQ2]; simp
                        have hba : Below U3.heap.size U3 (U3.alloc (.cells #[.int .i64 D.day, .int .i64 D.known, .int .i64 D.kind, .int .i64 D.subj, .int .i64 D.value] 27)) := (Below.refl _ _).alloc (Nat.le_refl _) _
                        have h24 := below_step hb5 hba
                        have q0 := cell_later h24 HQ.out.1
                        have q1 := cell_later h24 HQ.out.2.1
                        have q2 := cell_later h24 HQ.out.2.2.1
                        have q3 := cell_later h24 HQ.out.2.2.2.1
                        have q4 := cell_later h24 HQ.out.2.2.2.2
                        have HU4 := Lib.hid (below_step HU2.out h24)
                        clear hb5 hba h24 CRD HU2 HQ
                        go_upto_region 36 with (fail)
                        rw [← hQ2]
                        generalize U3.alloc (.cells #[.int .i64 D.day, .int .i64 D.known, .int .i64 D.kind, .int .i64 D.subj, .int .i64 D.value] 27) = U4 at *
                        clear hQ2
                        go_wp2_with fail
                        go_roundw
                        case rel => exact ⟨k4 + 1, by omega, by go_num, HU4.out⟩
                        case measure => simp [intOf]; omega
                      · obtain ⟨V12, rfl⟩ : ∃ V12 : World, V12 = wr := ⟨_, rfl⟩
                        have HV12 := Lib.hid (below_step HB3.out (below_step HV11.out hb4))
                        clear hb4
                        go_wp2_with fail
                        go_roundw
                        case rel => exact ⟨k3 + 1, by omega, by go_num, HV12.out⟩
                        case measure => simp [intOf]; omega
                  · obtain ⟨W12, rfl⟩ : ∃ W12 : World, W12 = wr := ⟨_, rfl⟩
                    have HB12 := Lib.hid (below_step HBN.out hb3)
                    clear hb3
                    go_wp2_with fail
                    go_roundw
                    case rel => exact ⟨k + 1, by omega, by go_num, HB12.out⟩
                    case measure => simp [intOf]; omega
              · obtain ⟨W11, rfl⟩ : ∃ W11 : World, W11 = wr := ⟨_, rfl⟩
                have hbf := below_step (below_step (below_step (below_step HBL.out HBB.out) HB9.out) hb) (Below.refl _ _)
                have HBF := Lib.hid hbf
                have cS := fun W => sum_any ⟨T.toArray⟩ W (by rw [ba_size]; unfold maxLen; omega)
                have cS2 := fun W => refsum_any ⟨T.toArray⟩ W (by rw [ba_size]; unfold maxLen; omega)
                have CS := Lib.hid cS; have CS2 := Lib.hid cS2
                clear hb hbf HBL HBB HB9 cS cS2
                go_wp2_with fail
                refine (CS.out _).mono ?_
                rintro e w' ⟨rfl, rfl⟩
                go_wp2_with fail
                refine (CS2.out _).mono ?_
                rintro e w' ⟨rfl, rfl⟩
                go_wp2_with fail
                refine (jawake_any _).mono ?_
                rintro e w' ⟨rfl, hbz⟩
                go_wp2_with fail
                go_ret
                exact ⟨rfl, below_step HBF.out hbz⟩
    exact AllReadyH.nil
  exact AllReadyH.nil

theorem ljall_any (w : World) (a : Option Addr) (n c : Nat) (d : Dec) (t : ByteArray) (x y z : Int) (hx : -9223372036854775808 ≤ x ∧ x ≤ 9223372036854775807) (hy : -9223372036854775808 ≤ y ∧ y ≤ 9223372036854775807) (hz : -9223372036854775808 ≤ z ∧ z ≤ 9223372036854775807)
    (hi : Ints w w.heap.size a n) :
    Calls Try.prog 9 #[.slice a n c, d.val, .string t, .int .i64 x, .int .i64 y, .int .i64 z] w fun e w' => e = .returned (.bool true) ∧ Below w.heap.size w w' := by
  cases h : decide (n ≤ 400)
  · exact ljall_heavy w a n c d t x y z h
  · cases h2 : decide ((300 : Int) < (t.size : Int))
    · obtain ⟨T, rfl⟩ : ∃ T : List UInt8, t = ⟨T.toArray⟩ := ⟨t.data.toList, by simp⟩
      rw [ba_size] at h2
      exact ljall_light w a n c d T x y z hx hy hz h hi (by rw [decide_eq_false_iff_not] at h2; omega)
    · exact ljall_torn w a n c d t x y z h h2
end Go.Proofs.Ytogcpjkgliijmaa
