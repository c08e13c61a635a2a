/- The walk of LedgerChanges. -/
import Derived.Test.YtogcpjkgliijmaaChgM
import Derived.Test.YtogcpjkgliijmaaLThen
namespace Go.Proofs.Ytogcpjkgliijmaa
open Go.RowKit

theorem cutN_all {l : List Dec} (hg : Good l) : cutN l 40000 = l.length := by
  have h := cutN_le l 40000
  rcases Nat.eq_zero_or_pos l.length with h0 | h0
  · omega
  · have hv := validB_true (hg.1 (l.length - 1) (by omega))
    have := (cutN_good hg 40000 (l.length - 1) (by omega)).2 (by omega)
    omega

theorem chg_at' {l : List Dec} {k s : Int} {m : Nat} (hm : m ≤ l.length) (cs : List Nat) (h : cs = chg l k s m) (i : Nat) (hi : i + 1 < cs.length) :
    cs[i] < cs[i + 1] ∧ (l.getD cs[i] dz).value ≠ (l.getD cs[i + 1] dz).value := by
  subst h
  exact chg_at hm i hi

set_option maxHeartbeats 1000000 in
theorem lchg_heavy (w : World) (a : Option Addr) (n c : Nat) (x y : Int) (h : decide (n ≤ 400) = false) :
    Calls Try.prog 5 #[.slice a n c, .int .u8 x, .int .u8 y] w fun e w' => e = .returned (.bool true) ∧ Below w.heap.size w w' := by
  go_enter Try.func5, Try.ntmps5
  go_wp2_with fail
  refine (light_any a n c false _ h).mono ?_
  rintro e w1 ⟨rfl, rfl⟩
  go_wp2_with fail
  refine (lawake_any _).mono ?_
  rintro e w2 ⟨rfl, hb⟩
  go_wp2_with fail
  go_ret
  exact ⟨rfl, hb⟩

set_option maxRecDepth 100000 in
set_option maxHeartbeats 8000000 in
theorem lchg_light (w : World) (a : Option Addr) (n c : Nat) (x y : Int) (hx : 0 ≤ x ∧ x ≤ 255) (hy : 0 ≤ y ∧ y ≤ 255) (h : decide (n ≤ 400) = true) (hi : Ints w w.heap.size a n) :
    Calls Try.prog 5 #[.slice a n c, .int .u8 x, .int .u8 y] w fun e w' => e = .returned (.bool true) ∧ Below w.heap.size w w' := by
  have h400 : n ≤ 400 := by simpa using h
  have cR := roll_any a n c w h400 hi
  have CR := Lib.hid cR; clear cR hi
  obtain ⟨hx0, hx1⟩ := hx
  obtain ⟨hy0, hy1⟩ := hy
  go_enter Try.func5, Try.ntmps5
  go_wp2_with fail
  refine (light_any a n c true _ h).mono ?_
  rintro e w0 ⟨rfl, rfl⟩
  go_wp2_with fail
  refine CR.out.mono ?_
  rintro e w1 ⟨rfl, hd, hb1⟩
  go_wp2_with fail
  refine (ledger_any w1 _ 16 hd (by omega)).mono ?_
  rintro e w2 ⟨l, p, q, rfl, hg, hl, hq, hs, hxr, hd2, hg2⟩
  have hb2 := below_grown hb1 hg2
  have hr : Reads w2 p l := by
    rcases hxr with h | ⟨b, hp, _, h⟩
    · exact .inl h
    · exact .inr ⟨b, 0, hp, h⟩
  have hlx : l.length ≤ 1000 := by omega
  have hb2a : Below w2.heap.size w2 (w2.alloc (.cells #[.slice p l.length q] 25)) := (Below.refl _ _).alloc (Nat.le_refl _) _
  obtain ⟨A, hA⟩ : ∃ A, A = w2.heap.size := ⟨_, rfl⟩
  have hbox : (w2.alloc (.cells #[.slice p l.length q] 25)).cell? ⟨A, 0, none⟩ = some (.slice p l.length q) := by rw [hA]; simp
  have hrW := hr.mono hb2a
  have hbW := below_step hb2 hb2a
  have HBOX := Lib.hid hbox; have HR := Lib.hid hrW; have HB := Lib.hid hbW; have HG := Lib.hid hg
  clear hd hd2 hg2 hs hxr hb1 CR h h400 hr hb2 hg hb2a hrW hbW hbox
  go_upto_region 5 with (fail)
  rw [← hA]
  generalize w2.alloc (.cells #[.slice p l.length q] 25) = W3 at *
  clear hA
  have hbox := HBOX.out
  go_wp2_with fail
  generalize 1 + x % 5 = kk
  generalize y % 3 = ss
  have cC := changed_any W3 (p := p) (c := q) kk ss l hlx hq HR.out
  have HLAT := Lib.hid (chg_latest l kk ss l.length (Nat.le_refl _))
  have HLT := Lib.hid (chg_lt l kk ss l.length)
  have HKD := Lib.hid (chg_kind l kk ss l.length)
  have hcsl := chg_len l kk ss l.length
  obtain ⟨cs, hcs⟩ : ∃ cs, cs = chg l kk ss l.length := ⟨_, rfl⟩
  have HAT := Lib.hid (chg_at' (l := l) (k := kk) (s := ss) (Nat.le_refl _) cs hcs)
  rw [← hcs] at cC HLAT HLT HKD hcsl
  clear hcs
  have CC := Lib.hid cC; clear cC
  refine CC.out.mono ?_
  rintro e W4 ⟨v, rfl, hown, hb4⟩
  obtain ⟨av, cap, hv, hcells⟩ : ∃ av cap, v = .slice av cs.length cap ∧ ∀ i (hi : i < cs.length), ∃ b, av = some ⟨b, 0, none⟩ ∧ W4.cell? ⟨b, i, none⟩ = some (.int .i64 (cs[i] : Nat)) := by
    rcases hown.2 with ⟨hv, h0⟩ | ⟨b, cap, cur, hv, _⟩
    · exact ⟨none, 0, by rw [hv, h0], fun i hi => by omega⟩
    · refine ⟨_, cap, hv, fun i hi => ⟨b, rfl, ?_⟩⟩
      subst hv
      rw [hown.cellAt i (by omega)]
      simp [nats, hi]
  subst hv
  have cL := latest_any W4 (p := p) (c := q) kk ss 40000 l HG.out hlx hq (HR.out.mono hb4)
  rw [cutN_all HG.out] at cL
  have hbox4 := cell_later hb4 hbox
  have HR4 := Lib.hid (HR.out.mono hb4)
  have HB4 := Lib.hid (below_step HB.out hb4)
  have HC := Lib.hid hcells
  clear hcells hown hb4 CC HR HB hbox HBOX
  obtain ⟨rr, hrr⟩ : ∃ rr, rr = latestK l kk ss l.length := ⟨_, rfl⟩
  rw [← hrr] at cL HLAT
  unfold LatestPost at cL
  have CL := Lib.hid cL; clear cL hrr
  obtain ⟨rd, hrd⟩ : ∃ rd, rd = rr.getD dz := ⟨_, rfl⟩
  obtain ⟨rb, hrb⟩ : ∃ rb, rb = rr.isSome := ⟨_, rfl⟩
  rw [← hrd, ← hrb] at CL
  have HRD := Lib.hid hrd; have HRB := Lib.hid hrb
  clear hrd hrb
  unfold Dec.val at CL
  go_wp2_with fail
  refine CL.out.mono ?_
  rintro e W5 ⟨rfl, hb5⟩
  have hbox5 := cell_later hb5 hbox4
  have HR5 := Lib.hid (HR4.out.mono hb5)
  have HB5 := Lib.hid (below_step HB4.out hb5)
  have hcells5 : ∀ i (hi : i < cs.length), ∃ b, av = some ⟨b, 0, none⟩ ∧ W5.cell? ⟨b, i, none⟩ = some (.int .i64 (cs[i] : Nat)) := fun i hi => by
    obtain ⟨b, h1, h2⟩ := HC.out i hi
    exact ⟨b, h1, cell_later hb5 h2⟩
  have HC5 := Lib.hid hcells5
  clear hcells5 HC hb5 hbox4 HR4 HB4 CL
  rcases List.eq_nil_or_concat cs with h0 | ⟨cc, z, h0⟩
  · subst h0
    have hrn : rr = none := by
      rcases HLAT.out with ⟨h, _⟩ | ⟨d, cc, z, _, h, _⟩
      · exact h
      · simp at h
    have hrb0 : rb = false := by rw [HRB.out, hrn]; rfl
    subst hrb0
    clear HLAT HLT HKD HAT HRD HRB hrn
    go_upto_region 9 with (fail)
    have hb6 : Below w0.heap.size w0 (W5.alloc (.cells #[.int .i64 rd.day, .int .i64 rd.known, .int .i64 rd.kind, .int .i64 rd.subj, .int .i64 rd.value] 27)) := HB5.out.alloc HB5.out.size _
    have HB6 := Lib.hid hb6; clear hb6
    go_wp2_with fail
    go_loopw [47] (fun iv wr => iv = .int .i64 0 ∧ Below w0.heap.size w0 wr) (fun _ _ => 0)
    case atStart => exact ⟨rfl, HB6.out⟩
    case round =>
      obtain ⟨rfl, hbr⟩ := hrel
      go_upto_region 15 with (fail)
      refine wp_region_held_drew (S := fun W => Below w0.heap.size w0 W) (by kernel_rfl) hbr.drew (fun hHeld => ?_)
      refine wpAnyH_take (i := 0) (oi := ?oiA1) (v := ?vA1) ?hA1 (by kernel_rfl) (by kernel_rfl) (by kernel_rfl) ?hqA1 (Or.inl ⟨?hwA1, ?hyA1⟩) hHeld ?restA1
      case hA1 => simp only [List.getElem?_toArray, List.getElem?_cons_succ, List.getElem?_cons_zero]; rfl
      case hwA1 => rfl
      case hyA1 => intro w hSw; (try dsimp only at hSw); first | (go_simp; done) | (go_simp; with_reducible rfl)
      case hqA1 => intro _ _ _ h; exact h
      try simp only [Act.put, List.setIfInBounds_toArray, List.set_cons_zero, List.set_cons_succ]
      refine wpAnyH_take (i := 1) (oi := ?oiA2) (v := ?vA2) ?hA2 (by kernel_rfl) (by kernel_rfl) (by kernel_rfl) ?hqA2 (Or.inl ⟨?hwA2, ?hyA2⟩) hHeld ?restA2
      case hA2 => simp only [List.getElem?_toArray, List.getElem?_cons_succ, List.getElem?_cons_zero]; rfl
      case hwA2 => rfl
      case hyA2 => intro w hSw; (try dsimp only at hSw); first | (go_simp; done) | (go_simp; with_reducible rfl)
      case hqA2 => intro _ _ _ h; exact h
      try simp only [Act.put, List.setIfInBounds_toArray, List.set_cons_zero, List.set_cons_succ]
      refine wpAnyH_take (i := 2) (oi := ?oiA3) (v := ?vA3) ?hA3 (by kernel_rfl) (by kernel_rfl) (by kernel_rfl) ?hqA3 (Or.inl ⟨?hwA3, ?hyA3⟩) hHeld ?restA3
      case hA3 => simp only [List.getElem?_toArray, List.getElem?_cons_succ, List.getElem?_cons_zero]; rfl
      case hwA3 => rfl
      case hyA3 => intro w hSw; (try dsimp only at hSw); first | (go_simp; done) | (go_simp; with_reducible rfl)
      case hqA3 => intro _ _ _ h; exact h
      try simp only [Act.put, List.setIfInBounds_toArray, List.set_cons_zero, List.set_cons_succ]
      refine wpAnyH_take (i := 3) (oi := ?oiA4) (v := undef) ?hA4 (by kernel_rfl) (by kernel_rfl) (by kernel_rfl) ?hqA4 (Or.inr ⟨?hwA4, ?hyA4⟩) hHeld ?restA4
      case hA4 => simp only [List.getElem?_toArray, List.getElem?_cons_succ, List.getElem?_cons_zero]; rfl
      case hwA4 => rfl
      case hyA4 => rfl
      case hqA4 => intro _ _ _ h; exact h
      try simp only [Act.put, List.setIfInBounds_toArray, List.set_cons_zero, List.set_cons_succ]
      refine wpAnyH_take (i := 4) (oi := ?oiA5) (v := undef) ?hA5 (by kernel_rfl) (by kernel_rfl) (by kernel_rfl) ?hqA5 (Or.inr ⟨?hwA5, ?hyA5⟩) hHeld ?restA5
      case hA5 => simp only [List.getElem?_toArray, List.getElem?_cons_succ, List.getElem?_cons_zero]; rfl
      case hwA5 => rfl
      case hyA5 => rfl
      case hqA5 => intro _ _ _ h; exact h
      try simp only [Act.put, List.setIfInBounds_toArray, List.set_cons_zero, List.set_cons_succ]
      refine wpAnyH_take (i := 5) (oi := ?oiA6) (v := undef) ?hA6 (by kernel_rfl) (by kernel_rfl) (by kernel_rfl) ?hqA6 (Or.inr ⟨?hwA6, ?hyA6⟩) hHeld ?restA6
      case hA6 => simp only [List.getElem?_toArray, List.getElem?_cons_succ, List.getElem?_cons_zero]; rfl
      case hwA6 => rfl
      case hyA6 => rfl
      case hqA6 => intro _ _ _ h; exact h
      try simp only [Act.put, List.setIfInBounds_toArray, List.set_cons_zero, List.set_cons_succ]
      refine wpAnyH_take (i := 6) (oi := ?oiA7) (v := undef) ?hA7 (by kernel_rfl) (by kernel_rfl) (by kernel_rfl) ?hqA7 (Or.inr ⟨?hwA7, ?hyA7⟩) hHeld ?restA7
      case hA7 => simp only [List.getElem?_toArray, List.getElem?_cons_succ, List.getElem?_cons_zero]; rfl
      case hwA7 => rfl
      case hyA7 => rfl
      case hqA7 => intro _ _ _ h; exact h
      try simp only [Act.put, List.setIfInBounds_toArray, List.set_cons_zero, List.set_cons_succ]
      refine wpAnyH_take (i := 7) (oi := ?oiA8) (v := undef) ?hA8 (by kernel_rfl) (by kernel_rfl) (by kernel_rfl) ?hqA8 (Or.inr ⟨?hwA8, ?hyA8⟩) hHeld ?restA8
      case hA8 => simp only [List.getElem?_toArray, List.getElem?_cons_succ, List.getElem?_cons_zero]; rfl
      case hwA8 => rfl
      case hyA8 => rfl
      case hqA8 => intro _ _ _ h; exact h
      try simp only [Act.put, List.setIfInBounds_toArray, List.set_cons_zero, List.set_cons_succ]
      refine wpAnyH_take (i := 8) (oi := ?oiA9) (v := undef) ?hA9 (by kernel_rfl) (by kernel_rfl) (by kernel_rfl) ?hqA9 (Or.inr ⟨?hwA9, ?hyA9⟩) hHeld ?restA9
      case hA9 => simp only [List.getElem?_toArray, List.getElem?_cons_succ, List.getElem?_cons_zero]; rfl
      case hwA9 => rfl
      case hyA9 => rfl
      case hqA9 => intro _ _ _ h; exact h
      try simp only [Act.put, List.setIfInBounds_toArray, List.set_cons_zero, List.set_cons_succ]
      refine wpAnyH_take (i := 9) (oi := ?oiA10) (v := undef) ?hA10 (by kernel_rfl) (by kernel_rfl) (by kernel_rfl) ?hqA10 (Or.inr ⟨?hwA10, ?hyA10⟩) hHeld ?restA10
      case hA10 => simp only [List.getElem?_toArray, List.getElem?_cons_succ, List.getElem?_cons_zero]; rfl
      case hwA10 => rfl
      case hyA10 => rfl
      case hqA10 => intro _ _ _ h; exact h
      try simp only [Act.put, List.setIfInBounds_toArray, List.set_cons_zero, List.set_cons_succ]
      refine wpAnyH_take (i := 10) (oi := ?oiA11) (v := undef) ?hA11 (by kernel_rfl) (by kernel_rfl) (by kernel_rfl) ?hqA11 (Or.inr ⟨?hwA11, ?hyA11⟩) hHeld ?restA11
      case hA11 => simp only [List.getElem?_toArray, List.getElem?_cons_succ, List.getElem?_cons_zero]; rfl
      case hwA11 => rfl
      case hyA11 => rfl
      case hqA11 => intro _ _ _ h; exact h
      try simp only [Act.put, List.setIfInBounds_toArray, List.set_cons_zero, List.set_cons_succ]
      refine wpAnyH_take (i := 11) (oi := ?oiA12) (v := undef) ?hA12 (by kernel_rfl) (by kernel_rfl) (by kernel_rfl) ?hqA12 (Or.inr ⟨?hwA12, ?hyA12⟩) hHeld ?restA12
      case hA12 => simp only [List.getElem?_toArray, List.getElem?_cons_succ, List.getElem?_cons_zero]; rfl
      case hwA12 => rfl
      case hyA12 => rfl
      case hqA12 => intro _ _ _ h; exact h
      try simp only [Act.put, List.setIfInBounds_toArray, List.set_cons_zero, List.set_cons_succ]
      refine wpAnyH_take (i := 12) (oi := ?oiA13) (v := undef) ?hA13 (by kernel_rfl) (by kernel_rfl) (by kernel_rfl) ?hqA13 (Or.inr ⟨?hwA13, ?hyA13⟩) hHeld ?restA13
      case hA13 => simp only [List.getElem?_toArray, List.getElem?_cons_succ, List.getElem?_cons_zero]; rfl
      case hwA13 => rfl
      case hyA13 => rfl
      case hqA13 => intro _ _ _ h; exact h
      try simp only [Act.put, List.setIfInBounds_toArray, List.set_cons_zero, List.set_cons_succ]
      refine wpAnyH_take (i := 13) (oi := ?oiA14) (v := undef) ?hA14 (by kernel_rfl) (by kernel_rfl) (by kernel_rfl) ?hqA14 (Or.inr ⟨?hwA14, ?hyA14⟩) hHeld ?restA14
      case hA14 => simp only [List.getElem?_toArray, List.getElem?_cons_succ, List.getElem?_cons_zero]; rfl
      case hwA14 => rfl
      case hyA14 => rfl
      case hqA14 => intro _ _ _ h; exact h
      try simp only [Act.put, List.setIfInBounds_toArray, List.set_cons_zero, List.set_cons_succ]
      refine wpAnyH_take (i := 14) (oi := ?oiA15) (v := undef) ?hA15 (by kernel_rfl) (by kernel_rfl) (by kernel_rfl) ?hqA15 (Or.inr ⟨?hwA15, ?hyA15⟩) hHeld ?restA15
      case hA15 => simp only [List.getElem?_toArray, List.getElem?_cons_succ, List.getElem?_cons_zero]; rfl
      case hwA15 => rfl
      case hyA15 => rfl
      case hqA15 => intro _ _ _ h; exact h
      try simp only [Act.put, List.setIfInBounds_toArray, List.set_cons_zero, List.set_cons_succ]
      refine wpAnyH_take (i := 15) (oi := ?oiA16) (v := undef) ?hA16 (by kernel_rfl) (by kernel_rfl) (by kernel_rfl) ?hqA16 (Or.inr ⟨?hwA16, ?hyA16⟩) hHeld ?restA16
      case hA16 => simp only [List.getElem?_toArray, List.getElem?_cons_succ, List.getElem?_cons_zero]; rfl
      case hwA16 => rfl
      case hyA16 => rfl
      case hqA16 => intro _ _ _ h; exact h
      try simp only [Act.put, List.setIfInBounds_toArray, List.set_cons_zero, List.set_cons_succ]
      refine wpAnyH_take (i := 16) (oi := ?oiA17) (v := undef) ?hA17 (by kernel_rfl) (by kernel_rfl) (by kernel_rfl) ?hqA17 (Or.inr ⟨?hwA17, ?hyA17⟩) hHeld ?restA17
      case hA17 => simp only [List.getElem?_toArray, List.getElem?_cons_succ, List.getElem?_cons_zero]; rfl
      case hwA17 => rfl
      case hyA17 => rfl
      case hqA17 => intro _ _ _ h; exact h
      try simp only [Act.put, List.setIfInBounds_toArray, List.set_cons_zero, List.set_cons_succ]
      refine wpAnyH_take (i := 17) (oi := ?oiA18) (v := ?vA18) ?hA18 (by kernel_rfl) (by kernel_rfl) (by kernel_rfl) ?hqA18 (Or.inl ⟨?hwA18, ?hyA18⟩) hHeld ?restA18
      case hA18 => simp only [List.getElem?_toArray, List.getElem?_cons_succ, List.getElem?_cons_zero]; rfl
      case hwA18 => rfl
      case hyA18 => intro w hSw; (try dsimp only at hSw); first | (go_simp; done) | (go_simp; with_reducible rfl)
      case hqA18 => intro _ _ _ h; exact h
      try simp only [Act.put, List.setIfInBounds_toArray, List.set_cons_zero, List.set_cons_succ]
      refine wpAnyH_take (i := 18) (oi := ?oiA19) (v := ?vA19) ?hA19 (by kernel_rfl) (by kernel_rfl) (by kernel_rfl) ?hqA19 (Or.inl ⟨?hwA19, ?hyA19⟩) hHeld ?restA19
      case hA19 => simp only [List.getElem?_toArray, List.getElem?_cons_succ, List.getElem?_cons_zero]; rfl
      case hwA19 => rfl
      case hyA19 => intro w hSw; (try dsimp only at hSw); first | (go_simp; done) | (go_simp; with_reducible rfl)
      case hqA19 => intro _ _ _ h; exact h
      try simp only [Act.put, List.setIfInBounds_toArray, List.set_cons_zero, List.set_cons_succ]
      refine wpAnyH_ready (rs := [19]) (by kernel_rfl) (by simp) ?_
      refine AllReadyH.cons (o := ?oA20) ?hA20 (fun K hK => ?stepA20) ?moreA20
      case hA20 => simp only [List.getElem?_toArray, List.getElem?_cons_succ, List.getElem?_cons_zero]; rfl
      case stepA20 =>
        go_simp
        go_at_call 14; refine (lawake_any _).mono ?_; rintro e w' ⟨rfl, hbw⟩; have hT := below_step hHeld hbw; clear hbw
        refine hK.out _ _ hT (fun hHeld2 => ?_)
        clear hHeld hK K; have hHeld := hHeld2; clear hHeld2
        try simp only [Act.put, List.setIfInBounds_toArray, List.set_cons_zero, List.set_cons_succ]
        refine wpAnyH_take (i := 20) (oi := ?oiA21) (v := ?vA21) ?hA21 (by kernel_rfl) (by kernel_rfl) (by kernel_rfl) ?hqA21 (Or.inl ⟨?hwA21, ?hyA21⟩) hHeld ?restA21
        case hA21 => simp only [List.getElem?_toArray, List.getElem?_cons_succ, List.getElem?_cons_zero]; rfl
        case hwA21 => rfl
        case hyA21 => intro w hSw; (try dsimp only at hSw); first | (go_simp; done) | (go_simp; with_reducible rfl)
        case hqA21 => intro _ _ _ h; exact h
        try simp only [Act.put, List.setIfInBounds_toArray, List.set_cons_zero, List.set_cons_succ]
        refine wpAnyH_take (i := 21) (oi := ?oiA22) (v := ?vA22) ?hA22 (by kernel_rfl) (by kernel_rfl) (by kernel_rfl) ?hqA22 (Or.inl ⟨?hwA22, ?hyA22⟩) hHeld ?restA22
        case hA22 => simp only [List.getElem?_toArray, List.getElem?_cons_succ, List.getElem?_cons_zero]; rfl
        case hwA22 => rfl
        case hyA22 => intro w hSw; (try dsimp only at hSw); first | (go_simp; done) | (go_simp; with_reducible rfl)
        case hqA22 => intro _ _ _ h; exact h
        try simp only [Act.put, List.setIfInBounds_toArray, List.set_cons_zero, List.set_cons_succ]
        refine wpAnyH_done (by kernel_rfl) ?_ _
        go_wp2_with fail
        go_ret
        exact ⟨rfl, hT⟩
      exact AllReadyH.nil
  · rw [List.concat_eq_append] at h0
    obtain ⟨d, hrd, hvz⟩ : ∃ d, rr = some d ∧ (l.getD z dz).value = d.value := by
      rcases HLAT.out with ⟨_, h⟩ | ⟨d, cc', z', h1, h2, h3⟩
      · rw [h] at h0; simp at h0
      · rw [h0] at h2
        have := (List.append_inj' h2 rfl).2
        have hz : z = z' := by simpa using this
        exact ⟨d, h1, by rw [hz]; exact h3⟩
    have hrb1 : rb = true := by rw [HRB.out, hrd]; rfl
    have hrd1 : rd = d := by rw [HRD.out, hrd]; rfl
    subst hrb1; subst hrd1
    have hln : cs.length = cc.length + 1 := by rw [h0]; simp
    have hzl : z < l.length := HLT.out z (by rw [h0]; simp)
    have hzc : ∀ (h : cc.length < cs.length), cs[cc.length] = z := fun h => by simp [h0]
    have hvz' : l[z].value = rd.value := by rw [← hvz]; simp [List.getD, hzl]
    have HVZ := Lib.hid hvz'; have HZC := Lib.hid hzc; have HLN := Lib.hid hln
    clear HLAT HRD HRB hrd hvz hvz' h0 hzc
    have hn0 : decide ((0 : Int) < (cs.length : Int)) = true := by rw [decide_eq_true_eq]; omega
    have hn0' : decide (0 < cs.length) = true := by rw [decide_eq_true_eq]; omega
    clear hln
    go_upto_region 9 with (fail)
    have hal : Below W5.heap.size W5 (W5.alloc (.cells #[.int .i64 rd.day, .int .i64 rd.known, .int .i64 rd.kind, .int .i64 rd.subj, .int .i64 rd.value] 27)) := (Below.refl _ _).alloc (Nat.le_refl _) _
    have hb6 : Below w0.heap.size w0 (W5.alloc (.cells #[.int .i64 rd.day, .int .i64 rd.known, .int .i64 rd.kind, .int .i64 rd.subj, .int .i64 rd.value] 27)) := below_step HB5.out hal
    have hbox6 := cell_later hal hbox5
    have HR6 := Lib.hid (HR5.out.mono hal)
    have hd4 : (W5.alloc (.cells #[.int .i64 rd.day, .int .i64 rd.known, .int .i64 rd.kind, .int .i64 rd.subj, .int .i64 rd.value] 27)).cell? ⟨W5.heap.size, 4, none⟩ = some (.int .i64 rd.value) := by simp
    have hcells6 : ∀ i (hi : i < cs.length), ∃ b, av = some ⟨b, 0, none⟩ ∧ (W5.alloc (.cells #[.int .i64 rd.day, .int .i64 rd.known, .int .i64 rd.kind, .int .i64 rd.subj, .int .i64 rd.value] 27)).cell? ⟨b, i, none⟩ = some (.int .i64 (cs[i] : Nat)) := fun i hi => by
      obtain ⟨b, h1, h2⟩ := HC5.out i hi
      exact ⟨b, h1, cell_later hal h2⟩
    have HC6 := Lib.hid hcells6; have HB6 := Lib.hid hb6
    clear hcells6 hb6 hal HC5 HR5 HB5 hbox5
    generalize hW6 : (W5.alloc (.cells #[.int .i64 rd.day, .int .i64 rd.known, .int .i64 rd.kind, .int .i64 rd.subj, .int .i64 rd.value] 27)) = W6 at *
    clear hW6
    go_wp2_with fail
    go_loopw [47] (fun iv wr => ∃ i : Nat, i ≤ cs.length ∧ iv = .int .i64 i ∧ ∃ n, wr = W6.drewN n) (fun iv _ => cs.length - (intOf iv).toNat)
    case atStart => exact ⟨0, Nat.zero_le _, rfl, 0, rfl⟩
    case round =>
      obtain ⟨i, hi, rfl, nd, rfl⟩ := hrel
      by_cases hlt : i < cs.length
      · obtain ⟨b, rfl, hci⟩ := HC6.out i hlt
        obtain ⟨yv, hyv⟩ : ∃ yv, yv = cs[i] := ⟨_, rfl⟩
        rw [← hyv] at hci
        have hym : yv ∈ cs := by rw [hyv]; exact List.getElem_mem hlt
        have hyl := HLT.out yv hym
        have hk := HKD.out yv hym
        have ey : l.getD yv dz = l[yv] := by simp [List.getD, hyl]
        rw [ey] at hk
        obtain ⟨pb, po, rfl, hrow⟩ : ∃ b o, p = some ⟨b, o, none⟩ ∧ Row W6 b o l := by
          rcases HR6.out with h | ⟨b, o, hp, h⟩
          · subst h; simp at hyl
          · exact ⟨b, o, hp, h⟩
        obtain ⟨_, _, y2, y3, y4⟩ := hrow yv hyl
        have f1 : decide ((yv : Int) < 0) = false := by rw [decide_eq_false_iff_not]; omega
        have f2 : decide ((l.length : Int) ≤ yv) = false := by rw [decide_eq_false_iff_not]; omega
        have f2n : decide (l.length ≤ yv) = false := by rw [decide_eq_false_iff_not]; omega
        have f3 : (0 : Int) ≤ yv := by omega
        have f4 : (yv : Int) < l.length := by omega
        have f5 : (0 : Int) ≤ i := by omega
        have f6 : (i : Int) < cs.length := by omega
        have bk : (l[yv].kind != kk) = false := by simpa using hk.1
        have bs : (l[yv].subj != ss) = false := by simpa using hk.2
        cases i with
        | zero =>
          clear hk hym ey hyv hrow f5 f6
          have f6 : (0 : Int) < cs.length := by omega
          have e0 : ((0 : Nat) : Int) = 0 := rfl
          rw [e0]
          go_upto_region 12 with (fail)
          refine wp_region_held_drew (S := fun W => W.cell? ⟨A, 0, none⟩ = some (.slice (some ⟨pb, po, none⟩) l.length q) ∧ W.cell? ⟨pb, po + yv * 5 + 2, none⟩ = some (.int .i64 l[yv].kind) ∧ W.cell? ⟨pb, po + yv * 5 + 3, none⟩ = some (.int .i64 l[yv].subj)) (by kernel_rfl) ⟨hbox6, y2, y3⟩ (fun hHeld => ?_)
          refine wpAnyH_take (i := 0) (oi := ?oi1) (v := ?v1) ?h1 (by kernel_rfl) (by kernel_rfl) (by kernel_rfl) ?hq1 (Or.inl ⟨?hw1, ?hy1⟩) hHeld ?rest1
          case h1 => simp only [List.getElem?_toArray, List.getElem?_cons_succ, List.getElem?_cons_zero]; rfl
          case hw1 => rfl
          case hy1 => intro w hSw; (try dsimp only at hSw); first | (go_simp; done) | (go_simp; with_reducible rfl)
          case hq1 => intro _ _ _ h; exact h
          try simp only [Act.put, List.setIfInBounds_toArray, List.set_cons_zero, List.set_cons_succ]
          refine wpAnyH_take (i := 1) (oi := ?oi2) (v := ?v2) ?h2 (by kernel_rfl) (by kernel_rfl) (by kernel_rfl) ?hq2 (Or.inl ⟨?hw2, ?hy2⟩) hHeld ?rest2
          case h2 => simp only [List.getElem?_toArray, List.getElem?_cons_succ, List.getElem?_cons_zero]; rfl
          case hw2 => rfl
          case hy2 => intro w hSw; (try dsimp only at hSw); first | (go_simp; done) | (go_simp; with_reducible rfl)
          case hq2 => intro _ _ _ h; exact h
          try simp only [Act.put, List.setIfInBounds_toArray, List.set_cons_zero, List.set_cons_succ]
          refine wpAnyH_take (i := 2) (oi := ?oi3) (v := ?v3) ?h3 (by kernel_rfl) (by kernel_rfl) (by kernel_rfl) ?hq3 (Or.inl ⟨?hw3, ?hy3⟩) hHeld ?rest3
          case h3 => simp only [List.getElem?_toArray, List.getElem?_cons_succ, List.getElem?_cons_zero]; rfl
          case hw3 => rfl
          case hy3 => intro w hSw; (try dsimp only at hSw); first | (go_simp; done) | (go_simp; with_reducible rfl)
          case hq3 => intro _ _ _ h; exact h
          try simp only [Act.put, List.setIfInBounds_toArray, List.set_cons_zero, List.set_cons_succ]
          refine wpAnyH_take (i := 3) (oi := ?oi4) (v := ?v4) ?h4 (by kernel_rfl) (by kernel_rfl) (by kernel_rfl) ?hq4 (Or.inl ⟨?hw4, ?hy4⟩) hHeld ?rest4
          case h4 => simp only [List.getElem?_toArray, List.getElem?_cons_succ, List.getElem?_cons_zero]; rfl
          case hw4 => rfl
          case hy4 => intro w hSw; (try dsimp only at hSw); first | (go_simp; done) | (go_simp; with_reducible rfl)
          case hq4 => intro _ _ _ h; exact h
          try simp only [Act.put, List.setIfInBounds_toArray, List.set_cons_zero, List.set_cons_succ]
          refine wpAnyH_take (i := 4) (oi := ?oi5) (v := ?v5) ?h5 (by kernel_rfl) (by kernel_rfl) (by kernel_rfl) ?hq5 (Or.inl ⟨?hw5, ?hy5⟩) hHeld ?rest5
          case h5 => simp only [List.getElem?_toArray, List.getElem?_cons_succ, List.getElem?_cons_zero]; rfl
          case hw5 => rfl
          case hy5 => intro w hSw; (try dsimp only at hSw); first | (go_simp; done) | (go_simp; with_reducible rfl)
          case hq5 => intro _ _ _ h; exact h
          try simp only [Act.put, List.setIfInBounds_toArray, List.set_cons_zero, List.set_cons_succ]
          refine wpAnyH_take (i := 5) (oi := ?oi6) (v := ?v6) ?h6 (by kernel_rfl) (by kernel_rfl) (by kernel_rfl) ?hq6 (Or.inl ⟨?hw6, ?hy6⟩) hHeld ?rest6
          case h6 => simp only [List.getElem?_toArray, List.getElem?_cons_succ, List.getElem?_cons_zero]; rfl
          case hw6 => rfl
          case hy6 => intro w hSw; (try dsimp only at hSw); first | (go_simp; done) | (go_simp; with_reducible rfl)
          case hq6 => intro _ _ _ h; exact h
          try simp only [Act.put, List.setIfInBounds_toArray, List.set_cons_zero, List.set_cons_succ]
          refine wpAnyH_take (i := 6) (oi := ?oi7) (v := ?v7) ?h7 (by kernel_rfl) (by kernel_rfl) (by kernel_rfl) ?hq7 (Or.inl ⟨?hw7, ?hy7⟩) hHeld ?rest7
          case h7 => simp only [List.getElem?_toArray, List.getElem?_cons_succ, List.getElem?_cons_zero]; rfl
          case hw7 => rfl
          case hy7 => intro w hSw; (try dsimp only at hSw); first | (go_simp; done) | (go_simp; with_reducible rfl)
          case hq7 => intro _ _ _ h; exact h
          try simp only [Act.put, List.setIfInBounds_toArray, List.set_cons_zero, List.set_cons_succ]
          refine wpAnyH_take (i := 7) (oi := ?oi8) (v := ?v8) ?h8 (by kernel_rfl) (by kernel_rfl) (by kernel_rfl) ?hq8 (Or.inl ⟨?hw8, ?hy8⟩) hHeld ?rest8
          case h8 => simp only [List.getElem?_toArray, List.getElem?_cons_succ, List.getElem?_cons_zero]; rfl
          case hw8 => rfl
          case hy8 => intro w hSw; (try dsimp only at hSw); first | (go_simp; done) | (go_simp; with_reducible rfl)
          case hq8 => intro _ _ _ h; exact h
          try simp only [Act.put, List.setIfInBounds_toArray, List.set_cons_zero, List.set_cons_succ]
          refine wpAnyH_take (i := 8) (oi := ?oi9) (v := ?v9) ?h9 (by kernel_rfl) (by kernel_rfl) (by kernel_rfl) ?hq9 (Or.inl ⟨?hw9, ?hy9⟩) hHeld ?rest9
          case h9 => simp only [List.getElem?_toArray, List.getElem?_cons_succ, List.getElem?_cons_zero]; rfl
          case hw9 => rfl
          case hy9 => intro w hSw; (try dsimp only at hSw); first | (go_simp; done) | (go_simp; with_reducible rfl)
          case hq9 => intro _ _ _ h; exact h
          try simp only [Act.put, List.setIfInBounds_toArray, List.set_cons_zero, List.set_cons_succ]
          refine wpAnyH_take (i := 9) (oi := ?oi10) (v := ?v10) ?h10 (by kernel_rfl) (by kernel_rfl) (by kernel_rfl) ?hq10 (Or.inl ⟨?hw10, ?hy10⟩) hHeld ?rest10
          case h10 => simp only [List.getElem?_toArray, List.getElem?_cons_succ, List.getElem?_cons_zero]; rfl
          case hw10 => rfl
          case hy10 => intro w hSw; (try dsimp only at hSw); first | (go_simp; done) | (go_simp; with_reducible rfl)
          case hq10 => intro _ _ _ h; exact h
          try simp only [Act.put, List.setIfInBounds_toArray, List.set_cons_zero, List.set_cons_succ]
          refine wpAnyH_take (i := 10) (oi := ?oi11) (v := ?v11) ?h11 (by kernel_rfl) (by kernel_rfl) (by kernel_rfl) ?hq11 (Or.inl ⟨?hw11, ?hy11⟩) hHeld ?rest11
          case h11 => simp only [List.getElem?_toArray, List.getElem?_cons_succ, List.getElem?_cons_zero]; rfl
          case hw11 => rfl
          case hy11 => intro w hSw; (try dsimp only at hSw); first | (go_simp; done) | (go_simp; with_reducible rfl)
          case hq11 => intro _ _ _ h; exact h
          try simp only [Act.put, List.setIfInBounds_toArray, List.set_cons_zero, List.set_cons_succ]
          refine wpAnyH_take (i := 11) (oi := ?oi12) (v := ?v12) ?h12 (by kernel_rfl) (by kernel_rfl) (by kernel_rfl) ?hq12 (Or.inl ⟨?hw12, ?hy12⟩) hHeld ?rest12
          case h12 => simp only [List.getElem?_toArray, List.getElem?_cons_succ, List.getElem?_cons_zero]; rfl
          case hw12 => rfl
          case hy12 => intro w hSw; (try dsimp only at hSw); first | (go_simp; done) | (go_simp; with_reducible rfl)
          case hq12 => intro _ _ _ h; exact h
          try simp only [Act.put, List.setIfInBounds_toArray, List.set_cons_zero, List.set_cons_succ]
          refine wpAnyH_take (i := 12) (oi := ?oi13) (v := ?v13) ?h13 (by kernel_rfl) (by kernel_rfl) (by kernel_rfl) ?hq13 (Or.inl ⟨?hw13, ?hy13⟩) hHeld ?rest13
          case h13 => simp only [List.getElem?_toArray, List.getElem?_cons_succ, List.getElem?_cons_zero]; rfl
          case hw13 => rfl
          case hy13 => intro w hSw; (try dsimp only at hSw); first | (go_simp; done) | (go_simp; with_reducible rfl)
          case hq13 => intro _ _ _ h; exact h
          try simp only [Act.put, List.setIfInBounds_toArray, List.set_cons_zero, List.set_cons_succ]
          refine wpAnyH_take (i := 13) (oi := ?oi14) (v := undef) ?h14 (by kernel_rfl) (by kernel_rfl) (by kernel_rfl) ?hq14 (Or.inr ⟨?hw14, ?hy14⟩) hHeld ?rest14
          case h14 => simp only [List.getElem?_toArray, List.getElem?_cons_succ, List.getElem?_cons_zero]; rfl
          case hw14 => rfl
          case hy14 => rfl
          case hq14 => intro _ _ _ h; exact h
          try simp only [Act.put, List.setIfInBounds_toArray, List.set_cons_zero, List.set_cons_succ]
          refine wpAnyH_take (i := 14) (oi := ?oi15) (v := undef) ?h15 (by kernel_rfl) (by kernel_rfl) (by kernel_rfl) ?hq15 (Or.inr ⟨?hw15, ?hy15⟩) hHeld ?rest15
          case h15 => simp only [List.getElem?_toArray, List.getElem?_cons_succ, List.getElem?_cons_zero]; rfl
          case hw15 => rfl
          case hy15 => rfl
          case hq15 => intro _ _ _ h; exact h
          try simp only [Act.put, List.setIfInBounds_toArray, List.set_cons_zero, List.set_cons_succ]
          refine wpAnyH_take (i := 15) (oi := ?oi16) (v := undef) ?h16 (by kernel_rfl) (by kernel_rfl) (by kernel_rfl) ?hq16 (Or.inr ⟨?hw16, ?hy16⟩) hHeld ?rest16
          case h16 => simp only [List.getElem?_toArray, List.getElem?_cons_succ, List.getElem?_cons_zero]; rfl
          case hw16 => rfl
          case hy16 => rfl
          case hq16 => intro _ _ _ h; exact h
          try simp only [Act.put, List.setIfInBounds_toArray, List.set_cons_zero, List.set_cons_succ]
          refine wpAnyH_take (i := 16) (oi := ?oi17) (v := undef) ?h17 (by kernel_rfl) (by kernel_rfl) (by kernel_rfl) ?hq17 (Or.inr ⟨?hw17, ?hy17⟩) hHeld ?rest17
          case h17 => simp only [List.getElem?_toArray, List.getElem?_cons_succ, List.getElem?_cons_zero]; rfl
          case hw17 => rfl
          case hy17 => rfl
          case hq17 => intro _ _ _ h; exact h
          try simp only [Act.put, List.setIfInBounds_toArray, List.set_cons_zero, List.set_cons_succ]
          refine wpAnyH_take (i := 17) (oi := ?oi18) (v := undef) ?h18 (by kernel_rfl) (by kernel_rfl) (by kernel_rfl) ?hq18 (Or.inr ⟨?hw18, ?hy18⟩) hHeld ?rest18
          case h18 => simp only [List.getElem?_toArray, List.getElem?_cons_succ, List.getElem?_cons_zero]; rfl
          case hw18 => rfl
          case hy18 => rfl
          case hq18 => intro _ _ _ h; exact h
          try simp only [Act.put, List.setIfInBounds_toArray, List.set_cons_zero, List.set_cons_succ]
          refine wpAnyH_take (i := 18) (oi := ?oi19) (v := undef) ?h19 (by kernel_rfl) (by kernel_rfl) (by kernel_rfl) ?hq19 (Or.inr ⟨?hw19, ?hy19⟩) hHeld ?rest19
          case h19 => simp only [List.getElem?_toArray, List.getElem?_cons_succ, List.getElem?_cons_zero]; rfl
          case hw19 => rfl
          case hy19 => rfl
          case hq19 => intro _ _ _ h; exact h
          try simp only [Act.put, List.setIfInBounds_toArray, List.set_cons_zero, List.set_cons_succ]
          refine wpAnyH_take (i := 19) (oi := ?oi20) (v := undef) ?h20 (by kernel_rfl) (by kernel_rfl) (by kernel_rfl) ?hq20 (Or.inr ⟨?hw20, ?hy20⟩) hHeld ?rest20
          case h20 => simp only [List.getElem?_toArray, List.getElem?_cons_succ, List.getElem?_cons_zero]; rfl
          case hw20 => rfl
          case hy20 => rfl
          case hq20 => intro _ _ _ h; exact h
          try simp only [Act.put, List.setIfInBounds_toArray, List.set_cons_zero, List.set_cons_succ]
          refine wpAnyH_take (i := 20) (oi := ?oi21) (v := undef) ?h21 (by kernel_rfl) (by kernel_rfl) (by kernel_rfl) ?hq21 (Or.inr ⟨?hw21, ?hy21⟩) hHeld ?rest21
          case h21 => simp only [List.getElem?_toArray, List.getElem?_cons_succ, List.getElem?_cons_zero]; rfl
          case hw21 => rfl
          case hy21 => rfl
          case hq21 => intro _ _ _ h; exact h
          try simp only [Act.put, List.setIfInBounds_toArray, List.set_cons_zero, List.set_cons_succ]
          refine wpAnyH_take (i := 21) (oi := ?oi22) (v := undef) ?h22 (by kernel_rfl) (by kernel_rfl) (by kernel_rfl) ?hq22 (Or.inr ⟨?hw22, ?hy22⟩) hHeld ?rest22
          case h22 => simp only [List.getElem?_toArray, List.getElem?_cons_succ, List.getElem?_cons_zero]; rfl
          case hw22 => rfl
          case hy22 => rfl
          case hq22 => intro _ _ _ h; exact h
          try simp only [Act.put, List.setIfInBounds_toArray, List.set_cons_zero, List.set_cons_succ]
          refine wpAnyH_take (i := 22) (oi := ?oi23) (v := undef) ?h23 (by kernel_rfl) (by kernel_rfl) (by kernel_rfl) ?hq23 (Or.inr ⟨?hw23, ?hy23⟩) hHeld ?rest23
          case h23 => simp only [List.getElem?_toArray, List.getElem?_cons_succ, List.getElem?_cons_zero]; rfl
          case hw23 => rfl
          case hy23 => rfl
          case hq23 => intro _ _ _ h; exact h
          try simp only [Act.put, List.setIfInBounds_toArray, List.set_cons_zero, List.set_cons_succ]
          refine wpAnyH_take (i := 23) (oi := ?oi24) (v := undef) ?h24 (by kernel_rfl) (by kernel_rfl) (by kernel_rfl) ?hq24 (Or.inr ⟨?hw24, ?hy24⟩) hHeld ?rest24
          case h24 => simp only [List.getElem?_toArray, List.getElem?_cons_succ, List.getElem?_cons_zero]; rfl
          case hw24 => rfl
          case hy24 => rfl
          case hq24 => intro _ _ _ h; exact h
          try simp only [Act.put, List.setIfInBounds_toArray, List.set_cons_zero, List.set_cons_succ]
          refine wpAnyH_take (i := 24) (oi := ?oi25) (v := undef) ?h25 (by kernel_rfl) (by kernel_rfl) (by kernel_rfl) ?hq25 (Or.inr ⟨?hw25, ?hy25⟩) hHeld ?rest25
          case h25 => simp only [List.getElem?_toArray, List.getElem?_cons_succ, List.getElem?_cons_zero]; rfl
          case hw25 => rfl
          case hy25 => rfl
          case hq25 => intro _ _ _ h; exact h
          try simp only [Act.put, List.setIfInBounds_toArray, List.set_cons_zero, List.set_cons_succ]
          refine wpAnyH_take (i := 25) (oi := ?oi26) (v := undef) ?h26 (by kernel_rfl) (by kernel_rfl) (by kernel_rfl) ?hq26 (Or.inr ⟨?hw26, ?hy26⟩) hHeld ?rest26
          case h26 => simp only [List.getElem?_toArray, List.getElem?_cons_succ, List.getElem?_cons_zero]; rfl
          case hw26 => rfl
          case hy26 => rfl
          case hq26 => intro _ _ _ h; exact h
          try simp only [Act.put, List.setIfInBounds_toArray, List.set_cons_zero, List.set_cons_succ]
          refine wpAnyH_take (i := 26) (oi := ?oi27) (v := undef) ?h27 (by kernel_rfl) (by kernel_rfl) (by kernel_rfl) ?hq27 (Or.inr ⟨?hw27, ?hy27⟩) hHeld ?rest27
          case h27 => simp only [List.getElem?_toArray, List.getElem?_cons_succ, List.getElem?_cons_zero]; rfl
          case hw27 => rfl
          case hy27 => rfl
          case hq27 => intro _ _ _ h; exact h
          try simp only [Act.put, List.setIfInBounds_toArray, List.set_cons_zero, List.set_cons_succ]
          refine wpAnyH_take (i := 27) (oi := ?oi28) (v := undef) ?h28 (by kernel_rfl) (by kernel_rfl) (by kernel_rfl) ?hq28 (Or.inr ⟨?hw28, ?hy28⟩) hHeld ?rest28
          case h28 => simp only [List.getElem?_toArray, List.getElem?_cons_succ, List.getElem?_cons_zero]; rfl
          case hw28 => rfl
          case hy28 => rfl
          case hq28 => intro _ _ _ h; exact h
          try simp only [Act.put, List.setIfInBounds_toArray, List.set_cons_zero, List.set_cons_succ]
          refine wpAnyH_take (i := 28) (oi := ?oi29) (v := undef) ?h29 (by kernel_rfl) (by kernel_rfl) (by kernel_rfl) ?hq29 (Or.inr ⟨?hw29, ?hy29⟩) hHeld ?rest29
          case h29 => simp only [List.getElem?_toArray, List.getElem?_cons_succ, List.getElem?_cons_zero]; rfl
          case hw29 => rfl
          case hy29 => rfl
          case hq29 => intro _ _ _ h; exact h
          try simp only [Act.put, List.setIfInBounds_toArray, List.set_cons_zero, List.set_cons_succ]
          refine wpAnyH_take (i := 29) (oi := ?oi30) (v := undef) ?h30 (by kernel_rfl) (by kernel_rfl) (by kernel_rfl) ?hq30 (Or.inr ⟨?hw30, ?hy30⟩) hHeld ?rest30
          case h30 => simp only [List.getElem?_toArray, List.getElem?_cons_succ, List.getElem?_cons_zero]; rfl
          case hw30 => rfl
          case hy30 => rfl
          case hq30 => intro _ _ _ h; exact h
          try simp only [Act.put, List.setIfInBounds_toArray, List.set_cons_zero, List.set_cons_succ]
          refine wpAnyH_take (i := 30) (oi := ?oi31) (v := undef) ?h31 (by kernel_rfl) (by kernel_rfl) (by kernel_rfl) ?hq31 (Or.inr ⟨?hw31, ?hy31⟩) hHeld ?rest31
          case h31 => simp only [List.getElem?_toArray, List.getElem?_cons_succ, List.getElem?_cons_zero]; rfl
          case hw31 => rfl
          case hy31 => rfl
          case hq31 => intro _ _ _ h; exact h
          try simp only [Act.put, List.setIfInBounds_toArray, List.set_cons_zero, List.set_cons_succ]
          refine wpAnyH_take (i := 31) (oi := ?oi32) (v := undef) ?h32 (by kernel_rfl) (by kernel_rfl) (by kernel_rfl) ?hq32 (Or.inr ⟨?hw32, ?hy32⟩) hHeld ?rest32
          case h32 => simp only [List.getElem?_toArray, List.getElem?_cons_succ, List.getElem?_cons_zero]; rfl
          case hw32 => rfl
          case hy32 => rfl
          case hq32 => intro _ _ _ h; exact h
          try simp only [Act.put, List.setIfInBounds_toArray, List.set_cons_zero, List.set_cons_succ]
          refine wpAnyH_take (i := 32) (oi := ?oi33) (v := undef) ?h33 (by kernel_rfl) (by kernel_rfl) (by kernel_rfl) ?hq33 (Or.inr ⟨?hw33, ?hy33⟩) hHeld ?rest33
          case h33 => simp only [List.getElem?_toArray, List.getElem?_cons_succ, List.getElem?_cons_zero]; rfl
          case hw33 => rfl
          case hy33 => rfl
          case hq33 => intro _ _ _ h; exact h
          try simp only [Act.put, List.setIfInBounds_toArray, List.set_cons_zero, List.set_cons_succ]
          refine wpAnyH_take (i := 33) (oi := ?oi34) (v := undef) ?h34 (by kernel_rfl) (by kernel_rfl) (by kernel_rfl) ?hq34 (Or.inr ⟨?hw34, ?hy34⟩) hHeld ?rest34
          case h34 => simp only [List.getElem?_toArray, List.getElem?_cons_succ, List.getElem?_cons_zero]; rfl
          case hw34 => rfl
          case hy34 => rfl
          case hq34 => intro _ _ _ h; exact h
          try simp only [Act.put, List.setIfInBounds_toArray, List.set_cons_zero, List.set_cons_succ]
          refine wpAnyH_take (i := 34) (oi := ?oi35) (v := undef) ?h35 (by kernel_rfl) (by kernel_rfl) (by kernel_rfl) ?hq35 (Or.inr ⟨?hw35, ?hy35⟩) hHeld ?rest35
          case h35 => simp only [List.getElem?_toArray, List.getElem?_cons_succ, List.getElem?_cons_zero]; rfl
          case hw35 => rfl
          case hy35 => rfl
          case hq35 => intro _ _ _ h; exact h
          try simp only [Act.put, List.setIfInBounds_toArray, List.set_cons_zero, List.set_cons_succ]
          refine wpAnyH_take (i := 35) (oi := ?oi36) (v := undef) ?h36 (by kernel_rfl) (by kernel_rfl) (by kernel_rfl) ?hq36 (Or.inr ⟨?hw36, ?hy36⟩) hHeld ?rest36
          case h36 => simp only [List.getElem?_toArray, List.getElem?_cons_succ, List.getElem?_cons_zero]; rfl
          case hw36 => rfl
          case hy36 => rfl
          case hq36 => intro _ _ _ h; exact h
          try simp only [Act.put, List.setIfInBounds_toArray, List.set_cons_zero, List.set_cons_succ]
          refine wpAnyH_take (i := 36) (oi := ?oi37) (v := undef) ?h37 (by kernel_rfl) (by kernel_rfl) (by kernel_rfl) ?hq37 (Or.inr ⟨?hw37, ?hy37⟩) hHeld ?rest37
          case h37 => simp only [List.getElem?_toArray, List.getElem?_cons_succ, List.getElem?_cons_zero]; rfl
          case hw37 => rfl
          case hy37 => rfl
          case hq37 => intro _ _ _ h; exact h
          try simp only [Act.put, List.setIfInBounds_toArray, List.set_cons_zero, List.set_cons_succ]
          refine wpAnyH_take (i := 37) (oi := ?oi38) (v := undef) ?h38 (by kernel_rfl) (by kernel_rfl) (by kernel_rfl) ?hq38 (Or.inr ⟨?hw38, ?hy38⟩) hHeld ?rest38
          case h38 => simp only [List.getElem?_toArray, List.getElem?_cons_succ, List.getElem?_cons_zero]; rfl
          case hw38 => rfl
          case hy38 => rfl
          case hq38 => intro _ _ _ h; exact h
          try simp only [Act.put, List.setIfInBounds_toArray, List.set_cons_zero, List.set_cons_succ]
          refine wpAnyH_take (i := 38) (oi := ?oi39) (v := undef) ?h39 (by kernel_rfl) (by kernel_rfl) (by kernel_rfl) ?hq39 (Or.inr ⟨?hw39, ?hy39⟩) hHeld ?rest39
          case h39 => simp only [List.getElem?_toArray, List.getElem?_cons_succ, List.getElem?_cons_zero]; rfl
          case hw39 => rfl
          case hy39 => rfl
          case hq39 => intro _ _ _ h; exact h
          try simp only [Act.put, List.setIfInBounds_toArray, List.set_cons_zero, List.set_cons_succ]
          refine wpAnyH_take (i := 39) (oi := ?oi40) (v := ?v40) ?h40 (by kernel_rfl) (by kernel_rfl) (by kernel_rfl) ?hq40 (Or.inl ⟨?hw40, ?hy40⟩) hHeld ?rest40
          case h40 => simp only [List.getElem?_toArray, List.getElem?_cons_succ, List.getElem?_cons_zero]; rfl
          case hw40 => rfl
          case hy40 => intro w hSw; (try dsimp only at hSw); first | (go_simp; done) | (go_simp; with_reducible rfl)
          case hq40 => intro _ _ _ h; exact h
          try simp only [Act.put, List.setIfInBounds_toArray, List.set_cons_zero, List.set_cons_succ]
          refine wpAnyH_take (i := 40) (oi := ?oi41) (v := ?v41) ?h41 (by kernel_rfl) (by kernel_rfl) (by kernel_rfl) ?hq41 (Or.inl ⟨?hw41, ?hy41⟩) hHeld ?rest41
          case h41 => simp only [List.getElem?_toArray, List.getElem?_cons_succ, List.getElem?_cons_zero]; rfl
          case hw41 => rfl
          case hy41 => intro w hSw; (try dsimp only at hSw); first | (go_simp; done) | (go_simp; with_reducible rfl)
          case hq41 => intro _ _ _ h; exact h
          try simp only [Act.put, List.setIfInBounds_toArray, List.set_cons_zero, List.set_cons_succ]
          refine wpAnyH_take (i := 41) (oi := ?oi42) (v := ?v42) ?h42 (by kernel_rfl) (by kernel_rfl) (by kernel_rfl) ?hq42 (Or.inl ⟨?hw42, ?hy42⟩) hHeld ?rest42
          case h42 => simp only [List.getElem?_toArray, List.getElem?_cons_succ, List.getElem?_cons_zero]; rfl
          case hw42 => rfl
          case hy42 => intro w hSw; (try dsimp only at hSw); first | (go_simp; done) | (go_simp; with_reducible rfl)
          case hq42 => intro _ _ _ h; exact h
          try simp only [Act.put, List.setIfInBounds_toArray, List.set_cons_zero, List.set_cons_succ]
          refine wpAnyH_take (i := 42) (oi := ?oi43) (v := ?v43) ?h43 (by kernel_rfl) (by kernel_rfl) (by kernel_rfl) ?hq43 (Or.inl ⟨?hw43, ?hy43⟩) hHeld ?rest43
          case h43 => simp only [List.getElem?_toArray, List.getElem?_cons_succ, List.getElem?_cons_zero]; rfl
          case hw43 => rfl
          case hy43 => intro w hSw; (try dsimp only at hSw); first | (go_simp; done) | (go_simp; with_reducible rfl)
          case hq43 => intro _ _ _ h; exact h
          try simp only [Act.put, List.setIfInBounds_toArray, List.set_cons_zero, List.set_cons_succ]
          refine wpAnyH_take (i := 43) (oi := ?oi44) (v := ?v44) ?h44 (by kernel_rfl) (by kernel_rfl) (by kernel_rfl) ?hq44 (Or.inl ⟨?hw44, ?hy44⟩) hHeld ?rest44
          case h44 => simp only [List.getElem?_toArray, List.getElem?_cons_succ, List.getElem?_cons_zero]; rfl
          case hw44 => rfl
          case hy44 => intro w hSw; (try dsimp only at hSw); first | (go_simp; done) | (go_simp; with_reducible rfl)
          case hq44 => intro _ _ _ h; exact h
          try simp only [Act.put, List.setIfInBounds_toArray, List.set_cons_zero, List.set_cons_succ]
          refine wpAnyH_take (i := 44) (oi := ?oi45) (v := ?v45) ?h45 (by kernel_rfl) (by kernel_rfl) (by kernel_rfl) ?hq45 (Or.inl ⟨?hw45, ?hy45⟩) hHeld ?rest45
          case h45 => simp only [List.getElem?_toArray, List.getElem?_cons_succ, List.getElem?_cons_zero]; rfl
          case hw45 => rfl
          case hy45 => intro w hSw; (try dsimp only at hSw); first | (go_simp; done) | (go_simp; with_reducible rfl)
          case hq45 => intro _ _ _ h; exact h
          try simp only [Act.put, List.setIfInBounds_toArray, List.set_cons_zero, List.set_cons_succ]
          refine wpAnyH_take (i := 45) (oi := ?oi46) (v := ?v46) ?h46 (by kernel_rfl) (by kernel_rfl) (by kernel_rfl) ?hq46 (Or.inl ⟨?hw46, ?hy46⟩) hHeld ?rest46
          case h46 => simp only [List.getElem?_toArray, List.getElem?_cons_succ, List.getElem?_cons_zero]; rfl
          case hw46 => rfl
          case hy46 => intro w hSw; (try dsimp only at hSw); first | (go_simp; done) | (go_simp; with_reducible rfl)
          case hq46 => intro _ _ _ h; exact h
          try simp only [Act.put, List.setIfInBounds_toArray, List.set_cons_zero, List.set_cons_succ]
          refine wpAnyH_take (i := 46) (oi := ?oi47) (v := ?v47) ?h47 (by kernel_rfl) (by kernel_rfl) (by kernel_rfl) ?hq47 (Or.inl ⟨?hw47, ?hy47⟩) hHeld ?rest47
          case h47 => simp only [List.getElem?_toArray, List.getElem?_cons_succ, List.getElem?_cons_zero]; rfl
          case hw47 => rfl
          case hy47 => intro w hSw; (try dsimp only at hSw); first | (go_simp; done) | (go_simp; with_reducible rfl)
          case hq47 => intro _ _ _ h; exact h
          try simp only [Act.put, List.setIfInBounds_toArray, List.set_cons_zero, List.set_cons_succ]
          refine wpAnyH_take (i := 47) (oi := ?oi48) (v := ?v48) ?h48 (by kernel_rfl) (by kernel_rfl) (by kernel_rfl) ?hq48 (Or.inl ⟨?hw48, ?hy48⟩) hHeld ?rest48
          case h48 => simp only [List.getElem?_toArray, List.getElem?_cons_succ, List.getElem?_cons_zero]; rfl
          case hw48 => rfl
          case hy48 => intro w hSw; (try dsimp only at hSw); first | (go_simp; done) | (go_simp; with_reducible rfl)
          case hq48 => intro _ _ _ h; exact h
          try simp only [Act.put, List.setIfInBounds_toArray, List.set_cons_zero, List.set_cons_succ]
          refine wpAnyH_take (i := 48) (oi := ?oi49) (v := ?v49) ?h49 (by kernel_rfl) (by kernel_rfl) (by kernel_rfl) ?hq49 (Or.inl ⟨?hw49, ?hy49⟩) hHeld ?rest49
          case h49 => simp only [List.getElem?_toArray, List.getElem?_cons_succ, List.getElem?_cons_zero]; rfl
          case hw49 => rfl
          case hy49 => intro w hSw; (try dsimp only at hSw); first | (go_simp; done) | (go_simp; with_reducible rfl)
          case hq49 => intro _ _ _ h; exact h
          try simp only [Act.put, List.setIfInBounds_toArray, List.set_cons_zero, List.set_cons_succ]
          refine wpAnyH_take (i := 49) (oi := ?oi50) (v := ?v50) ?h50 (by kernel_rfl) (by kernel_rfl) (by kernel_rfl) ?hq50 (Or.inl ⟨?hw50, ?hy50⟩) hHeld ?rest50
          case h50 => simp only [List.getElem?_toArray, List.getElem?_cons_succ, List.getElem?_cons_zero]; rfl
          case hw50 => rfl
          case hy50 => intro w hSw; (try dsimp only at hSw); first | (go_simp; done) | (go_simp; with_reducible rfl)
          case hq50 => intro _ _ _ h; exact h
          try simp only [Act.put, List.setIfInBounds_toArray, List.set_cons_zero, List.set_cons_succ]
          refine wpAnyH_take (i := 50) (oi := ?oi51) (v := ?v51) ?h51 (by kernel_rfl) (by kernel_rfl) (by kernel_rfl) ?hq51 (Or.inl ⟨?hw51, ?hy51⟩) hHeld ?rest51
          case h51 => simp only [List.getElem?_toArray, List.getElem?_cons_succ, List.getElem?_cons_zero]; rfl
          case hw51 => rfl
          case hy51 => intro w hSw; (try dsimp only at hSw); first | (go_simp; done) | (go_simp; with_reducible rfl)
          case hq51 => intro _ _ _ h; exact h
          try simp only [Act.put, List.setIfInBounds_toArray, List.set_cons_zero, List.set_cons_succ]
          refine wpAnyH_take (i := 51) (oi := ?oi52) (v := ?v52) ?h52 (by kernel_rfl) (by kernel_rfl) (by kernel_rfl) ?hq52 (Or.inl ⟨?hw52, ?hy52⟩) hHeld ?rest52
          case h52 => simp only [List.getElem?_toArray, List.getElem?_cons_succ, List.getElem?_cons_zero]; rfl
          case hw52 => rfl
          case hy52 => intro w hSw; (try dsimp only at hSw); first | (go_simp; done) | (go_simp; with_reducible rfl)
          case hq52 => intro _ _ _ h; exact h
          try simp only [Act.put, List.setIfInBounds_toArray, List.set_cons_zero, List.set_cons_succ]
          refine wpAnyH_take (i := 52) (oi := ?oi53) (v := ?v53) ?h53 (by kernel_rfl) (by kernel_rfl) (by kernel_rfl) ?hq53 (Or.inl ⟨?hw53, ?hy53⟩) hHeld ?rest53
          case h53 => simp only [List.getElem?_toArray, List.getElem?_cons_succ, List.getElem?_cons_zero]; rfl
          case hw53 => rfl
          case hy53 => intro w hSw; (try dsimp only at hSw); first | (go_simp; done) | (go_simp; with_reducible rfl)
          case hq53 => intro _ _ _ h; exact h
          try simp only [Act.put, List.setIfInBounds_toArray, List.set_cons_zero, List.set_cons_succ]
          refine wpAnyH_take (i := 53) (oi := ?oi54) (v := ?v54) ?h54 (by kernel_rfl) (by kernel_rfl) (by kernel_rfl) ?hq54 (Or.inl ⟨?hw54, ?hy54⟩) hHeld ?rest54
          case h54 => simp only [List.getElem?_toArray, List.getElem?_cons_succ, List.getElem?_cons_zero]; rfl
          case hw54 => rfl
          case hy54 => intro w hSw; (try dsimp only at hSw); first | (go_simp; done) | (go_simp; with_reducible rfl)
          case hq54 => intro _ _ _ h; exact h
          try simp only [Act.put, List.setIfInBounds_toArray, List.set_cons_zero, List.set_cons_succ]
          refine wpAnyH_take (i := 54) (oi := ?oi55) (v := ?v55) ?h55 (by kernel_rfl) (by kernel_rfl) (by kernel_rfl) ?hq55 (Or.inl ⟨?hw55, ?hy55⟩) hHeld ?rest55
          case h55 => simp only [List.getElem?_toArray, List.getElem?_cons_succ, List.getElem?_cons_zero]; rfl
          case hw55 => rfl
          case hy55 => intro w hSw; (try dsimp only at hSw); first | (go_simp; done) | (go_simp; with_reducible rfl)
          case hq55 => intro _ _ _ h; exact h
          try simp only [Act.put, List.setIfInBounds_toArray, List.set_cons_zero, List.set_cons_succ]
          refine wpAnyH_take (i := 55) (oi := ?oi56) (v := ?v56) ?h56 (by kernel_rfl) (by kernel_rfl) (by kernel_rfl) ?hq56 (Or.inl ⟨?hw56, ?hy56⟩) hHeld ?rest56
          case h56 => simp only [List.getElem?_toArray, List.getElem?_cons_succ, List.getElem?_cons_zero]; rfl
          case hw56 => rfl
          case hy56 => intro w hSw; (try dsimp only at hSw); first | (go_simp; done) | (go_simp; with_reducible rfl)
          case hq56 => intro _ _ _ h; exact h
          try simp only [Act.put, List.setIfInBounds_toArray, List.set_cons_zero, List.set_cons_succ]
          refine wpAnyH_take (i := 56) (oi := ?oi57) (v := ?v57) ?h57 (by kernel_rfl) (by kernel_rfl) (by kernel_rfl) ?hq57 (Or.inl ⟨?hw57, ?hy57⟩) hHeld ?rest57
          case h57 => simp only [List.getElem?_toArray, List.getElem?_cons_succ, List.getElem?_cons_zero]; rfl
          case hw57 => rfl
          case hy57 => intro w hSw; (try dsimp only at hSw); first | (go_simp; done) | (go_simp; with_reducible rfl)
          case hq57 => intro _ _ _ h; exact h
          try simp only [Act.put, List.setIfInBounds_toArray, List.set_cons_zero, List.set_cons_succ]
          refine wpAnyH_take (i := 57) (oi := ?oi58) (v := ?v58) ?h58 (by kernel_rfl) (by kernel_rfl) (by kernel_rfl) ?hq58 (Or.inl ⟨?hw58, ?hy58⟩) hHeld ?rest58
          case h58 => simp only [List.getElem?_toArray, List.getElem?_cons_succ, List.getElem?_cons_zero]; rfl
          case hw58 => rfl
          case hy58 => intro w hSw; (try dsimp only at hSw); first | (go_simp; done) | (go_simp; with_reducible rfl)
          case hq58 => intro _ _ _ h; exact h
          try simp only [Act.put, List.setIfInBounds_toArray, List.set_cons_zero, List.set_cons_succ]
          refine wpAnyH_take (i := 58) (oi := ?oi59) (v := ?v59) ?h59 (by kernel_rfl) (by kernel_rfl) (by kernel_rfl) ?hq59 (Or.inl ⟨?hw59, ?hy59⟩) hHeld ?rest59
          case h59 => simp only [List.getElem?_toArray, List.getElem?_cons_succ, List.getElem?_cons_zero]; rfl
          case hw59 => rfl
          case hy59 => intro w hSw; (try dsimp only at hSw); first | (go_simp; done) | (go_simp; with_reducible rfl)
          case hq59 => intro _ _ _ h; exact h
          try simp only [Act.put, List.setIfInBounds_toArray, List.set_cons_zero, List.set_cons_succ]
          refine wpAnyH_take (i := 59) (oi := ?oi60) (v := ?v60) ?h60 (by kernel_rfl) (by kernel_rfl) (by kernel_rfl) ?hq60 (Or.inl ⟨?hw60, ?hy60⟩) hHeld ?rest60
          case h60 => simp only [List.getElem?_toArray, List.getElem?_cons_succ, List.getElem?_cons_zero]; rfl
          case hw60 => rfl
          case hy60 => intro w hSw; (try dsimp only at hSw); first | (go_simp; done) | (go_simp; with_reducible rfl)
          case hq60 => intro _ _ _ h; exact h
          try simp only [Act.put, List.setIfInBounds_toArray, List.set_cons_zero, List.set_cons_succ]
          refine wpAnyH_take (i := 60) (oi := ?oi61) (v := ?v61) ?h61 (by kernel_rfl) (by kernel_rfl) (by kernel_rfl) ?hq61 (Or.inl ⟨?hw61, ?hy61⟩) hHeld ?rest61
          case h61 => simp only [List.getElem?_toArray, List.getElem?_cons_succ, List.getElem?_cons_zero]; rfl
          case hw61 => rfl
          case hy61 => intro w hSw; (try dsimp only at hSw); first | (go_simp; done) | (go_simp; with_reducible rfl)
          case hq61 => intro _ _ _ h; exact h
          try simp only [Act.put, List.setIfInBounds_toArray, List.set_cons_zero, List.set_cons_succ]
          refine wpAnyH_done (by kernel_rfl) ?_ _
          go_wp2_with fail
          go_roundw
          case rel => exact ⟨1, by omega, by go_num, _, rfl⟩
          case measure => simp [intOf]; omega
        | succ j =>
          obtain ⟨b', hb', hcj⟩ := HC6.out j (by omega)
          injection hb' with hb'
          injection hb' with hb'
          subst hb'
          have hat := HAT.out j hlt
          obtain ⟨zv, hzv⟩ : ∃ zv, zv = cs[j] := ⟨_, rfl⟩
          rw [← hzv] at hcj hat
          rw [← hyv] at hat
          have hzvl : zv < l.length := by omega
          have ez : l.getD zv dz = l[zv] := by simp [List.getD, hzvl]
          rw [ey, ez] at hat
          obtain ⟨_, _, _, _, v4⟩ := hrow zv hzvl
          have f7 : decide ((yv : Int) ≤ zv) = false := by rw [decide_eq_false_iff_not]; omega
          have f7' : decide (yv ≤ zv) = false := by rw [decide_eq_false_iff_not]; omega
          have f8 : (l[yv].value == l[zv].value) = false := by simpa using fun e => hat.2 e.symm
          have f9 : IntKind.i64.wrap (j : Int) = j := IntWalk.i64_in (j : Int) (by omega)
          have f10 : decide ((0 : Int) < (j : Int) + 1) = true := by rw [decide_eq_true_eq]; omega
          have f11 : (0 : Int) ≤ j := by omega
          have f12 : (j : Int) < cs.length := by omega
          have f13 : (0 : Int) ≤ zv := by omega
          have f14 : (zv : Int) < l.length := by omega
          have f15 : (0 : Int) ≤ (j : Int) + 1 := by omega
          have f16 : (j : Int) + 1 < cs.length := by omega
          clear hk hym ey ez hyv hzv hrow hat f5 f6
          go_upto_region 12 with (fail)
          go_quiet (fail)
          go_wp2_with fail
          go_roundw
          case rel => exact ⟨j + 2, by omega, by go_num, _, rfl⟩
          case measure => simp [intOf]; omega
      · have hie : i = cs.length := by omega
        subst hie
        have hcl : cc.length < cs.length := by have := HLN.out; omega
        obtain ⟨b, rfl, hci⟩ := HC6.out cc.length hcl
        rw [HZC.out hcl] at hci
        obtain ⟨pb, po, rfl, hrow⟩ : ∃ b o, p = some ⟨b, o, none⟩ ∧ Row W6 b o l := by
          rcases HR6.out with h | ⟨b, o, hp, h⟩
          · subst h; simp at hzl
          · exact ⟨b, o, hp, h⟩
        obtain ⟨_, _, _, _, z4⟩ := hrow z hzl
        have g1 : (cs.length : Int) - 1 = cc.length := by have := HLN.out; omega
        have g2 : IntKind.i64.wrap ((cs.length : Int) - 1) = cc.length := by rw [g1]; exact IntWalk.i64_in (cc.length : Int) (by have := HLN.out; omega)
        have g3 : (0 : Int) ≤ cc.length := by omega
        have g4 : (cc.length : Int) < cs.length := by omega
        have g5 : (0 : Int) ≤ z := by omega
        have g6 : (z : Int) < l.length := by omega
        have g7 : (l[z].value == rd.value) = true := by simpa using HVZ.out
        clear g1 hrow
        go_upto_region 15 with (fail)
        refine wp_region_held_drew (S := fun W => W.cell? ⟨A, 0, none⟩ = some (.slice (some ⟨pb, po, none⟩) l.length q) ∧ W.cell? ⟨b, cc.length, none⟩ = some (.int .i64 z) ∧ W.cell? ⟨pb, po + z * 5 + 4, none⟩ = some (.int .i64 l[z].value) ∧ W.cell? ⟨W5.heap.size, 4, none⟩ = some (.int .i64 rd.value) ∧ Below w0.heap.size w0 W) (by kernel_rfl) ⟨hbox6, hci, z4, hd4, (below_drewN HB6.out _).drew⟩ (fun hHeld => ?_)
        refine wpAnyH_take (i := 0) (oi := ?oiB1) (v := ?vB1) ?hB1 (by kernel_rfl) (by kernel_rfl) (by kernel_rfl) ?hqB1 (Or.inl ⟨?hwB1, ?hyB1⟩) hHeld ?restB1
        case hB1 => simp only [List.getElem?_toArray, List.getElem?_cons_succ, List.getElem?_cons_zero]; rfl
        case hwB1 => rfl
        case hyB1 => intro w hSw; (try dsimp only at hSw); first | (go_simp; done) | (go_simp; with_reducible rfl)
        case hqB1 => intro _ _ _ h; exact h
        try simp only [Act.put, List.setIfInBounds_toArray, List.set_cons_zero, List.set_cons_succ]
        refine wpAnyH_take (i := 1) (oi := ?oiB2) (v := ?vB2) ?hB2 (by kernel_rfl) (by kernel_rfl) (by kernel_rfl) ?hqB2 (Or.inl ⟨?hwB2, ?hyB2⟩) hHeld ?restB2
        case hB2 => simp only [List.getElem?_toArray, List.getElem?_cons_succ, List.getElem?_cons_zero]; rfl
        case hwB2 => rfl
        case hyB2 => intro w hSw; (try dsimp only at hSw); first | (go_simp; done) | (go_simp; with_reducible rfl)
        case hqB2 => intro _ _ _ h; exact h
        try simp only [Act.put, List.setIfInBounds_toArray, List.set_cons_zero, List.set_cons_succ]
        refine wpAnyH_take (i := 2) (oi := ?oiB3) (v := ?vB3) ?hB3 (by kernel_rfl) (by kernel_rfl) (by kernel_rfl) ?hqB3 (Or.inl ⟨?hwB3, ?hyB3⟩) hHeld ?restB3
        case hB3 => simp only [List.getElem?_toArray, List.getElem?_cons_succ, List.getElem?_cons_zero]; rfl
        case hwB3 => rfl
        case hyB3 => intro w hSw; (try dsimp only at hSw); first | (go_simp; done) | (go_simp; with_reducible rfl)
        case hqB3 => intro _ _ _ h; exact h
        try simp only [Act.put, List.setIfInBounds_toArray, List.set_cons_zero, List.set_cons_succ]
        refine wpAnyH_take (i := 3) (oi := ?oiB4) (v := ?vB4) ?hB4 (by kernel_rfl) (by kernel_rfl) (by kernel_rfl) ?hqB4 (Or.inl ⟨?hwB4, ?hyB4⟩) hHeld ?restB4
        case hB4 => simp only [List.getElem?_toArray, List.getElem?_cons_succ, List.getElem?_cons_zero]; rfl
        case hwB4 => rfl
        case hyB4 => intro w hSw; (try dsimp only at hSw); first | (go_simp; done) | (go_simp; with_reducible rfl)
        case hqB4 => intro _ _ _ h; exact h
        try simp only [Act.put, List.setIfInBounds_toArray, List.set_cons_zero, List.set_cons_succ]
        refine wpAnyH_take (i := 4) (oi := ?oiB5) (v := ?vB5) ?hB5 (by kernel_rfl) (by kernel_rfl) (by kernel_rfl) ?hqB5 (Or.inl ⟨?hwB5, ?hyB5⟩) hHeld ?restB5
        case hB5 => simp only [List.getElem?_toArray, List.getElem?_cons_succ, List.getElem?_cons_zero]; rfl
        case hwB5 => rfl
        case hyB5 => intro w hSw; (try dsimp only at hSw); first | (go_simp; done) | (go_simp; with_reducible rfl)
        case hqB5 => intro _ _ _ h; exact h
        try simp only [Act.put, List.setIfInBounds_toArray, List.set_cons_zero, List.set_cons_succ]
        refine wpAnyH_take (i := 5) (oi := ?oiB6) (v := ?vB6) ?hB6 (by kernel_rfl) (by kernel_rfl) (by kernel_rfl) ?hqB6 (Or.inl ⟨?hwB6, ?hyB6⟩) hHeld ?restB6
        case hB6 => simp only [List.getElem?_toArray, List.getElem?_cons_succ, List.getElem?_cons_zero]; rfl
        case hwB6 => rfl
        case hyB6 => intro w hSw; (try dsimp only at hSw); first | (go_simp; done) | (go_simp; with_reducible rfl)
        case hqB6 => intro _ _ _ h; exact h
        try simp only [Act.put, List.setIfInBounds_toArray, List.set_cons_zero, List.set_cons_succ]
        refine wpAnyH_take (i := 6) (oi := ?oiB7) (v := ?vB7) ?hB7 (by kernel_rfl) (by kernel_rfl) (by kernel_rfl) ?hqB7 (Or.inl ⟨?hwB7, ?hyB7⟩) hHeld ?restB7
        case hB7 => simp only [List.getElem?_toArray, List.getElem?_cons_succ, List.getElem?_cons_zero]; rfl
        case hwB7 => rfl
        case hyB7 => intro w hSw; (try dsimp only at hSw); first | (go_simp; done) | (go_simp; with_reducible rfl)
        case hqB7 => intro _ _ _ h; exact h
        try simp only [Act.put, List.setIfInBounds_toArray, List.set_cons_zero, List.set_cons_succ]
        refine wpAnyH_take (i := 7) (oi := ?oiB8) (v := ?vB8) ?hB8 (by kernel_rfl) (by kernel_rfl) (by kernel_rfl) ?hqB8 (Or.inl ⟨?hwB8, ?hyB8⟩) hHeld ?restB8
        case hB8 => simp only [List.getElem?_toArray, List.getElem?_cons_succ, List.getElem?_cons_zero]; rfl
        case hwB8 => rfl
        case hyB8 => intro w hSw; (try dsimp only at hSw); first | (go_simp; done) | (go_simp; with_reducible rfl)
        case hqB8 => intro _ _ _ h; exact h
        try simp only [Act.put, List.setIfInBounds_toArray, List.set_cons_zero, List.set_cons_succ]
        refine wpAnyH_take (i := 8) (oi := ?oiB9) (v := ?vB9) ?hB9 (by kernel_rfl) (by kernel_rfl) (by kernel_rfl) ?hqB9 (Or.inl ⟨?hwB9, ?hyB9⟩) hHeld ?restB9
        case hB9 => simp only [List.getElem?_toArray, List.getElem?_cons_succ, List.getElem?_cons_zero]; rfl
        case hwB9 => rfl
        case hyB9 => intro w hSw; (try dsimp only at hSw); first | (go_simp; done) | (go_simp; with_reducible rfl)
        case hqB9 => intro _ _ _ h; exact h
        try simp only [Act.put, List.setIfInBounds_toArray, List.set_cons_zero, List.set_cons_succ]
        refine wpAnyH_take (i := 9) (oi := ?oiB10) (v := ?vB10) ?hB10 (by kernel_rfl) (by kernel_rfl) (by kernel_rfl) ?hqB10 (Or.inl ⟨?hwB10, ?hyB10⟩) hHeld ?restB10
        case hB10 => simp only [List.getElem?_toArray, List.getElem?_cons_succ, List.getElem?_cons_zero]; rfl
        case hwB10 => rfl
        case hyB10 => intro w hSw; (try dsimp only at hSw); first | (go_simp; done) | (go_simp; with_reducible rfl)
        case hqB10 => intro _ _ _ h; exact h
        try simp only [Act.put, List.setIfInBounds_toArray, List.set_cons_zero, List.set_cons_succ]
        refine wpAnyH_take (i := 10) (oi := ?oiB11) (v := ?vB11) ?hB11 (by kernel_rfl) (by kernel_rfl) (by kernel_rfl) ?hqB11 (Or.inl ⟨?hwB11, ?hyB11⟩) hHeld ?restB11
        case hB11 => simp only [List.getElem?_toArray, List.getElem?_cons_succ, List.getElem?_cons_zero]; rfl
        case hwB11 => rfl
        case hyB11 => intro w hSw; (try dsimp only at hSw); first | (go_simp; done) | (go_simp; with_reducible rfl)
        case hqB11 => intro _ _ _ h; exact h
        try simp only [Act.put, List.setIfInBounds_toArray, List.set_cons_zero, List.set_cons_succ]
        refine wpAnyH_take (i := 11) (oi := ?oiB12) (v := ?vB12) ?hB12 (by kernel_rfl) (by kernel_rfl) (by kernel_rfl) ?hqB12 (Or.inl ⟨?hwB12, ?hyB12⟩) hHeld ?restB12
        case hB12 => simp only [List.getElem?_toArray, List.getElem?_cons_succ, List.getElem?_cons_zero]; rfl
        case hwB12 => rfl
        case hyB12 => intro w hSw; (try dsimp only at hSw); first | (go_simp; done) | (go_simp; with_reducible rfl)
        case hqB12 => intro _ _ _ h; exact h
        try simp only [Act.put, List.setIfInBounds_toArray, List.set_cons_zero, List.set_cons_succ]
        refine wpAnyH_take (i := 12) (oi := ?oiB13) (v := ?vB13) ?hB13 (by kernel_rfl) (by kernel_rfl) (by kernel_rfl) ?hqB13 (Or.inl ⟨?hwB13, ?hyB13⟩) hHeld ?restB13
        case hB13 => simp only [List.getElem?_toArray, List.getElem?_cons_succ, List.getElem?_cons_zero]; rfl
        case hwB13 => rfl
        case hyB13 => intro w hSw; (try dsimp only at hSw); first | (go_simp; done) | (go_simp; with_reducible rfl)
        case hqB13 => intro _ _ _ h; exact h
        try simp only [Act.put, List.setIfInBounds_toArray, List.set_cons_zero, List.set_cons_succ]
        refine wpAnyH_take (i := 13) (oi := ?oiB14) (v := ?vB14) ?hB14 (by kernel_rfl) (by kernel_rfl) (by kernel_rfl) ?hqB14 (Or.inl ⟨?hwB14, ?hyB14⟩) hHeld ?restB14
        case hB14 => simp only [List.getElem?_toArray, List.getElem?_cons_succ, List.getElem?_cons_zero]; rfl
        case hwB14 => rfl
        case hyB14 => intro w hSw; (try dsimp only at hSw); first | (go_simp; done) | (go_simp; with_reducible rfl)
        case hqB14 => intro _ _ _ h; exact h
        try simp only [Act.put, List.setIfInBounds_toArray, List.set_cons_zero, List.set_cons_succ]
        refine wpAnyH_take (i := 14) (oi := ?oiB15) (v := ?vB15) ?hB15 (by kernel_rfl) (by kernel_rfl) (by kernel_rfl) ?hqB15 (Or.inl ⟨?hwB15, ?hyB15⟩) hHeld ?restB15
        case hB15 => simp only [List.getElem?_toArray, List.getElem?_cons_succ, List.getElem?_cons_zero]; rfl
        case hwB15 => rfl
        case hyB15 => intro w hSw; (try dsimp only at hSw); first | (go_simp; done) | (go_simp; with_reducible rfl)
        case hqB15 => intro _ _ _ h; exact h
        try simp only [Act.put, List.setIfInBounds_toArray, List.set_cons_zero, List.set_cons_succ]
        refine wpAnyH_take (i := 15) (oi := ?oiB16) (v := ?vB16) ?hB16 (by kernel_rfl) (by kernel_rfl) (by kernel_rfl) ?hqB16 (Or.inl ⟨?hwB16, ?hyB16⟩) hHeld ?restB16
        case hB16 => simp only [List.getElem?_toArray, List.getElem?_cons_succ, List.getElem?_cons_zero]; rfl
        case hwB16 => rfl
        case hyB16 => intro w hSw; (try dsimp only at hSw); first | (go_simp; done) | (go_simp; with_reducible rfl)
        case hqB16 => intro _ _ _ h; exact h
        try simp only [Act.put, List.setIfInBounds_toArray, List.set_cons_zero, List.set_cons_succ]
        refine wpAnyH_take (i := 16) (oi := ?oiB17) (v := ?vB17) ?hB17 (by kernel_rfl) (by kernel_rfl) (by kernel_rfl) ?hqB17 (Or.inl ⟨?hwB17, ?hyB17⟩) hHeld ?restB17
        case hB17 => simp only [List.getElem?_toArray, List.getElem?_cons_succ, List.getElem?_cons_zero]; rfl
        case hwB17 => rfl
        case hyB17 => intro w hSw; (try dsimp only at hSw); first | (go_simp; done) | (go_simp; with_reducible rfl)
        case hqB17 => intro _ _ _ h; exact h
        try simp only [Act.put, List.setIfInBounds_toArray, List.set_cons_zero, List.set_cons_succ]
        refine wpAnyH_take (i := 17) (oi := ?oiB18) (v := ?vB18) ?hB18 (by kernel_rfl) (by kernel_rfl) (by kernel_rfl) ?hqB18 (Or.inl ⟨?hwB18, ?hyB18⟩) hHeld ?restB18
        case hB18 => simp only [List.getElem?_toArray, List.getElem?_cons_succ, List.getElem?_cons_zero]; rfl
        case hwB18 => rfl
        case hyB18 => intro w hSw; (try dsimp only at hSw); first | (go_simp; done) | (go_simp; with_reducible rfl)
        case hqB18 => intro _ _ _ h; exact h
        try simp only [Act.put, List.setIfInBounds_toArray, List.set_cons_zero, List.set_cons_succ]
        refine wpAnyH_take (i := 18) (oi := ?oiB19) (v := ?vB19) ?hB19 (by kernel_rfl) (by kernel_rfl) (by kernel_rfl) ?hqB19 (Or.inl ⟨?hwB19, ?hyB19⟩) hHeld ?restB19
        case hB19 => simp only [List.getElem?_toArray, List.getElem?_cons_succ, List.getElem?_cons_zero]; rfl
        case hwB19 => rfl
        case hyB19 => intro w hSw; (try dsimp only at hSw); first | (go_simp; done) | (go_simp; with_reducible rfl)
        case hqB19 => intro _ _ _ h; exact h
        try simp only [Act.put, List.setIfInBounds_toArray, List.set_cons_zero, List.set_cons_succ]
        refine wpAnyH_ready (rs := [19]) (by kernel_rfl) (by simp) ?_
        refine AllReadyH.cons (o := ?oB20) ?hB20 (fun K hK => ?stepB20) ?moreB20
        case hB20 => simp only [List.getElem?_toArray, List.getElem?_cons_succ, List.getElem?_cons_zero]; rfl
        case stepB20 =>
          go_simp
          go_at_call 14; refine (lawake_any _).mono ?_; rintro e w' ⟨rfl, hbw⟩; have hT := below_step hHeld.2.2.2.2 hbw; have t1 := cell_later hbw hHeld.1; have t2 := cell_later hbw hHeld.2.1; have t3 := cell_later hbw hHeld.2.2.1; have t4 := cell_later hbw hHeld.2.2.2.1; clear hbw
          refine hK.out _ _ ⟨t1, t2, t3, t4, hT⟩ (fun hHeld2 => ?_)
          clear hHeld hK K; have hHeld := hHeld2; clear hHeld2
          try simp only [Act.put, List.setIfInBounds_toArray, List.set_cons_zero, List.set_cons_succ]
          refine wpAnyH_take (i := 20) (oi := ?oiB21) (v := ?vB21) ?hB21 (by kernel_rfl) (by kernel_rfl) (by kernel_rfl) ?hqB21 (Or.inl ⟨?hwB21, ?hyB21⟩) hHeld ?restB21
          case hB21 => simp only [List.getElem?_toArray, List.getElem?_cons_succ, List.getElem?_cons_zero]; rfl
          case hwB21 => rfl
          case hyB21 => intro w hSw; (try dsimp only at hSw); first | (go_simp; done) | (go_simp; with_reducible rfl)
          case hqB21 => intro _ _ _ h; exact h
          try simp only [Act.put, List.setIfInBounds_toArray, List.set_cons_zero, List.set_cons_succ]
          refine wpAnyH_take (i := 21) (oi := ?oiB22) (v := ?vB22) ?hB22 (by kernel_rfl) (by kernel_rfl) (by kernel_rfl) ?hqB22 (Or.inl ⟨?hwB22, ?hyB22⟩) hHeld ?restB22
          case hB22 => simp only [List.getElem?_toArray, List.getElem?_cons_succ, List.getElem?_cons_zero]; rfl
          case hwB22 => rfl
          case hyB22 => intro w hSw; (try dsimp only at hSw); first | (go_simp; done) | (go_simp; with_reducible rfl)
          case hqB22 => intro _ _ _ h; exact h
          try simp only [Act.put, List.setIfInBounds_toArray, List.set_cons_zero, List.set_cons_succ]
          refine wpAnyH_done (by kernel_rfl) ?_ _
          go_wp2_with fail
          go_ret
          exact ⟨rfl, hT⟩
        exact AllReadyH.nil

theorem lchg_any (w : World) (a : Option Addr) (n c : Nat) (x y : Int) (hx : 0 ≤ x ∧ x ≤ 255) (hy : 0 ≤ y ∧ y ≤ 255) (hi : Ints w w.heap.size a n) :
    Calls Try.prog 5 #[.slice a n c, .int .u8 x, .int .u8 y] w fun e w' => e = .returned (.bool true) ∧ Below w.heap.size w w' := by
  cases h : decide (n ≤ 400)
  · exact lchg_heavy w a n c x y h
  · exact lchg_light w a n c x y hx hy h hi
end Go.Proofs.Ytogcpjkgliijmaa
