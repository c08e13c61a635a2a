/- The walk of JournalBack. -/
import Derived.Test.YtogcpjkgliijmaaReplay
import Derived.Test.YtogcpjkgliijmaaJAwake
namespace Go.Proofs.Ytogcpjkgliijmaa
open Go.RowKit

set_option maxHeartbeats 1000000 in
theorem ljback_heavy (w : World) (a : Option Addr) (n c : Nat) (x : Int) (t : ByteArray) (h : decide (n ≤ 400) = false) :
    Calls Try.prog 10 #[.slice a n c, .int .u8 x, .string t] w fun e w' => e = .returned (.bool true) ∧ Below w.heap.size w w' := by
  go_enter Try.func10, Try.ntmps10
  go_wp2_with fail
  refine (light_any a n c false _ h).mono ?_
  rintro e w1 ⟨rfl, rfl⟩
  go_wp2_with fail
  refine (jawake_any _).mono ?_
  rintro e w2 ⟨rfl, hb⟩
  go_wp2_with fail
  go_ret
  exact ⟨rfl, hb⟩

set_option maxHeartbeats 1000000 in
theorem ljback_torn (w : World) (a : Option Addr) (n c : Nat) (x : Int) (t : ByteArray) (h : decide (n ≤ 400) = true) (h2 : decide ((300 : Int) < (t.size : Int)) = true) :
    Calls Try.prog 10 #[.slice a n c, .int .u8 x, .string t] w fun e w' => e = .returned (.bool true) ∧ Below w.heap.size w w' := by
  go_enter Try.func10, Try.ntmps10
  go_wp2_with fail
  refine (light_any a n c true _ h).mono ?_
  rintro e w1 ⟨rfl, rfl⟩
  go_wp2_with fail
  refine (jawake_any _).mono ?_
  rintro e w2 ⟨rfl, hb⟩
  go_wp2_with fail
  go_ret
  exact ⟨rfl, hb⟩

set_option maxRecDepth 100000 in
set_option maxHeartbeats 8000000 in
theorem ljback_light (w : World) (a : Option Addr) (n c : Nat) (x : Int) (T : List UInt8) (hx : 0 ≤ x ∧ x ≤ 255) (h : decide (n ≤ 400) = true) (hi : Ints w w.heap.size a n) (hT : T.length ≤ 300) :
    Calls Try.prog 10 #[.slice a n c, .int .u8 x, .string ⟨T.toArray⟩] w fun e w' => e = .returned (.bool true) ∧ Below w.heap.size w w' := by
  have h400 : n ≤ 400 := by simpa using h
  have cR := roll_any a n c w h400 hi
  have CR := Lib.hid cR; clear cR hi
  obtain ⟨hx0, hx1⟩ := hx
  have hT2 : decide ((300 : Int) < (T.length : Int)) = false := by rw [decide_eq_false_iff_not]; omega
  go_enter Try.func10, Try.ntmps10
  go_wp2_with fail
  refine (light_any a n c true _ h).mono ?_
  rintro e w0 ⟨rfl, rfl⟩
  go_wp2_with fail
  refine CR.out.mono ?_
  rintro e w1 ⟨rfl, hd, hb1⟩
  go_wp2_with fail
  refine (ledger_any w1 _ 8 hd (by omega)).mono ?_
  rintro e w2 ⟨l, p, q, rfl, hg, hl, hq, hs, hxr, hd2, hg2⟩
  have hb2 := below_grown hb1 hg2
  have hr : Reads w2 p l := by
    rcases hxr with h | ⟨b, hp, _, h⟩
    · exact .inl h
    · exact .inr ⟨b, 0, hp, h⟩
  have hb2a : Below w2.heap.size w2 (w2.alloc (.cells #[.slice p l.length q] 25)) := (Below.refl _ _).alloc (Nat.le_refl _) _
  obtain ⟨A, hA⟩ : ∃ A, A = w2.heap.size := ⟨_, rfl⟩
  have hbox : (w2.alloc (.cells #[.slice p l.length q] 25)).cell? ⟨A, 0, none⟩ = some (.slice p l.length q) := by rw [hA]; simp
  have HBOX := Lib.hid hbox; have HR := Lib.hid (hr.mono hb2a); have HB := Lib.hid (below_step hb2 hb2a); have HG := Lib.hid hg
  clear hd hd2 hg2 hs hxr hb1 CR h h400 hr hb2 hg hb2a hbox
  go_upto_region 4 with (fail)
  rw [← hA]
  generalize w2.alloc (.cells #[.slice p l.length q] 25) = W3 at *
  clear hA
  have hbox := HBOX.out
  go_wp2_with fail
  go_loopw [8, 35] (fun s i wr => ∃ k : Nat, k ≤ l.length ∧ i = .int .i64 k ∧ s = .string ⟨(flatE (l.take k)).toArray⟩ ∧ Below W3.heap.size W3 wr) (fun _ i _ => l.length - (intOf i).toNat)
  case atStart => exact ⟨0, Nat.zero_le _, rfl, rfl, Below.refl _ _⟩
  case round =>
    clear hbox
    obtain ⟨k, hk, rfl, rfl, hb⟩ := hrel
    by_cases hlt : k < l.length
    · rcases HR.out with h | ⟨b, o, hp, hrow⟩
      · subst h; simp at hlt
      subst hp
      obtain ⟨c0, c1, c2, c3, c4⟩ := (hrow.mono hb) k hlt
      have hok := HG.out.1 k hlt
      have hnx : flatE (l.take (k + 1)) = flatE (l.take k) ++ encS l[k] := by rw [List.take_succ_eq_append_getElem hlt, flatE_snoc]
      have hlen : (flatE (l.take k)).length ≤ 60000 := by rw [flatE_len]; simp; omega
      have cA := fun W => append_ok (flatE (l.take k)) l[k] W hok hlen
      rw [← hnx] at cA
      unfold Dec.val at cA
      have CA := Lib.hid cA
      have hb1 : Below wr.heap.size wr (wr.alloc (.cells #[.int .i64 l[k].day, .int .i64 l[k].known, .int .i64 l[k].kind, .int .i64 l[k].subj, .int .i64 l[k].value] 27)) := (Below.refl _ _).alloc (Nat.le_refl _) _
      have HB1 := Lib.hid (below_step hb hb1)
      clear cA hnx hlen hrow hok hb hb1
      go_wp2_with fail
      refine (CA.out _).mono ?_; rintro e w1 ⟨rfl, hb2⟩
      have HB2 := Lib.hid (below_step HB1.out hb2)
      clear hb2 CA
      go_wp2_with fail
      go_roundw
      case rel => exact ⟨k + 1, by omega, by go_num, rfl, HB2.out⟩
      case measure => simp [intOf]; omega
    · have hkl : k = l.length := by omega
      have he : l.take k = l := by rw [hkl, List.take_length]
      rw [he]
      subst hkl
      have hfl := flatE_len l
      obtain ⟨sl, hsl⟩ : ∃ sl, sl = flatE l := ⟨_, rfl⟩
      rw [← hsl] at hfl ⊢
      have hO : OpenAs sl l := by rw [hsl]; exact openAs_flat HG.out.1
      have hsl96 : sl.length ≤ 96 := by omega
      have cO := fun W => open_any sl l W hO (by omega)
      have cP := fun W => replay_any sl l W hO HG.out (by omega) (by omega)
      have cW := fun W => whole_any sl l W hO (by omega)
      unfold OpenPost at cO
      unfold ReplayPost at cP
      rw [← hfl] at cO cW
      rw [List.take_length] at cW
      obtain ⟨kk, hkk, hkk2⟩ : ∃ kk : Nat, x % ((sl.length : Int) + 1) = kk ∧ kk ≤ sl.length := ⟨(x % ((sl.length : Int) + 1)).toNat, by rw [Int.toNat_of_nonneg (Int.emod_nonneg _ (by omega))], by have := Int.emod_lt_of_pos x (show (0 : Int) < (sl.length : Int) + 1 by omega); have := Int.emod_nonneg x (show (sl.length : Int) + 1 ≠ 0 by omega); omega⟩
      have cM := fun W => mod_any x ((sl.length : Int) + 1) W (by omega) (by omega) (by omega) (by omega)
      rw [hkk] at cM
      have cC := fun W => crash_any sl T kk W hkk2 (by omega) (by omega)
      obtain ⟨ds, hds⟩ := open_exists (sl.take kk ++ T)
      have hsafe := open_safe HG.out.1 kk (by omega) T (by rw [← hsl]; exact hds)
      obtain ⟨m, hm⟩ : ∃ m, m = kk / 12 := ⟨_, rfl⟩
      rw [← hm] at hsafe
      have cO2 := fun W => open_any (sl.take kk ++ T) ds W hds (by rw [List.length_append, List.length_take]; omega)
      unfold OpenPost at cO2
      obtain ⟨hms, hme⟩ := hsafe
      have hml : m ≤ l.length := by omega
      have e1 : (kk : Int) / 12 = (m : Int) := by omega
      have CO := Lib.hid cO; have CP := Lib.hid cP; have CW := Lib.hid cW; have CM := Lib.hid cM; have CC := Lib.hid cC; have CO2 := Lib.hid cO2; have HME := Lib.hid hme; have HE1 := Lib.hid e1
      have HB4 := Lib.hid hb; have hbox4 := cell_later hb HBOX.out; have HR4 := Lib.hid (HR.out.mono hb); have HFL := Lib.hid hfl
      clear cO cP cW cM cC cO2 hme e1 hb hO he hkk hds hm hsl hfl HR HBOX
      go_wp2_with fail
      refine (CO.out _).mono ?_
      rintro e W5 ⟨v1, rfl, hdv1, hb5⟩
      obtain ⟨p1, c1, rfl, hc1, hx1'⟩ := hdv1
      have hr1 : Reads W5 p1 l := by
        rcases hx1' with h | ⟨b, hp, _, h⟩
        · exact .inl h
        · exact .inr ⟨b, 0, hp, h⟩
      have HB5 := Lib.hid hb5; have HR1 := Lib.hid hr1
      have hbox5 := cell_later hb5 hbox4
      clear hb5 hr1 hx1' hbox4 CO
      go_wp2_with fail
      refine (CP.out _).mono ?_
      rintro e W6 ⟨p2, c2, rfl, hr2, hb6⟩
      have hb7 : Below W6.heap.size W6 (W6.alloc (.cells #[.slice p2 l.length c2] 25)) := (Below.refl _ _).alloc (Nat.le_refl _) _
      obtain ⟨C, hC⟩ : ∃ C, C = W6.heap.size := ⟨_, rfl⟩
      have hboxC : (W6.alloc (.cells #[.slice p2 l.length c2] 25)).cell? ⟨C, 0, none⟩ = some (.slice p2 l.length c2) := by rw [hC]; simp
      have hb57 := below_step hb6 hb7
      have hbox7 := cell_later hb57 hbox5
      have HR27 := Lib.hid (hr2.mono hb7); have HB57 := Lib.hid hb57; have HR17 := Lib.hid (HR1.out.mono hb57); have HR7 := Lib.hid (((HR4.out.mono HB5.out)).mono hb57)
      clear hb6 hb7 hb57 hr2 HR1 HR4 CP hbox5
      go_upto_region 15 with (fail)
      rw [← hC]
      generalize W6.alloc (.cells #[.slice p2 l.length c2] 25) = W7 at *
      clear hC
      go_wp2_with fail
      refine (CM.out _).mono ?_
      rintro e W7' ⟨rfl, rfl⟩
      go_wp2_with fail
      refine (CC.out _).mono ?_
      rintro e W7'' ⟨rfl, rfl⟩
      go_wp2_with fail
      refine (CO2.out _).mono ?_
      rintro e W8 ⟨v3, rfl, hdv3, hb8⟩
      obtain ⟨p3, c3, rfl, hc3, hx3⟩ := hdv3
      have hr3 : Reads W8 p3 ds := by
        rcases hx3 with h | ⟨b, hp, _, h⟩
        · exact .inl h
        · exact .inr ⟨b, 0, hp, h⟩
      have hr3m := hr3.take m
      rw [HME.out] at hr3m
      have htl : (l.take m).length = m := by simp; omega
      have hbox8 := cell_later hb8 hbox7
      have hboxC8 := cell_later hb8 hboxC
      have e1 := HE1.out
      have d1 : decide (ds.length < m) = false := by rw [decide_eq_false_iff_not]; omega
      have d2 : decide (l.length < m) = false := by rw [decide_eq_false_iff_not]; omega
      have HB8 := Lib.hid hb8; have HR8 := Lib.hid (HR7.out.mono hb8); have HR18 := Lib.hid (HR17.out.mono hb8); have HR28 := Lib.hid (HR27.out.mono hb8); have HR38 := Lib.hid hr3m; have HTL := Lib.hid htl
      clear hb8 hr3 hr3m hx3 hbox7 hboxC HR7 HR17 HR27 HME CO2 CC CM htl
      go_upto_region 19 with (fail)
      have f7 : (kk : Int).tdiv 12 = (m : Int) := by rw [Int.tdiv_eq_ediv_of_nonneg (by omega)]; exact e1
      have f8 : IntKind.i64.wrap (m : Int) = m := IntWalk.i64_in (m : Int) (by omega)
      have f2 : (0 : Int) ≤ m := by omega
      have f3 : (m : Int) ≤ q := by omega
      have f4 : (m : Int) ≤ c3 := by omega
      have f5 : (m : Int) ≤ l.length := by omega
      have f6 : (m : Int) ≤ ds.length := by omega
      have sAll : ∀ W, Below W8.heap.size W8 W → (W.cell? ⟨A, 0, none⟩ = some (.slice p l.length q) ∧ W.cell? ⟨C, 0, none⟩ = some (.slice p2 l.length c2) ∧ Below W8.heap.size W8 W) := fun W hb =>
        ⟨cell_later hb hbox8, cell_later hb hboxC8, hb⟩
      have cS1 := fun W (hb : Below W8.heap.size W8 W) => samedecs_same W p1 p c1 q l (HR18.out.mono hb) (HR8.out.mono hb) (by omega)
      have cS2 := fun W (hb : Below W8.heap.size W8 W) => samedecs_same W p3 p c3 q (l.take m) (HR38.out.mono hb) ((HR8.out.take m).mono hb) (by rw [HTL.out]; omega)
      rw [HTL.out] at cS2
      have cS3 := fun W (hb : Below W8.heap.size W8 W) => refsame_same W p2 p c2 q l (HR28.out.mono hb) (HR8.out.mono hb) (by omega)
      have SALL := Lib.hid sAll; have CS1 := Lib.hid cS1; have CS2 := Lib.hid cS2; have CS3 := Lib.hid cS3
      have hbd : Below W8.heap.size W8 W8.drew := (Below.refl _ _).drew
      clear sAll cS1 cS2 cS3 hbox8 hboxC8 HR18 HR28 HR38 HR8 HTL d1 d2
      go_region_held3 (fun W => W.cell? ⟨A, 0, none⟩ = some (.slice p l.length q) ∧ W.cell? ⟨C, 0, none⟩ = some (.slice p2 l.length c2) ∧ Below W8.heap.size W8 W) (exact SALL.out _ (by assumption))
        (first
         | (go_at_call 50; (first | (with_reducible refine (CS1.out _ (by assumption)).mono ?_) | (with_reducible refine (CS2.out _ (by assumption)).mono ?_)); rintro e w' ⟨rfl, hbw⟩; have hbT := below_step (by assumption) hbw; clear hbw)
         | (go_at_call 21; refine (CS3.out _ (by assumption)).mono ?_; rintro e w' ⟨rfl, hbw⟩; have hbT := below_step (by assumption) hbw; clear hbw)
         | (go_at_call 51; refine (CW.out _).mono ?_; rintro e w' ⟨rfl, hbw⟩; have hbT := below_step (by assumption) hbw; clear hbw)
         | (go_at_call 38; refine (jawake_any _).mono ?_; rintro e w' ⟨rfl, hbw⟩; have hbT := below_step (by assumption) hbw; clear hbw))
      go_wp2_with fail
      go_ret
      exact ⟨rfl, below_step (below_step (below_step (below_step (below_step HB.out HB4.out) HB5.out) HB57.out) HB8.out) (by assumption)⟩

theorem ljback_any (w : World) (a : Option Addr) (n c : Nat) (x : Int) (t : ByteArray) (hx : 0 ≤ x ∧ x ≤ 255) (hi : Ints w w.heap.size a n) :
    Calls Try.prog 10 #[.slice a n c, .int .u8 x, .string t] w fun e w' => e = .returned (.bool true) ∧ Below w.heap.size w w' := by
  cases h : decide (n ≤ 400)
  · exact ljback_heavy w a n c x t h
  · cases h2 : decide ((300 : Int) < (t.size : Int))
    · obtain ⟨T, rfl⟩ : ∃ T : List UInt8, t = ⟨T.toArray⟩ := ⟨t.data.toList, by simp⟩
      rw [ba_size] at h2
      exact ljback_light w a n c x T hx h hi (by rw [decide_eq_false_iff_not] at h2; omega)
    · exact ljback_torn w a n c x t h h2
end Go.Proofs.Ytogcpjkgliijmaa
