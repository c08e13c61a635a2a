/- The walk of LedgerAdds. -/
import Derived.Test.YtogcpjkgliijmaaAddsM
import Derived.Test.YtogcpjkgliijmaaLThen
namespace Go.Proofs.Ytogcpjkgliijmaa
open Go.RowKit

def ARel (w1 : World) (g B N : Nat) (vv kv : Value) (wr : World) : Prop :=
  ∃ (k : Nat) (v : Value) (p : Option Addr) (c : Nat) (l : List Dec) (x : Dec), kv = .int .i64 k ∧ v = vv ∧ k ≤ N ∧ AD w1 wr g B v p c l x ∧ Good l ∧ l.length = min k 128 ∧
    (k ≤ 128 → x = l.getLastD dz) ∧ (0 ≤ x.day ∧ x.day ≤ 2 * k) ∧ (0 ≤ x.known ∧ x.known ≤ k)

theorem foll_good {l : List Dec} {d : Dec} (hd : d.ok = true) (h1 : (l.getLastD dz).day ≤ d.day) (h2 : (l.getLastD dz).known ≤ d.known) : foll (lastOf l l.length) d = 0 := by
  rcases Nat.eq_zero_or_pos l.length with h0 | h0
  · rw [h0, lastOf_zero, foll_none hd]
  · obtain ⟨m, hm⟩ : ∃ m, l.length = m + 1 := ⟨l.length - 1, by omega⟩
    rw [hm, lastOf_succ l m (by omega), foll_some hd]
    rw [getLastD_eq h0] at h1 h2
    have e : l[l.length - 1] = l[m] := by simp [hm]
    rw [e] at h1 h2
    rw [if_neg]
    simp only [Bool.or_eq_true, decide_eq_true_eq]; omega

set_option maxHeartbeats 1000000 in
theorem ladds_heavy (w : World) (a : Option Addr) (n c : Nat) (y : Int) (h : decide (n ≤ 400) = false) :
    Calls Try.prog 6 #[.slice a n c, .int .u8 y] w fun e w' => e = .returned (.bool true) ∧ Below w.heap.size w w' := by
  go_enter Try.func6, Try.ntmps6
  go_wp2_with fail
  refine (light_any a n c false _ h).mono ?_
  rintro e w1 ⟨rfl, rfl⟩
  go_wp2_with fail
  refine (lawake_any _).mono ?_
  rintro e w2 ⟨rfl, hb⟩
  go_wp2_with fail
  go_ret
  exact ⟨rfl, hb⟩

set_option maxRecDepth 100000 in
set_option maxHeartbeats 8000000 in
theorem ladds_light (w : World) (a : Option Addr) (n c : Nat) (y : Int) (hy : 0 ≤ y ∧ y ≤ 255) (h : decide (n ≤ 400) = true) (hi : Ints w w.heap.size a n) :
    Calls Try.prog 6 #[.slice a n c, .int .u8 y] w fun e w' => e = .returned (.bool true) ∧ Below w.heap.size w w' := by
  have h400 : n ≤ 400 := by simpa using h
  have cR := roll_any a n c w h400 hi
  have CR := Lib.hid cR; clear cR hi
  obtain ⟨i0, hi, hz0, hz1, hz2⟩ := info_parts info27
  obtain ⟨hy0, hy1⟩ := hy
  go_enter Try.func6, Try.ntmps6
  go_wp2_with fail
  refine (light_any a n c true _ h).mono ?_
  rintro e w0 ⟨rfl, rfl⟩
  go_wp2_with fail
  refine CR.out.mono ?_
  rintro e w1 ⟨rfl, hd, hb1⟩
  clear CR h h400
  have hlt := hd.lt
  obtain ⟨g, hg⟩ : ∃ g, g = w0.heap.size := ⟨_, rfl⟩
  rw [← hg] at hd hlt
  have hgw : w0.heap.size ≤ g := by omega
  have HB1 := Lib.hid hb1; clear hb1
  rw [← hg]
  have HGE := Lib.hid hg; clear hg
  obtain ⟨B, hB⟩ : ∃ B, B = w1.heap.size := ⟨_, rfl⟩
  have hA : AD w1 ((w1.alloc (.cells #[.slice none 0 0] 25)).alloc (.cells #[.int .i64 0, .int .i64 0, .int .i64 0, .int .i64 0, .int .i64 0] 27)) g B (.slice none 0 0) none 0 [] dz := by
    subst hB
    refine ⟨(hd.below ((Below.refl _ _).alloc (Nat.le_refl _) _)).below ((Below.refl _ _).alloc (Nat.le_refl _) _), (World.grownBy_alloc _ _ _).trans (World.grownBy_alloc _ _ _), World.ownsRow_nil _ _ _ _, ?_, ?_, .inl rfl, Nat.le_refl _, rfl, hlt⟩
    · rw [heap_alloc_old _ _ (by simp)]; exact heap_alloc_new _ _
    · change _ = some (Obj.cells #[.int .i64 0, .int .i64 0, .int .i64 0, .int .i64 0, .int .i64 0] 27 (0, 0))
      have := heap_alloc_new (w1.alloc (.cells #[.slice none 0 0] 25)) (.cells #[.int .i64 0, .int .i64 0, .int .i64 0, .int .i64 0, .int .i64 0] 27)
      simpa using this
  go_wp2_with fail
  rw [← hB]
  generalize (w1.alloc (.cells #[.slice none 0 0] 25)).alloc (.cells #[.int .i64 0, .int .i64 0, .int .i64 0, .int .i64 0, .int .i64 0] 27) = W at *
  obtain ⟨N, hN⟩ : ∃ N : Nat, y % 133 = N := Int.eq_ofNat_of_zero_le (by omega)
  have hN2 : N ≤ 132 := by omega
  rw [hN]
  have HA := Lib.hid hA
  clear hA hN hB hd hlt
  go_loopw [8, 22] (fun vv kv wr => ARel w1 g B N vv kv wr) (fun _ kv _ => N - (intOf kv).toNat)
  case atStart => exact ⟨0, _, none, 0, [], dz, rfl, rfl, Nat.zero_le _, HA.out, Good.nil, rfl, fun _ => rfl, by decide, by decide⟩
  case round =>
    clear HA
    obtain ⟨k, v, p, cc, l, x, rfl, rfl, hkN, hI, hgood, hlen, hlast, hday, hknown⟩ := hrel
    by_cases hk : k < N
    · have hsz := hI.size
      have e7 := hI.c7
      have f0 := cell_of_row wr (B + 1) 0 _ _ _ e7
      have f1 := cell_of_row wr (B + 1) 1 _ _ _ e7
      have f2 := cell_of_row wr (B + 1) 2 _ _ _ e7
      have f3 := cell_of_row wr (B + 1) 3 _ _ _ e7
      have f4 := cell_of_row wr (B + 1) 4 _ _ _ e7
      simp [cells5] at f0 f1 f2 f3 f4
      have cD := decision_any wr g x hI.dice ⟨hday.1, by omega⟩ ⟨hknown.1, by omega⟩
      have CD := Lib.hid cD; have HI := Lib.hid hI; have HLEN := Lib.hid hlen; have HLAST := Lib.hid hlast; have HD := Lib.hid hday; have HK := Lib.hid hknown
      clear e7 cD hI hlen hlast hday hknown hsz
      unfold Dec.val at CD
      go_wp2_with fail
      refine CD.out.mono ?_
      rintro e W2 ⟨d, rfl, q1, q2, q3, q4, q5, hd2, hg2⟩
      have hI2 := HI.out.threw hd2 hg2
      have e7 := hI2.c7
      have p0 := cell_of_row W2 (B + 1) 0 _ _ _ e7
      have p1 := cell_of_row W2 (B + 1) 1 _ _ _ e7
      have p2 := cell_of_row W2 (B + 1) 2 _ _ _ e7
      have p3 := cell_of_row W2 (B + 1) 3 _ _ _ e7
      have p4 := cell_of_row W2 (B + 1) 4 _ _ _ e7
      simp [cells5] at p0 p1 p2 p3 p4
      have pf : ∀ j, W2.frozen? ⟨B + 1, j, none⟩ = false := fun j => by simp [World.frozen?, e7]
      have hI3 := hI2.store d
      have HI3 := Lib.hid hI3
      have HQ := Lib.hid (And.intro q1 (And.intro q2 (And.intro q3 (And.intro q4 q5))))
      clear e7 f0 f1 f2 f3 f4 hI2 hI3 hd2 hg2 CD HI q1 q2 q3 q4 q5
      unfold Dec.val
      dsimp only
      refine ‹∀ (a : Act) (w : World), wpList Try.prog _ _ _ a w → _› _ _ ?_
      go_upto_region 11 with (fail)
      change Code.wp _ _ _ _ (resW W2 (B + 1) d.day d.known d.kind d.subj d.value)
      generalize resW W2 (B + 1) d.day d.known d.kind d.subj d.value = W3 at HI3
      clear p0 p1 p2 p3 p4 pf
      have e6 := HI3.out.c6
      have e7 := HI3.out.c7
      have r6 := cell_of_row _ B 0 _ _ _ e6
      have r0 := cell_of_row _ (B + 1) 0 _ _ _ e7
      have r1 := cell_of_row _ (B + 1) 1 _ _ _ e7
      have r2 := cell_of_row _ (B + 1) 2 _ _ _ e7
      have r3 := cell_of_row _ (B + 1) 3 _ _ _ e7
      have r4 := cell_of_row _ (B + 1) 4 _ _ _ e7
      simp [cells5] at r6 r0 r1 r2 r3 r4
      have hl128 : l.length ≤ 128 := by have := HLEN.out; omega
      have cA := add_any W3 (p := p) (c := cc) l d hgood hl128 HI3.out.rd.reads
      obtain ⟨aN, haN⟩ : ∃ aN, aN = addN l d := ⟨_, rfl⟩
      rw [← haN] at cA
      obtain ⟨L, hL⟩ : ∃ L, L = if aN = 0 then l ++ [d] else l := ⟨_, rfl⟩
      rw [← hL] at cA
      unfold Dec.val at cA
      have CA := Lib.hid cA; have HAN := Lib.hid haN; have HLL := Lib.hid hL
      clear e6 e7 cA haN hL
      go_wp2_with fail
      refine CA.out.mono ?_
      rintro e W4 ⟨v', rfl, hdv, hb4⟩
      have hI4 := HI3.out.below hb4
      obtain ⟨p', c', rfl, hc', hx'⟩ := hdv
      have hrd : Rd W4 W3.heap.size p' L := by
        rcases hx' with h | ⟨b, hp, h1, h2⟩
        · exact .inl h
        · rcases Nat.eq_zero_or_pos L.length with h0 | h0
          · exact .inl (List.length_eq_zero_iff.1 h0)
          · have hlt := World.block_lt_of_cell? W4 _ (h2 0 h0).1
            exact .inr ⟨b, 0, hp, h1, hlt, h2⟩
      have hsz3 := HI3.out.size
      have hs4 := hb4.size
      have hb5 : Below W4.heap.size W4 (W4.alloc (.cells #[.slice p' L.length c'] 25)) := (Below.refl _ _).alloc (Nat.le_refl _) _
      have hx5 : (W4.alloc (.cells #[.slice p' L.length c'] 25)).cell? ⟨W4.heap.size, 0, none⟩ = some (.slice p' L.length c') := by simp
      have hz5 : (W4.alloc (.cells #[.slice p' L.length c'] 25)).heap.size = W4.heap.size + 1 := by simp
      have hI5 := hI4.below hb5
      have hrd5 := hrd.keep hb5.size (fun k _ hk => hb5.block k hk)
      have hrow : ∀ q, v.ownBlock = some q → q < W3.heap.size := fun q hq => (HI3.out.own.lt q hq).2
      have HI5 := Lib.hid hI5; have HX5 := Lib.hid hx5; have HZ5 := Lib.hid hz5; have HRD := Lib.hid hrd5; have HS := Lib.hid (And.intro hsz3 hs4); have HO := Lib.hid hrow; have HC := Lib.hid hc'
      clear hb4 hI4 hx' hrd hsz3 hs4 hb5 hx5 hz5 hI5 hrd5 hrow hc' r6 r0 r1 r2 r3 r4 CA HI3
      go_upto_region 12 with (fail)
      generalize W4.alloc (.cells #[.slice p' L.length c'] 25) = W5 at *
      obtain ⟨X, hX⟩ : ∃ X, X = W4.heap.size := ⟨_, rfl⟩
      rw [← hX] at HX5 HZ5 HS
      rw [← hX]
      clear hX
      by_cases hfull : l.length = 128
      · have haN : aN = 3 := by rw [HAN.out]; unfold addN; rw [if_pos hfull]
        subst haN
        have hL : L = l := by rw [HLL.out, if_neg (by decide)]
        subst hL
        have hb128 : ((L.length : Int) == 128) = true := by rw [beq_iff_eq]; omega
        have cS := same_same W5 p' p c' cc L HRD.out.reads HI5.out.rd.reads (by omega)
        have CS := Lib.hid cS
        have hx := HX5.out
        have e6 := HI5.out.c6
        have r6 := cell_of_row _ B 0 _ _ _ e6
        simp at r6
        have hform : ∃ q cap, v = .slice q L.length cap := by
          rcases HI5.out.own.2 with ⟨hv, h0⟩ | ⟨q, cap, cur, hv, _⟩
          · omega
          · exact ⟨_, cap, hv⟩
        obtain ⟨q, cap, rfl⟩ := hform
        have HF := Lib.hid hfull
        clear cS e6 hfull
        go_wp2_with fail
        refine CS.out.mono ?_
        rintro e W6 ⟨rfl, hb6⟩
        have hI6 := HI5.out.below hb6
        have HI6 := Lib.hid hI6
        clear hI6 hb6 hx r6 CS
        go_wp2_with fail
        go_roundw
        case rel =>
          have h1 := HQ.out; have h2 := HD.out; have h3 := HK.out; have h4 := HLEN.out; have h5 := HF.out
          exact ⟨k + 1, _, p, cc, L, d, by go_num, rfl, by omega, HI6.out, hgood, by omega, fun h => by omega, ⟨by omega, by push_cast; omega⟩, ⟨by omega, by push_cast; omega⟩⟩
        case measure => simp [intOf]; omega
      · have hk128 : k < 128 := by have := HLEN.out; omega
        have hxl : x = l.getLastD dz := HLAST.out (by omega)
        have hq := HQ.out; have hdd := HD.out; have hkk := HK.out
        have hdo : d.ok = true := validB_mk ⟨⟨by omega, by omega⟩, ⟨by omega, by omega⟩, hq.2.2.1, ⟨hq.2.2.2.1.1, by omega⟩, hq.2.2.2.2⟩
        have haN : aN = 0 := by rw [HAN.out]; unfold addN; rw [if_neg hfull]; exact foll_good hdo (by rw [← hxl]; exact hq.1.1) (by rw [← hxl]; exact hq.2.1.1)
        subst haN
        have hL : L = l ++ [d] := by rw [HLL.out, if_pos rfl]
        subst hL
        have hb128 : ((l.length : Int) == 128) = false := by rw [beq_eq_false_iff_ne]; omega
        have hform : v = .slice none 0 0 ∨ ∃ q cap, v = .slice (some ⟨q, 0, none⟩) l.length cap := by
          rcases HI5.out.own.2 with ⟨hv, _⟩ | ⟨q, cap, cur, hv, _⟩
          · exact .inl hv
          · exact .inr ⟨q, cap, hv⟩
        have hlv : ∃ av nv cv, v = .slice av nv cv ∧ nv = l.length := by
          rcases HI5.out.own.2 with ⟨hv, h0⟩ | ⟨q, cap, cur, hv, _⟩
          · exact ⟨_, _, _, hv, h0.symm⟩
          · exact ⟨_, _, _, hv, rfl⟩
        obtain ⟨av, nv, cv, rfl, rfl⟩ := hlv
        have hlen2 : (l ++ [d]).length = l.length + 1 := by simp
        rw [hlen2] at HX5 HC
        have hx := HX5.out
        have e6 := HI5.out.c6
        have e7 := HI5.out.c7
        have r6 := cell_of_row _ B 0 _ _ _ e6
        have r0 := cell_of_row _ (B + 1) 0 _ _ _ e7
        have r1 := cell_of_row _ (B + 1) 1 _ _ _ e7
        have r2 := cell_of_row _ (B + 1) 2 _ _ _ e7
        have r3 := cell_of_row _ (B + 1) 3 _ _ _ e7
        have r4 := cell_of_row _ (B + 1) 4 _ _ _ e7
        simp [cells5] at r6 r0 r1 r2 r3 r4
        have HQ2 := Lib.hid hq; have HD2 := Lib.hid hdd; have HK2 := Lib.hid hkk; have HDO := Lib.hid hdo; have HXL := Lib.hid hxl; have HK128 := Lib.hid hk128
        clear e6 e7 hfull hform hk128 hxl hq hdd hkk hdo hlen2 HX5
        have hone : ∀ u ∈ cells5 d, u.oneCell' = true := by
          intro u hu
          simp only [cells5, List.mem_cons, List.not_mem_nil, or_false] at hu
          rcases hu with rfl | rfl | rfl | rfl | rfl <;> rfl
        have HONE := Lib.hid hone
        have hown3 : ∀ q, (Value.slice av l.length cv).ownBlock = some q → B + 2 ≤ q ∧ q < X := fun q hq => by
          have h1 := HI5.out.own.lt q hq; have h2 := HO.out q hq; have h3 := HS.out.2
          exact ⟨h1.1, by omega⟩
        have hnX : (Value.slice av l.length cv).ownBlock ≠ some X := fun e => by have := hown3 X e; omega
        have hnB : (Value.slice av l.length cv).ownBlock ≠ some B := fun e => by have := hown3 B e; omega
        have hnB1 : (Value.slice av l.length cv).ownBlock ≠ some (B + 1) := fun e => by have := hown3 (B + 1) e; omega
        have HN := Lib.hid (And.intro hnX (And.intro hnB hnB1)); have HOWN := Lib.hid hown3
        have HXB : Hid (B ≠ X ∧ True) := Lib.hid ⟨by have := HS.out; omega, trivial⟩
        clear hone hown3 hnX hnB hnB1
        go_upto_region 17 with (fail)
        refine wp_region_held_drew (S := fun W => W.cell? ⟨X, 0, none⟩ = some (.slice p' (l.length + 1) c') ∧ W.cell? ⟨B + 1, 0, none⟩ = some (.int .i64 d.day) ∧ W.cell? ⟨B + 1, 1, none⟩ = some (.int .i64 d.known) ∧ W.cell? ⟨B + 1, 2, none⟩ = some (.int .i64 d.kind) ∧ W.cell? ⟨B + 1, 3, none⟩ = some (.int .i64 d.subj) ∧ W.cell? ⟨B + 1, 4, none⟩ = some (.int .i64 d.value)) (by kernel_rfl) ⟨hx, r0, r1, r2, r3, r4⟩ (fun hHeld => ?_)
        refine wpAnyH_take (i := 0) (oi := ?oi1) (v := ?v1) ?h1 (by kernel_rfl) (by kernel_rfl) (by kernel_rfl) ?hq1 (Or.inl ⟨?hw1, ?hy1⟩) hHeld ?rest1
        case h1 => simp only [List.getElem?_toArray, List.getElem?_cons_zero]; rfl
        case hw1 => rfl
        case hy1 => intro w hSw; (try dsimp only at hSw); first | (go_simp; done) | (go_simp; with_reducible rfl)
        case hq1 => intro _ _ _ h; exact h
        try simp only [Act.put, List.setIfInBounds_toArray, List.set_cons_zero, List.set_cons_succ]
        refine wpAnyH_take (i := 1) (oi := ?oi2) (v := ?v2) ?h2 (by kernel_rfl) (by kernel_rfl) (by kernel_rfl) ?hq2 (Or.inl ⟨?hw2, ?hy2⟩) hHeld ?rest2
        case h2 => simp only [List.getElem?_toArray, List.getElem?_cons_succ, List.getElem?_cons_zero]; rfl
        case hw2 => rfl
        case hy2 => intro w hSw; (try dsimp only at hSw); first | (go_simp; done) | (go_simp; with_reducible rfl)
        case hq2 => intro _ _ _ h; exact h
        try simp only [Act.put, List.setIfInBounds_toArray, List.set_cons_zero, List.set_cons_succ]
        refine wpAnyH_take (i := 2) (oi := ?oi3) (v := ?v3) ?h3 (by kernel_rfl) (by kernel_rfl) (by kernel_rfl) ?hq3 (Or.inl ⟨?hw3, ?hy3⟩) hHeld ?rest3
        case h3 => simp only [List.getElem?_toArray, List.getElem?_cons_succ, List.getElem?_cons_zero]; rfl
        case hw3 => rfl
        case hy3 => intro w hSw; (try dsimp only at hSw); first | (go_simp; done) | (go_simp; with_reducible rfl)
        case hq3 => intro _ _ _ h; exact h
        try simp only [Act.put, List.setIfInBounds_toArray, List.set_cons_zero, List.set_cons_succ]
        refine wpAnyH_ready (rs := [3]) (by kernel_rfl) (by simp) ?_
        refine AllReadyH.cons (o := ?o4) ?h4 (fun K hK => ?step4) ?more4
        case h4 => simp only [List.getElem?_toArray, List.getElem?_cons_succ, List.getElem?_cons_zero]; rfl
        case step4 =>
          go_simp
          have hbA : Below W5.heap.size W5 ((W5.alloc (.cells #[.int .i64 d.day, .int .i64 d.known, .int .i64 d.kind, .int .i64 d.subj, .int .i64 d.value] 27)).drew) := ((Below.refl _ _).alloc (Nat.le_refl _) _).drew
          refine hK.out _ _ ⟨cell_later hbA hx, cell_later hbA r0, cell_later hbA r1, cell_later hbA r2, cell_later hbA r3, cell_later hbA r4⟩ (fun hHeld2 => ?_)
          clear hHeld hK K; have hHeld := hHeld2; clear hHeld2
          try simp only [Act.put, List.setIfInBounds_toArray, List.set_cons_zero, List.set_cons_succ]
          refine wpAnyH_ready (rs := [4]) (by kernel_rfl) (by simp) ?_
          refine AllReadyH.cons (o := ?o5) ?h5 (fun K hK => ?step5) ?more5
          case h5 => simp only [List.getElem?_toArray, List.getElem?_cons_succ, List.getElem?_cons_zero]; rfl
          case step5 =>
            refine step_append_lies _ (by rfl) _ _ _ (by rfl) (B + 2) 27 i0 _ 5 40 Try.underlying23 hi hz0 hz1 hz2 rfl (by omega) (.slice av l.length cv) l.length (flat l) (by rfl) ((HI5.out.own.alloc _).drew) ⟨W5.heap.size, 0, none⟩ 1 1 (cells5 d) (by rfl) (by rfl) (World.news_of_block (cs := (cells5 d).toArray) (t := 27) (fr := (0, 0)) (heap_alloc_new W5 _)) HONE.out (by omega) (by unfold maxLen; omega) (by omega) (by have := HI5.out.size; simp; omega) (W5.heap.size + 1) (by simp) ?_
            intro gg cap W6 hown6 hgrow _ _
            have hx6 := (hgrow.cell_far (a := ⟨X, 0, none⟩) (by have := HZ5.out; simp; omega) (Ne.symm HN.out.1)).trans hHeld.1
            have y0 := (hgrow.cell_far (a := ⟨B + 1, 0, none⟩) (by have := HI5.out.size; simp; omega) (Ne.symm HN.out.2.2)).trans hHeld.2.1
            have y1 := (hgrow.cell_far (a := ⟨B + 1, 1, none⟩) (by have := HI5.out.size; simp; omega) (Ne.symm HN.out.2.2)).trans hHeld.2.2.1
            have y2 := (hgrow.cell_far (a := ⟨B + 1, 2, none⟩) (by have := HI5.out.size; simp; omega) (Ne.symm HN.out.2.2)).trans hHeld.2.2.2.1
            have y3 := (hgrow.cell_far (a := ⟨B + 1, 3, none⟩) (by have := HI5.out.size; simp; omega) (Ne.symm HN.out.2.2)).trans hHeld.2.2.2.2.1
            have y4 := (hgrow.cell_far (a := ⟨B + 1, 4, none⟩) (by have := HI5.out.size; simp; omega) (Ne.symm HN.out.2.2)).trans hHeld.2.2.2.2.2
            have e6 : W6.heap[B]? = some (.cells #[.slice p l.length cc] 25 (0, 0)) := (hgrow.block B (by have := HI5.out.size; simp; omega) (Ne.symm HN.out.2.1)).trans ((heap_alloc_old W5 _ (by have := HI5.out.size; omega)).trans HI5.out.c6)
            have z6 : W6.cell? ⟨B, 0, none⟩ = some (.slice p l.length cc) := by rw [cell_of_row _ B 0 _ _ _ e6]; rfl
            have f6 : W6.frozen? ⟨B, 0, none⟩ = false := by simp [World.frozen?, e6]
            have hgr : W5.grownBy W6 (Value.slice av l.length cv).ownBlock := (World.grownBy_alloc W5 _ _).trans ⟨hgrow.os, hgrow.tape, hgrow.output, hgrow.size, hgrow.block⟩
            have HGR := Lib.hid hgr; have HOWN6 := Lib.hid hown6
            clear hgr hown6 hgrow e6
            refine hK.out _ _ ⟨hx6, y0, y1, y2, y3, y4⟩ (fun hHeld2 => ?_)
            clear hHeld hK K hx6 y0 y1 y2 y3 y4; have hHeld := hHeld2; clear hHeld2
            try simp only [Act.put, List.setIfInBounds_toArray, List.set_cons_zero, List.set_cons_succ]
            refine wpAnyH_ready (rs := [5]) (by kernel_rfl) (by simp) ?_
            refine AllReadyH.cons (o := ?o6) ?h6 (fun K hK => ?step6) ?more6
            case h6 => simp only [List.getElem?_toArray, List.getElem?_cons_succ, List.getElem?_cons_zero]; rfl
            case step6 =>
              go_simp
              refine hK.out _ _ ⟨(World.cell?_setCell_far _ _ _ _ (by simpa using HXB.out.1)).trans hHeld.1, (World.cell?_setCell_far _ _ _ _ (by simp)).trans hHeld.2.1, (World.cell?_setCell_far _ _ _ _ (by simp)).trans hHeld.2.2.1, (World.cell?_setCell_far _ _ _ _ (by simp)).trans hHeld.2.2.2.1, (World.cell?_setCell_far _ _ _ _ (by simp)).trans hHeld.2.2.2.2.1, (World.cell?_setCell_far _ _ _ _ (by simp)).trans hHeld.2.2.2.2.2⟩ (fun hHeld2 => ?_)
              clear hHeld hK K; have hHeld := hHeld2; clear hHeld2
              try simp only [Act.put, List.setIfInBounds_toArray, List.set_cons_zero, List.set_cons_succ]
              refine wpAnyH_take (i := 6) (oi := ?oi7) (v := ?v7) ?h7 (by kernel_rfl) (by kernel_rfl) (by kernel_rfl) ?hq7 (Or.inl ⟨?hw7, ?hy7⟩) hHeld ?rest7
              case h7 => simp only [List.getElem?_toArray, List.getElem?_cons_succ, List.getElem?_cons_zero]; rfl
              case hw7 => rfl
              case hy7 => intro w hSw; (try dsimp only at hSw); first | (go_simp; done) | (go_simp; with_reducible rfl)
              case hq7 => intro _ _ _ h; exact h
              try simp only [Act.put, List.setIfInBounds_toArray, List.set_cons_zero, List.set_cons_succ]
              refine wpAnyH_done (by kernel_rfl) ?_ _
              go_wp2_with fail
              go_roundw
              case rel =>
                have hne : ∀ b o, p' = some ⟨b, o, none⟩ → (Value.slice av l.length cv).ownBlock ≠ some b := fun b o hp e => by
                  rcases HRD.out with h | ⟨b', o', hp', h1, _, _⟩
                  · simp at h
                  · rw [hp] at hp'; injection hp' with hp'; injection hp' with hb; have := HO.out b e; omega
                have hAD := HI5.out.appended (d := d) HOWN6.out HGR.out (HRD.out.lower HS.out.1) hne HC.out rfl
                have h1 := HQ2.out; have h2 := HD2.out; have h3 := HK2.out; have h4 := HLEN.out
                exact ⟨k + 1, _, p', c', l ++ [d], d, by go_num, rfl, by omega, hAD, hgood.snoc HDO.out (by rw [← HXL.out]; exact h1.1.1) (by rw [← HXL.out]; exact h1.2.1.1), (by have := HK128.out; rw [List.length_append]; show l.length + 1 = _; omega), fun _ => by simp, ⟨by omega, by push_cast; omega⟩, ⟨by omega, by push_cast; omega⟩⟩
              case measure => simp [intOf]; omega
            exact AllReadyH.nil
          exact AllReadyH.nil
        exact AllReadyH.nil
    · have hl128 : l.length ≤ 128 := by omega
      obtain ⟨pv, cv, rfl, hcv, hxv⟩ := dv_of_own hI.own
      have hrv : Reads wr pv l := by
        rcases hxv with h | ⟨b, hp, _, h⟩
        · exact .inl h
        · exact .inr ⟨b, 0, hp, h⟩
      have cS := refsame_same wr p pv cc cv l hI.rd.reads hrv (by omega)
      have CS := Lib.hid cS; have HI := Lib.hid hI; have HG := Lib.hid hgood
      have e6 := hI.c6
      have r6 := cell_of_row _ B 0 _ _ _ e6
      simp at r6
      clear cS hI e6 hgood hcv hxv hrv hlen hlast hday hknown
      go_wp2_with fail
      refine CS.out.mono ?_
      rintro e W6 ⟨rfl, hb6⟩
      have hI6 := HI.out.below hb6
      have e6 := hI6.c6
      have q6 := cell_of_row _ B 0 _ _ _ e6
      simp at q6
      have cC := check_any W6 (p := p) (c := cc) l hl128 hI6.cap hI6.rd.reads
      rw [chk_good HG.out] at cC
      have CC := Lib.hid cC; have HI6 := Lib.hid hI6
      clear cC hI6 e6 r6 CS hb6
      go_wp2_with fail
      refine CC.out.mono ?_
      rintro e W7 ⟨rfl, hb7⟩
      have HB7 := Lib.hid hb7
      clear CC hb7 q6
      go_wp2_with fail
      refine (lawake_any _).mono ?_
      rintro e W8 ⟨rfl, hb8⟩
      go_wp2_with fail
      go_ret
      have hgr := HI6.out.grown
      rw [HGE.out] at hgr
      exact ⟨rfl, below_step (below_step (below_grown HB1.out hgr) HB7.out) hb8⟩

theorem ladds_any (w : World) (a : Option Addr) (n c : Nat) (y : Int) (hy : 0 ≤ y ∧ y ≤ 255) (hi : Ints w w.heap.size a n) :
    Calls Try.prog 6 #[.slice a n c, .int .u8 y] w fun e w' => e = .returned (.bool true) ∧ Below w.heap.size w w' := by
  cases h : decide (n ≤ 400)
  · exact ladds_heavy w a n c y h
  · exact ladds_light w a n c y hy h hi
end Go.Proofs.Ytogcpjkgliijmaa
