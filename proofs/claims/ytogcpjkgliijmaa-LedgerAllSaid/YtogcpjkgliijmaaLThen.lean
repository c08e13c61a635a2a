/- The walk of LedgerThen. -/
import Derived.Test.YtogcpjkgliijmaaDiffer
import Derived.Test.YtogcpjkgliijmaaLKnown
namespace Go.Proofs.Ytogcpjkgliijmaa
open Go.RowKit

theorem Good.take {l : List Dec} (h : Good l) (m : Nat) : Good (l.take m) := by
  refine ⟨fun i hi => ?_, fun i j hj hij => ?_⟩
  · have : i < l.length := by simp at hi; omega
    have e : (l.take m)[i] = l[i] := by simp
    rw [e]; exact h.1 i this
  · have : j < l.length := by simp at hj; omega
    have e1 : (l.take m)[i]'(by omega) = l[i] := by simp
    have e2 : (l.take m)[j] = l[j] := by simp
    rw [e1, e2]; exact h.2 i j this hij

theorem cutN_take {l : List Dec} (hg : Good l) (n n' : Int) (h : n ≤ n') : cutN (l.take (cutN l n)) n' = cutN l n := by
  have hle := cutN_le l n
  have hlen : (l.take (cutN l n)).length = cutN l n := by simp; omega
  have h1 := cutN_le (l.take (cutN l n)) n'
  rcases Nat.eq_zero_or_pos (cutN l n) with h0 | h0
  · omega
  · have h2 := (cutN_good (hg.take (cutN l n)) n' (cutN l n - 1) (by omega)).2 (by
      have e : (l.take (cutN l n))[cutN l n - 1]'(by omega) = l[cutN l n - 1] := by simp
      rw [e]
      have := (cutN_good hg n (cutN l n - 1) (by omega)).1 (by omega)
      omega)
    omega

theorem latestK_take {l : List Dec} (k s : Int) (m : Nat) (hm : m ≤ l.length) : ∀ j, j ≤ m → latestK (l.take m) k s j = latestK l k s j := by
  intro j
  induction j with
  | zero => intro _; rfl
  | succ j ih =>
    intro hj
    rw [latestK_succ (by simp; omega), latestK_succ (by omega), ih (by omega)]
    have e : (l.take m)[j]'(by simp; omega) = l[j] := by simp
    rw [e]

theorem knownK_take (l : List Dec) (m : Nat) : knownK (l.take m) m = knownK l m := by
  unfold knownK
  rw [List.take_take, Nat.min_self]

theorem latestK_day {l : List Dec} (hg : Good l) (k s n : Int) (d : Dec) (h : latestK l k s (cutN l n) = some d) : d.day ≤ n := by
  have key : ∀ j, j ≤ cutN l n → latestK l k s j = some d → d.day ≤ n := by
    intro j
    induction j with
    | zero => intro _ h; cases h
    | succ j ih =>
      intro hj hh
      have hle := cutN_le l n
      rw [latestK_succ (by omega)] at hh
      split at hh
      · injection hh with hh
        subst hh
        exact (cutN_good hg n j (by omega)).1 (by omega)
      · exact ih (by omega) hh
  exact key _ (Nat.le_refl _) h

set_option maxHeartbeats 1000000 in
theorem lthen_heavy (w : World) (a : Option Addr) (n c : Nat) (x : Int) (h : decide (n ≤ 400) = false) :
    Calls Try.prog 4 #[.slice a n c, .int .u8 x] w fun e w' => e = .returned (.bool true) ∧ Below w.heap.size w w' := by
  go_enter Try.func4, Try.ntmps4
  go_wp2_with fail
  refine (light_any a n c false _ h).mono ?_
  rintro e w1 ⟨rfl, rfl⟩
  go_wp2_with fail
  refine (lawake_any _).mono ?_
  rintro e w2 ⟨rfl, hb⟩
  go_wp2_with fail
  go_ret
  exact ⟨rfl, hb⟩

/-- The ledger and its beginning, in their boxes. -/
structure TS (w W : World) (A B : Nat) (p p3 : Option Addr) (q q3 : Nat) (l : List Dec) (m : Nat) : Prop where
  a : W.cell? ⟨A, 0, none⟩ = some (.slice p l.length q)
  b : W.cell? ⟨B, 0, none⟩ = some (.slice p3 m q3)
  ra : Reads W p l
  rb : Reads W p3 (l.take m)
  below : Below w.heap.size w W
theorem TS.mono {w W W' : World} {A B : Nat} {p p3 : Option Addr} {q q3 : Nat} {l : List Dec} {m : Nat} (h : TS w W A B p p3 q q3 l m) (hb : Below W.heap.size W W') : TS w W' A B p p3 q q3 l m :=
  ⟨cell_later hb h.a, cell_later hb h.b, h.ra.mono hb, h.rb.mono hb, below_step h.below hb⟩
theorem TS.drew {w W : World} {A B : Nat} {p p3 : Option Addr} {q q3 : Nat} {l : List Dec} {m : Nat} (h : TS w W A B p p3 q q3 l m) : TS w W.drew A B p p3 q q3 l m :=
  ⟨h.a, h.b, h.ra, h.rb, h.below.drew⟩

section
variable {w : World} {A B : Nat} {p p3 : Option Addr} {q q3 : Nat} {l : List Dec} {m : Nat}
theorem ts_known1 (hg : Good l) (hl : l.length ≤ 1000) (hq : l.length ≤ q) (n : Int) (hm : m = cutN l n) {K : Int} (hK : K = knownK l m) (W : World) (h : TS w W A B p p3 q q3 l m) :
    Calls Try.prog 30 #[.agg #[.slice p l.length q], .int .i64 n] W fun e w' => e = .returned (.int .i64 K) ∧ TS w w' A B p p3 q q3 l m := by
  subst hK; subst hm
  exact (known_any W n l hg hl hq h.ra).mono fun e w' ⟨he, hb⟩ => ⟨he, h.mono hb⟩
theorem ts_known2 (hg : Good l) (hl : l.length ≤ 1000) (hm2 : m ≤ l.length) (hq : m ≤ q3) (n n' : Int) (hn : n ≤ n') (hm : m = cutN l n) {K : Int} (hK : K = knownK l m) (W : World) (h : TS w W A B p p3 q q3 l m) :
    Calls Try.prog 30 #[.agg #[.slice p3 m q3], .int .i64 n'] W fun e w' => e = .returned (.int .i64 K) ∧ TS w w' A B p p3 q q3 l m := by
  have hlm : (l.take m).length = m := by simp; omega
  have c := known_any W (p := p3) (c := q3) n' (l.take m) (hg.take m) (by omega) (by omega) h.rb
  have hc : cutN (l.take m) n' = m := by rw [hm]; exact cutN_take hg n n' hn
  rw [hlm, hc, knownK_take, ← hK] at c
  exact c.mono fun e w' ⟨he, hb⟩ => ⟨he, h.mono hb⟩
theorem ts_then (hg : Good l) (hl : l.length ≤ 1000) (hm2 : m ≤ l.length) (hq : m ≤ q3) (n : Int) (hm : m = cutN l n) (W : World) (h : TS w W A B p p3 q q3 l m) :
    Calls Try.prog 32 #[.agg #[.slice p3 m q3], .int .i64 n] W fun e w' => ∃ p9 q9, e = .returned (.agg #[.slice p9 m q9]) ∧ Reads w' p9 (l.take m) ∧ TS w w' A B p p3 q q3 l m := by
  have hlm : (l.take m).length = m := by simp; omega
  have c := then_any W (p := p3) (c := q3) n (l.take m) (hg.take m) (by omega) (by omega) h.rb
  have hc : cutN (l.take m) n = m := by rw [hm]; exact cutN_take hg n n (Int.le_refl _)
  rw [hlm, hc, List.take_take, Nat.min_self] at c
  refine c.mono ?_
  rintro e w' ⟨p9, q9, he, _, hr, hb⟩
  rw [hlm] at he
  exact ⟨p9, q9, he, hr, h.mono hb⟩
theorem ts_same (hl : l.length ≤ 1000) (hm2 : m ≤ l.length) (p9 : Option Addr) (q9 : Nat) (W : World) (h : TS w W A B p p3 q q3 l m) (hr : Reads W p9 (l.take m)) :
    Calls Try.prog 24 #[.agg #[.slice p9 m q9], .agg #[.slice p3 m q3]] W fun e w' => e = .returned (.bool true) ∧ TS w w' A B p p3 q q3 l m := by
  have hlm : (l.take m).length = m := by simp; omega
  have c := same_same W p9 p3 q9 q3 (l.take m) hr h.rb (by omega)
  rw [hlm] at c
  exact c.mono fun e w' ⟨he, hb⟩ => ⟨he, h.mono hb⟩
theorem ts_awake (W : World) (h : TS w W A B p p3 q q3 l m) :
    Calls Try.prog 14 #[] W fun e w' => e = .returned (.bool true) ∧ TS w w' A B p p3 q q3 l m :=
  (lawake_any W).mono fun e w' ⟨he, hb⟩ => ⟨he, h.mono hb⟩
end

set_option maxRecDepth 100000 in
set_option maxHeartbeats 8000000 in
theorem lthen_light (w : World) (a : Option Addr) (n c : Nat) (x : Int) (hx : 0 ≤ x ∧ x ≤ 255) (h : decide (n ≤ 400) = true) (hi : Ints w w.heap.size a n) :
    Calls Try.prog 4 #[.slice a n c, .int .u8 x] w fun e w' => e = .returned (.bool true) ∧ Below w.heap.size w w' := by
  have h400 : n ≤ 400 := by simpa using h
  have cR := roll_any a n c w h400 hi
  have CR := Lib.hid cR; clear cR hi
  obtain ⟨hx0, hx1⟩ := hx
  go_enter Try.func4, Try.ntmps4
  go_wp2_with fail
  refine (light_any a n c true _ h).mono ?_
  rintro e w0 ⟨rfl, rfl⟩
  go_wp2_with fail
  refine CR.out.mono ?_
  rintro e w1 ⟨rfl, hd, hb1⟩
  go_wp2_with fail
  refine (ledger_any w1 _ 14 hd (by omega)).mono ?_
  rintro e w2 ⟨l, p, q, rfl, hg, hl, hq, hs, hxr, hd2, hg2⟩
  have hb2 := below_grown hb1 hg2
  have hr : Reads w2 p l := by
    rcases hxr with h | ⟨b, hp, _, h⟩
    · exact .inl h
    · exact .inr ⟨b, 0, hp, h⟩
  have hlx : l.length ≤ 1000 := by omega
  have hb2a : Below w2.heap.size w2 (w2.alloc (.cells #[.slice p l.length q] 25)) := (Below.refl _ _).alloc (Nat.le_refl _) _
  have cT := then_any (w2.alloc (.cells #[.slice p l.length q] 25)) (p := p) (c := q) (x % 20) l hg hlx hq (hr.mono hb2a)
  have hcut := cutN_le l (x % 20)
  obtain ⟨m, hm⟩ : ∃ m, m = cutN l (x % 20) := ⟨_, rfl⟩
  rw [← hm] at cT hcut
  have hlm : (l.take m).length = m := by simp; omega
  unfold ThenPost at cT
  rw [hlm] at cT
  have CT := Lib.hid cT; have HR := Lib.hid hr; have HB := Lib.hid hb2; have HG := Lib.hid hg; have HM := Lib.hid hm; have HLM := Lib.hid hlm; have HBA := Lib.hid hb2a
  clear hd hd2 hg2 hs hxr hb1 CR h h400 cT hr hb2 hg hm hlm hb2a
  go_wp2_with fail
  refine CT.out.mono ?_
  rintro e w3 ⟨p3, q3, rfl, hq3, hr3, hb3⟩
  obtain ⟨A, hA⟩ : ∃ A, A = w2.heap.size := ⟨_, rfl⟩
  have hTS : TS w0 (w3.alloc (.cells #[.slice p3 m q3] 25)) A w3.heap.size p p3 q q3 l m := by
    have ha3 : Below w3.heap.size w3 (w3.alloc (.cells #[.slice p3 m q3] 25)) := (Below.refl _ _).alloc (Nat.le_refl _) _
    have hbox : (w2.alloc (.cells #[.slice p l.length q] 25)).cell? ⟨A, 0, none⟩ = some (.slice p l.length q) := by rw [hA]; simp
    exact ⟨cell_later ha3 (cell_later hb3 hbox), by simp, ((HR.out.mono HBA.out).mono hb3).mono ha3, hr3.mono ha3, below_step (below_step (below_step HB.out HBA.out) hb3) ha3⟩
  rw [← hA]
  have HTS := Lib.hid hTS; have HA := Lib.hid hA
  clear hr3 hb3 CT hTS hA HR HB HBA
  obtain ⟨B, hB⟩ : ∃ B, B = w3.heap.size := ⟨_, rfl⟩
  go_upto_region 7 with (fail)
  rw [← hB] at HTS ⊢
  generalize w3.alloc (.cells #[.slice p3 m q3] 25) = W4 at HTS
  have HBE := Lib.hid hB; clear hB
  have hgt : Good (l.take m) := HG.out.take m
  have HGT := Lib.hid hgt; clear hgt
  have cK := check_any W4 (p := p3) (c := q3) (l.take m) (by rw [HLM.out]; omega) (by rw [HLM.out]; exact hq3) HTS.out.rb
  rw [HLM.out, chk_good HGT.out] at cK
  have ka := HTS.out.a
  have kb := HTS.out.b
  have CK := Lib.hid cK; clear cK
  have hlen : decide (l.length < m) = false := by rw [decide_eq_false_iff_not]; omega
  go_wp2_with fail
  refine CK.out.mono ?_
  rintro e W5 ⟨rfl, hb5⟩
  have hTS5 := HTS.out.mono hb5
  have ka := hTS5.a
  have kb := hTS5.b
  have HT5 := Lib.hid hTS5; clear hTS5 hb5 CK HTS
  go_wp2_with fail
  have hx20 : 0 ≤ x % 20 ∧ x % 20 ≤ 19 := by omega
  obtain ⟨hn0, hn1⟩ := hx20
  go_loopw [9] (fun kv wr => ∃ k : Nat, 1 ≤ k ∧ k ≤ 6 ∧ kv = .int .i64 k ∧ Below W5.heap.size W5 wr) (fun kv _ => 6 - (intOf kv).toNat)
  case atStart => exact ⟨1, by omega, by omega, rfl, Below.refl _ _⟩
  case round =>
    obtain ⟨k, hk1, hk2, rfl, hbk⟩ := hrel
    obtain ⟨wo, rfl⟩ : ∃ wo : World, wo = wr := ⟨_, rfl⟩
    by_cases hk5 : k ≤ 5
    · have HBK := Lib.hid hbk; clear hbk ka kb
      have hk5b : decide ((k : Int) ≤ 5) = true := by rw [decide_eq_true_eq]; omega
      go_wp2_with fail
      go_loopw [10] (fun sv wr => ∃ s : Nat, s ≤ 3 ∧ sv = .int .i64 s ∧ Below W5.heap.size W5 wr) (fun sv _ => 3 - (intOf sv).toNat)
      case atStart => exact ⟨0, by omega, rfl, HBK.out⟩
      case round =>
        obtain ⟨s, hs3, rfl, hbs⟩ := hrel
        by_cases hs2 : s < 3
        · have hT := HT5.out.mono hbs
          have cL := latest_any wr (p := p) (c := q) k s (x % 20) l HG.out hlx hq hT.ra
          rw [← HM.out] at cL
          obtain ⟨rr, hrr⟩ : ∃ rr, rr = latestK l k s m := ⟨_, rfl⟩
          rw [← hrr] at cL
          unfold LatestPost at cL
          have ka := hT.a
          have kb := hT.b
          have hszs := hbs.size
          have CL := Lib.hid cL; have HTW := Lib.hid hT; have HRR := Lib.hid hrr; have HBS := Lib.hid hbs
          clear cL hT hrr hbs
          go_wp2_with fail
          refine CL.out.mono ?_
          rintro e w7 ⟨rfl, hb7⟩
          have hT7 := HTW.out.mono hb7
          have hb57 := below_step HBS.out hb7
          have ka := hT7.a
          have kb := hT7.b
          have hBx7 := World.block_lt_of_cell? _ _ kb
          simp only at hBx7
          obtain ⟨rd, hrd⟩ : ∃ rd, rd = rr.getD dz := ⟨_, rfl⟩
          obtain ⟨rb, hrb⟩ : ∃ rb, rb = rr.isSome := ⟨_, rfl⟩
          rw [← hrd, ← hrb]
          have ha7 : Below w7.heap.size w7 (w7.alloc (.cells #[.int .i64 rd.day, .int .i64 rd.known, .int .i64 rd.kind, .int .i64 rd.subj, .int .i64 rd.value] 27)) := (Below.refl _ _).alloc (Nat.le_refl _) _
          have cL2 := latest_any (w7.alloc (.cells #[.int .i64 rd.day, .int .i64 rd.known, .int .i64 rd.kind, .int .i64 rd.subj, .int .i64 rd.value] 27)) (p := p3) (c := q3) k s (x % 20 + 100) (l.take m) HGT.out (by rw [HLM.out]; omega) (by rw [HLM.out]; exact hq3) (hT7.rb.mono ha7)
          have hct : cutN (l.take m) (x % 20 + 100) = m := by rw [HM.out]; exact cutN_take HG.out _ _ (by omega)
          rw [hct, latestK_take k s m hcut m (Nat.le_refl _), ← HRR.out, HLM.out] at cL2
          unfold LatestPost at cL2
          rw [← hrd, ← hrb] at cL2
          have hday : rb = true → rd.day ≤ x % 20 := by
            intro hh
            rw [hrb] at hh
            cases hrr2 : rr with
            | none => rw [hrr2] at hh; cases hh
            | some d0 =>
              rw [hrd, hrr2]
              exact latestK_day HG.out k s (x % 20) d0 (by rw [← HM.out, ← HRR.out, hrr2])
          have CL2 := Lib.hid cL2; have HT7 := Lib.hid hT7; have HB57 := Lib.hid hb57; have HRD := Lib.hid hrd; have HRB := Lib.hid hrb; have HDAY := Lib.hid hday; have HA7 := Lib.hid ha7
          have hsz7 := hb57.size
          clear cL2 hT7 hb57 hrd hrb hday hb7 CL HTW HBS hct ha7
          unfold Dec.val at CL2 ⊢
          go_wp2_with fail
          refine CL2.out.mono ?_
          rintro e w8 ⟨rfl, hb8⟩
          have c7 := fun i => hb8.cell (p := ⟨w7.heap.size, i, none⟩) (by simp)
          have u0 : w8.cell? ⟨w7.heap.size, 0, none⟩ = some (.int .i64 rd.day) := by rw [c7]; simp
          have u1 : w8.cell? ⟨w7.heap.size, 1, none⟩ = some (.int .i64 rd.known) := by rw [c7]; simp
          have u2 : w8.cell? ⟨w7.heap.size, 2, none⟩ = some (.int .i64 rd.kind) := by rw [c7]; simp
          have u3 : w8.cell? ⟨w7.heap.size, 3, none⟩ = some (.int .i64 rd.subj) := by rw [c7]; simp
          have u4 : w8.cell? ⟨w7.heap.size, 4, none⟩ = some (.int .i64 rd.value) := by rw [c7]; simp
          have hsz8 : w7.heap.size < w8.heap.size := by have := hb8.size; simp at this; omega
          have hb58 := below_step (below_step HB57.out HA7.out) hb8
          have HB58 := Lib.hid hb58
          have hszf := hb58.size
          clear hb58 hb8 c7 CL2 HT7 HB57 HA7 ka kb
          have hbn : (rb != rb) = false := by simp
          cases rb
          · go_wp2_with fail
            go_roundw
            case rel => exact ⟨s + 1, by omega, by go_num, HB58.out.alloc hszf _⟩
            case measure => simp [intOf]; omega
          · have hdb : decide (x % 20 < rd.day) = false := by rw [decide_eq_false_iff_not]; have := HDAY.out rfl; omega
            go_wp2_with fail
            go_roundw
            case rel => exact ⟨s + 1, by omega, by go_num, HB58.out.alloc hszf _⟩
            case measure => simp [intOf]; omega
        · have HBS := Lib.hid hbs; clear hbs
          go_wp2_with fail
          go_roundw
          case rel => exact ⟨k + 1, by omega, by omega, by go_num, HBS.out⟩
          case measure => simp [intOf]; omega
    · have hT := HT5.out.mono hbk
      have HTE := Lib.hid hT; clear hT hbk ka kb HT5
      obtain rfl : k = 6 := by omega
      have cD := differ_any wo p3 p q3 q m l HTE.out.rb HTE.out.ra hcut hlx rfl rfl
      have ka := HTE.out.a
      have kb := HTE.out.b
      have CD := Lib.hid cD; clear cD
      go_upto_region 19 with (fail)
      by_cases hml : m = l.length
      · have hmf : decide (m < l.length) = false := by rw [decide_eq_false_iff_not]; omega
        rw [if_pos hml, hmf] at CD
        have HML := Lib.hid hml; clear hml hmf
        go_wp2_with fail
        refine CD.out.mono ?_
        rintro e W9 ⟨rfl, hb9⟩
        have hT9 := HTE.out.mono hb9
        clear CD HTE hb9 ka kb
        have hTd := hT9.drew
        have ka : W9.cell? ⟨A, 0, none⟩ = some (.slice p l.length q) := hT9.a
        have kb : W9.cell? ⟨B, 0, none⟩ = some (.slice p3 m q3) := hT9.b
        obtain ⟨K, hK⟩ : ∃ K, K = knownK l m := ⟨_, rfl⟩
        have C1 := Lib.hid (ts_known1 (w := w0) (A := A) (B := B) (p := p) (p3 := p3) (q3 := q3) HG.out hlx hq (x % 20) HM.out hK)
        have C2 := Lib.hid (ts_known2 (w := w0) (A := A) (B := B) (p := p) (p3 := p3) (q := q) HG.out hlx hcut hq3 (x % 20) 40000 (by omega) HM.out hK)
        have C3 := Lib.hid (ts_then (w := w0) (A := A) (B := B) (p := p) (p3 := p3) (q := q) HG.out hlx hcut hq3 (x % 20) HM.out)
        have C4 := Lib.hid (ts_same (w := w0) (A := A) (B := B) (p := p) (p3 := p3) (q := q) (q3 := q3) (l := l) hlx hcut)
        have C5 := Lib.hid (ts_awake (w := w0) (A := A) (B := B) (p := p) (p3 := p3) (q := q) (q3 := q3) (l := l) (m := m))
        have hKK : (K == K) = true := by simp
        have hlss : decide (m < l.length) = false := by rw [decide_eq_false_iff_not]; have := HML.out; omega
        clear hK
        go_upto_region 20 with (fail)
        have hT := hTd; clear hTd
        refine wp_region_held_drew (S := fun W => W.cell? ⟨A, 0, none⟩ = some (.slice p l.length q) ∧ W.cell? ⟨B, 0, none⟩ = some (.slice p3 m q3)) (by kernel_rfl) ⟨hT.a, hT.b⟩ (fun hHeld => ?_)
        refine wpAnyH_take (i := 0) (oi := ?oi1) (v := ?v1) ?h1 (by kernel_rfl) (by kernel_rfl) (by kernel_rfl) ?hq1 (Or.inl ⟨?hw1, ?hy1⟩) hHeld ?rest1
        case h1 => simp only [List.getElem?_toArray, List.getElem?_cons_succ, List.getElem?_cons_zero]; rfl
        case hw1 => rfl
        case hy1 => intro w hSw; (try dsimp only at hSw); first | (go_simp; done) | (go_simp; with_reducible rfl)
        case hq1 => intro _ _ _ h; exact h
        try simp only [Act.put, List.setIfInBounds_toArray, List.set_cons_zero, List.set_cons_succ]
        refine wpAnyH_take (i := 1) (oi := ?oi2) (v := ?v2) ?h2 (by kernel_rfl) (by kernel_rfl) (by kernel_rfl) ?hq2 (Or.inl ⟨?hw2, ?hy2⟩) hHeld ?rest2
        case h2 => simp only [List.getElem?_toArray, List.getElem?_cons_succ, List.getElem?_cons_zero]; rfl
        case hw2 => rfl
        case hy2 => intro w hSw; (try dsimp only at hSw); first | (go_simp; done) | (go_simp; with_reducible rfl)
        case hq2 => intro _ _ _ h; exact h
        try simp only [Act.put, List.setIfInBounds_toArray, List.set_cons_zero, List.set_cons_succ]
        refine wpAnyH_take (i := 3) (oi := ?oi3) (v := ?v3) ?h3 (by kernel_rfl) (by kernel_rfl) (by kernel_rfl) ?hq3 (Or.inl ⟨?hw3, ?hy3⟩) hHeld ?rest3
        case h3 => simp only [List.getElem?_toArray, List.getElem?_cons_succ, List.getElem?_cons_zero]; rfl
        case hw3 => rfl
        case hy3 => intro w hSw; (try dsimp only at hSw); first | (go_simp; done) | (go_simp; with_reducible rfl)
        case hq3 => intro _ _ _ h; exact h
        try simp only [Act.put, List.setIfInBounds_toArray, List.set_cons_zero, List.set_cons_succ]
        refine wpAnyH_ready (rs := [2]) (by kernel_rfl) (by simp) ?_
        refine AllReadyH.cons (o := ?o4) ?h4 (fun K hK => ?step4) ?more4
        case h4 => simp only [List.getElem?_toArray, List.getElem?_cons_succ, List.getElem?_cons_zero]; rfl
        case step4 =>
          go_simp
          go_at_call_of 30 (Value.agg #[Value.slice p l.length q]); refine (C1.out _ hT).mono ?_; rintro e w' ⟨rfl, hT'⟩; clear hT; have hT := hT'; clear hT'
          refine hK.out _ _ ⟨hT.a, hT.b⟩ (fun hHeld2 => ?_)
          clear hHeld hK K; have hHeld := hHeld2; clear hHeld2
          try simp only [Act.put, List.setIfInBounds_toArray, List.set_cons_zero, List.set_cons_succ]
          refine wpAnyH_ready (rs := [4]) (by kernel_rfl) (by simp) ?_
          refine AllReadyH.cons (o := ?o5) ?h5 (fun K hK => ?step5) ?more5
          case h5 => simp only [List.getElem?_toArray, List.getElem?_cons_succ, List.getElem?_cons_zero]; rfl
          case step5 =>
            go_simp
            go_at_call_of 30 (Value.agg #[Value.slice p3 m q3]); refine (C2.out _ hT).mono ?_; rintro e w' ⟨rfl, hT'⟩; clear hT; have hT := hT'; clear hT'
            refine hK.out _ _ ⟨hT.a, hT.b⟩ (fun hHeld2 => ?_)
            clear hHeld hK K; have hHeld := hHeld2; clear hHeld2
            try simp only [Act.put, List.setIfInBounds_toArray, List.set_cons_zero, List.set_cons_succ]
            refine wpAnyH_take (i := 5) (oi := ?oi6) (v := ?v6) ?h6 (by kernel_rfl) (by kernel_rfl) (by kernel_rfl) ?hq6 (Or.inl ⟨?hw6, ?hy6⟩) hHeld ?rest6
            case h6 => simp only [List.getElem?_toArray, List.getElem?_cons_succ, List.getElem?_cons_zero]; rfl
            case hw6 => rfl
            case hy6 => intro w hSw; (try dsimp only at hSw); first | (go_simp; done) | (go_simp; with_reducible rfl)
            case hq6 => intro _ _ _ h; exact h
            try simp only [Act.put, List.setIfInBounds_toArray, List.set_cons_zero, List.set_cons_succ]
            refine wpAnyH_take (i := 6) (oi := ?oi7) (v := ?v7) ?h7 (by kernel_rfl) (by kernel_rfl) (by kernel_rfl) ?hq7 (Or.inl ⟨?hw7, ?hy7⟩) hHeld ?rest7
            case h7 => simp only [List.getElem?_toArray, List.getElem?_cons_succ, List.getElem?_cons_zero]; rfl
            case hw7 => rfl
            case hy7 => intro w hSw; (try dsimp only at hSw); first | (go_simp; done) | (go_simp; with_reducible rfl)
            case hq7 => intro _ _ _ h; exact h
            try simp only [Act.put, List.setIfInBounds_toArray, List.set_cons_zero, List.set_cons_succ]
            refine wpAnyH_take (i := 7) (oi := ?oi8) (v := ?v8) ?h8 (by kernel_rfl) (by kernel_rfl) (by kernel_rfl) ?hq8 (Or.inl ⟨?hw8, ?hy8⟩) hHeld ?rest8
            case h8 => simp only [List.getElem?_toArray, List.getElem?_cons_succ, List.getElem?_cons_zero]; rfl
            case hw8 => rfl
            case hy8 => intro w hSw; (try dsimp only at hSw); first | (go_simp; done) | (go_simp; with_reducible rfl)
            case hq8 => intro _ _ _ h; exact h
            try simp only [Act.put, List.setIfInBounds_toArray, List.set_cons_zero, List.set_cons_succ]
            refine wpAnyH_take (i := 8) (oi := ?oi9) (v := ?v9) ?h9 (by kernel_rfl) (by kernel_rfl) (by kernel_rfl) ?hq9 (Or.inl ⟨?hw9, ?hy9⟩) hHeld ?rest9
            case h9 => simp only [List.getElem?_toArray, List.getElem?_cons_succ, List.getElem?_cons_zero]; rfl
            case hw9 => rfl
            case hy9 => intro w hSw; (try dsimp only at hSw); first | (go_simp; done) | (go_simp; with_reducible rfl)
            case hq9 => intro _ _ _ h; exact h
            try simp only [Act.put, List.setIfInBounds_toArray, List.set_cons_zero, List.set_cons_succ]
            refine wpAnyH_take (i := 9) (oi := ?oi10) (v := ?v10) ?h10 (by kernel_rfl) (by kernel_rfl) (by kernel_rfl) ?hq10 (Or.inl ⟨?hw10, ?hy10⟩) hHeld ?rest10
            case h10 => simp only [List.getElem?_toArray, List.getElem?_cons_succ, List.getElem?_cons_zero]; rfl
            case hw10 => rfl
            case hy10 => intro w hSw; (try dsimp only at hSw); first | (go_simp; done) | (go_simp; with_reducible rfl)
            case hq10 => intro _ _ _ h; exact h
            try simp only [Act.put, List.setIfInBounds_toArray, List.set_cons_zero, List.set_cons_succ]
            refine wpAnyH_take (i := 10) (oi := ?oi11) (v := ?v11) ?h11 (by kernel_rfl) (by kernel_rfl) (by kernel_rfl) ?hq11 (Or.inl ⟨?hw11, ?hy11⟩) hHeld ?rest11
            case h11 => simp only [List.getElem?_toArray, List.getElem?_cons_succ, List.getElem?_cons_zero]; rfl
            case hw11 => rfl
            case hy11 => intro w hSw; (try dsimp only at hSw); first | (go_simp; done) | (go_simp; with_reducible rfl)
            case hq11 => intro _ _ _ h; exact h
            try simp only [Act.put, List.setIfInBounds_toArray, List.set_cons_zero, List.set_cons_succ]
            refine wpAnyH_take (i := 11) (oi := ?oi12) (v := ?v12) ?h12 (by kernel_rfl) (by kernel_rfl) (by kernel_rfl) ?hq12 (Or.inl ⟨?hw12, ?hy12⟩) hHeld ?rest12
            case h12 => simp only [List.getElem?_toArray, List.getElem?_cons_succ, List.getElem?_cons_zero]; rfl
            case hw12 => rfl
            case hy12 => intro w hSw; (try dsimp only at hSw); first | (go_simp; done) | (go_simp; with_reducible rfl)
            case hq12 => intro _ _ _ h; exact h
            try simp only [Act.put, List.setIfInBounds_toArray, List.set_cons_zero, List.set_cons_succ]
            refine wpAnyH_take (i := 12) (oi := ?oi13) (v := ?v13) ?h13 (by kernel_rfl) (by kernel_rfl) (by kernel_rfl) ?hq13 (Or.inl ⟨?hw13, ?hy13⟩) hHeld ?rest13
            case h13 => simp only [List.getElem?_toArray, List.getElem?_cons_succ, List.getElem?_cons_zero]; rfl
            case hw13 => rfl
            case hy13 => intro w hSw; (try dsimp only at hSw); first | (go_simp; done) | (go_simp; with_reducible rfl)
            case hq13 => intro _ _ _ h; exact h
            try simp only [Act.put, List.setIfInBounds_toArray, List.set_cons_zero, List.set_cons_succ]
            refine wpAnyH_take (i := 13) (oi := ?oi14) (v := ?v14) ?h14 (by kernel_rfl) (by kernel_rfl) (by kernel_rfl) ?hq14 (Or.inl ⟨?hw14, ?hy14⟩) hHeld ?rest14
            case h14 => simp only [List.getElem?_toArray, List.getElem?_cons_succ, List.getElem?_cons_zero]; rfl
            case hw14 => rfl
            case hy14 => intro w hSw; (try dsimp only at hSw); first | (go_simp; done) | (go_simp; with_reducible rfl)
            case hq14 => intro _ _ _ h; exact h
            try simp only [Act.put, List.setIfInBounds_toArray, List.set_cons_zero, List.set_cons_succ]
            refine wpAnyH_take (i := 14) (oi := ?oi15) (v := ?v15) ?h15 (by kernel_rfl) (by kernel_rfl) (by kernel_rfl) ?hq15 (Or.inl ⟨?hw15, ?hy15⟩) hHeld ?rest15
            case h15 => simp only [List.getElem?_toArray, List.getElem?_cons_succ, List.getElem?_cons_zero]; rfl
            case hw15 => rfl
            case hy15 => intro w hSw; (try dsimp only at hSw); first | (go_simp; done) | (go_simp; with_reducible rfl)
            case hq15 => intro _ _ _ h; exact h
            try simp only [Act.put, List.setIfInBounds_toArray, List.set_cons_zero, List.set_cons_succ]
            refine wpAnyH_take (i := 15) (oi := ?oi16) (v := ?v16) ?h16 (by kernel_rfl) (by kernel_rfl) (by kernel_rfl) ?hq16 (Or.inl ⟨?hw16, ?hy16⟩) hHeld ?rest16
            case h16 => simp only [List.getElem?_toArray, List.getElem?_cons_succ, List.getElem?_cons_zero]; rfl
            case hw16 => rfl
            case hy16 => intro w hSw; (try dsimp only at hSw); first | (go_simp; done) | (go_simp; with_reducible rfl)
            case hq16 => intro _ _ _ h; exact h
            try simp only [Act.put, List.setIfInBounds_toArray, List.set_cons_zero, List.set_cons_succ]
            refine wpAnyH_take (i := 16) (oi := ?oi17) (v := ?v17) ?h17 (by kernel_rfl) (by kernel_rfl) (by kernel_rfl) ?hq17 (Or.inl ⟨?hw17, ?hy17⟩) hHeld ?rest17
            case h17 => simp only [List.getElem?_toArray, List.getElem?_cons_succ, List.getElem?_cons_zero]; rfl
            case hw17 => rfl
            case hy17 => intro w hSw; (try dsimp only at hSw); first | (go_simp; done) | (go_simp; with_reducible rfl)
            case hq17 => intro _ _ _ h; exact h
            try simp only [Act.put, List.setIfInBounds_toArray, List.set_cons_zero, List.set_cons_succ]
            refine wpAnyH_take (i := 17) (oi := ?oi18) (v := ?v18) ?h18 (by kernel_rfl) (by kernel_rfl) (by kernel_rfl) ?hq18 (Or.inl ⟨?hw18, ?hy18⟩) hHeld ?rest18
            case h18 => simp only [List.getElem?_toArray, List.getElem?_cons_succ, List.getElem?_cons_zero]; rfl
            case hw18 => rfl
            case hy18 => intro w hSw; (try dsimp only at hSw); first | (go_simp; done) | (go_simp; with_reducible rfl)
            case hq18 => intro _ _ _ h; exact h
            try simp only [Act.put, List.setIfInBounds_toArray, List.set_cons_zero, List.set_cons_succ]
            refine wpAnyH_take (i := 18) (oi := ?oi19) (v := ?v19) ?h19 (by kernel_rfl) (by kernel_rfl) (by kernel_rfl) ?hq19 (Or.inl ⟨?hw19, ?hy19⟩) hHeld ?rest19
            case h19 => simp only [List.getElem?_toArray, List.getElem?_cons_succ, List.getElem?_cons_zero]; rfl
            case hw19 => rfl
            case hy19 => intro w hSw; (try dsimp only at hSw); first | (go_simp; done) | (go_simp; with_reducible rfl)
            case hq19 => intro _ _ _ h; exact h
            try simp only [Act.put, List.setIfInBounds_toArray, List.set_cons_zero, List.set_cons_succ]
            refine wpAnyH_take (i := 19) (oi := ?oi20) (v := ?v20) ?h20 (by kernel_rfl) (by kernel_rfl) (by kernel_rfl) ?hq20 (Or.inl ⟨?hw20, ?hy20⟩) hHeld ?rest20
            case h20 => simp only [List.getElem?_toArray, List.getElem?_cons_succ, List.getElem?_cons_zero]; rfl
            case hw20 => rfl
            case hy20 => intro w hSw; (try dsimp only at hSw); first | (go_simp; done) | (go_simp; with_reducible rfl)
            case hq20 => intro _ _ _ h; exact h
            try simp only [Act.put, List.setIfInBounds_toArray, List.set_cons_zero, List.set_cons_succ]
            refine wpAnyH_take (i := 20) (oi := ?oi21) (v := ?v21) ?h21 (by kernel_rfl) (by kernel_rfl) (by kernel_rfl) ?hq21 (Or.inl ⟨?hw21, ?hy21⟩) hHeld ?rest21
            case h21 => simp only [List.getElem?_toArray, List.getElem?_cons_succ, List.getElem?_cons_zero]; rfl
            case hw21 => rfl
            case hy21 => intro w hSw; (try dsimp only at hSw); first | (go_simp; done) | (go_simp; with_reducible rfl)
            case hq21 => intro _ _ _ h; exact h
            try simp only [Act.put, List.setIfInBounds_toArray, List.set_cons_zero, List.set_cons_succ]
            refine wpAnyH_take (i := 21) (oi := ?oi22) (v := undef) ?h22 (by kernel_rfl) (by kernel_rfl) (by kernel_rfl) ?hq22 (Or.inr ⟨?hw22, ?hy22⟩) hHeld ?rest22
            case h22 => simp only [List.getElem?_toArray, List.getElem?_cons_succ, List.getElem?_cons_zero]; rfl
            case hw22 => rfl
            case hy22 => rfl
            case hq22 => intro _ _ _ h; exact h
            try simp only [Act.put, List.setIfInBounds_toArray, List.set_cons_zero, List.set_cons_succ]
            refine wpAnyH_take (i := 22) (oi := ?oi23) (v := undef) ?h23 (by kernel_rfl) (by kernel_rfl) (by kernel_rfl) ?hq23 (Or.inr ⟨?hw23, ?hy23⟩) hHeld ?rest23
            case h23 => simp only [List.getElem?_toArray, List.getElem?_cons_succ, List.getElem?_cons_zero]; rfl
            case hw23 => rfl
            case hy23 => rfl
            case hq23 => intro _ _ _ h; exact h
            try simp only [Act.put, List.setIfInBounds_toArray, List.set_cons_zero, List.set_cons_succ]
            refine wpAnyH_take (i := 23) (oi := ?oi24) (v := undef) ?h24 (by kernel_rfl) (by kernel_rfl) (by kernel_rfl) ?hq24 (Or.inr ⟨?hw24, ?hy24⟩) hHeld ?rest24
            case h24 => simp only [List.getElem?_toArray, List.getElem?_cons_succ, List.getElem?_cons_zero]; rfl
            case hw24 => rfl
            case hy24 => rfl
            case hq24 => intro _ _ _ h; exact h
            try simp only [Act.put, List.setIfInBounds_toArray, List.set_cons_zero, List.set_cons_succ]
            refine wpAnyH_take (i := 24) (oi := ?oi25) (v := undef) ?h25 (by kernel_rfl) (by kernel_rfl) (by kernel_rfl) ?hq25 (Or.inr ⟨?hw25, ?hy25⟩) hHeld ?rest25
            case h25 => simp only [List.getElem?_toArray, List.getElem?_cons_succ, List.getElem?_cons_zero]; rfl
            case hw25 => rfl
            case hy25 => rfl
            case hq25 => intro _ _ _ h; exact h
            try simp only [Act.put, List.setIfInBounds_toArray, List.set_cons_zero, List.set_cons_succ]
            refine wpAnyH_take (i := 25) (oi := ?oi26) (v := undef) ?h26 (by kernel_rfl) (by kernel_rfl) (by kernel_rfl) ?hq26 (Or.inr ⟨?hw26, ?hy26⟩) hHeld ?rest26
            case h26 => simp only [List.getElem?_toArray, List.getElem?_cons_succ, List.getElem?_cons_zero]; rfl
            case hw26 => rfl
            case hy26 => rfl
            case hq26 => intro _ _ _ h; exact h
            try simp only [Act.put, List.setIfInBounds_toArray, List.set_cons_zero, List.set_cons_succ]
            refine wpAnyH_take (i := 26) (oi := ?oi27) (v := ?v27) ?h27 (by kernel_rfl) (by kernel_rfl) (by kernel_rfl) ?hq27 (Or.inl ⟨?hw27, ?hy27⟩) hHeld ?rest27
            case h27 => simp only [List.getElem?_toArray, List.getElem?_cons_succ, List.getElem?_cons_zero]; rfl
            case hw27 => rfl
            case hy27 => intro w hSw; (try dsimp only at hSw); first | (go_simp; done) | (go_simp; with_reducible rfl)
            case hq27 => intro _ _ _ h; exact h
            try simp only [Act.put, List.setIfInBounds_toArray, List.set_cons_zero, List.set_cons_succ]
            refine wpAnyH_take (i := 27) (oi := ?oi28) (v := ?v28) ?h28 (by kernel_rfl) (by kernel_rfl) (by kernel_rfl) ?hq28 (Or.inl ⟨?hw28, ?hy28⟩) hHeld ?rest28
            case h28 => simp only [List.getElem?_toArray, List.getElem?_cons_succ, List.getElem?_cons_zero]; rfl
            case hw28 => rfl
            case hy28 => intro w hSw; (try dsimp only at hSw); first | (go_simp; done) | (go_simp; with_reducible rfl)
            case hq28 => intro _ _ _ h; exact h
            try simp only [Act.put, List.setIfInBounds_toArray, List.set_cons_zero, List.set_cons_succ]
            refine wpAnyH_take (i := 28) (oi := ?oi29) (v := ?v29) ?h29 (by kernel_rfl) (by kernel_rfl) (by kernel_rfl) ?hq29 (Or.inl ⟨?hw29, ?hy29⟩) hHeld ?rest29
            case h29 => simp only [List.getElem?_toArray, List.getElem?_cons_succ, List.getElem?_cons_zero]; rfl
            case hw29 => rfl
            case hy29 => intro w hSw; (try dsimp only at hSw); first | (go_simp; done) | (go_simp; with_reducible rfl)
            case hq29 => intro _ _ _ h; exact h
            try simp only [Act.put, List.setIfInBounds_toArray, List.set_cons_zero, List.set_cons_succ]
            refine wpAnyH_take (i := 29) (oi := ?oi30) (v := ?v30) ?h30 (by kernel_rfl) (by kernel_rfl) (by kernel_rfl) ?hq30 (Or.inl ⟨?hw30, ?hy30⟩) hHeld ?rest30
            case h30 => simp only [List.getElem?_toArray, List.getElem?_cons_succ, List.getElem?_cons_zero]; rfl
            case hw30 => rfl
            case hy30 => intro w hSw; (try dsimp only at hSw); first | (go_simp; done) | (go_simp; with_reducible rfl)
            case hq30 => intro _ _ _ h; exact h
            try simp only [Act.put, List.setIfInBounds_toArray, List.set_cons_zero, List.set_cons_succ]
            refine wpAnyH_take (i := 30) (oi := ?oi31) (v := ?v31) ?h31 (by kernel_rfl) (by kernel_rfl) (by kernel_rfl) ?hq31 (Or.inl ⟨?hw31, ?hy31⟩) hHeld ?rest31
            case h31 => simp only [List.getElem?_toArray, List.getElem?_cons_succ, List.getElem?_cons_zero]; rfl
            case hw31 => rfl
            case hy31 => intro w hSw; (try dsimp only at hSw); first | (go_simp; done) | (go_simp; with_reducible rfl)
            case hq31 => intro _ _ _ h; exact h
            try simp only [Act.put, List.setIfInBounds_toArray, List.set_cons_zero, List.set_cons_succ]
            refine wpAnyH_take (i := 32) (oi := ?oi32) (v := ?v32) ?h32 (by kernel_rfl) (by kernel_rfl) (by kernel_rfl) ?hq32 (Or.inl ⟨?hw32, ?hy32⟩) hHeld ?rest32
            case h32 => simp only [List.getElem?_toArray, List.getElem?_cons_succ, List.getElem?_cons_zero]; rfl
            case hw32 => rfl
            case hy32 => intro w hSw; (try dsimp only at hSw); first | (go_simp; done) | (go_simp; with_reducible rfl)
            case hq32 => intro _ _ _ h; exact h
            try simp only [Act.put, List.setIfInBounds_toArray, List.set_cons_zero, List.set_cons_succ]
            refine wpAnyH_ready (rs := [31]) (by kernel_rfl) (by simp) ?_
            refine AllReadyH.cons (o := ?o33) ?h33 (fun K hK => ?step33) ?more33
            case h33 => simp only [List.getElem?_toArray, List.getElem?_cons_succ, List.getElem?_cons_zero]; rfl
            case step33 =>
              go_simp
              go_at_call 32; refine (C3.out _ hT).mono ?_; rintro e w' ⟨p9, q9, rfl, hr9, hT'⟩; clear hT; have hT := hT'; clear hT'
              refine hK.out _ _ ⟨hT.a, hT.b⟩ (fun hHeld2 => ?_)
              clear hHeld hK K; have hHeld := hHeld2; clear hHeld2
              try simp only [Act.put, List.setIfInBounds_toArray, List.set_cons_zero, List.set_cons_succ]
              refine wpAnyH_ready (rs := [33]) (by kernel_rfl) (by simp) ?_
              refine AllReadyH.cons (o := ?o34) ?h34 (fun K hK => ?step34) ?more34
              case h34 => simp only [List.getElem?_toArray, List.getElem?_cons_succ, List.getElem?_cons_zero]; rfl
              case step34 =>
                go_simp
                go_at_call 24; refine (C4.out _ _ _ hT hr9).mono ?_; rintro e w' ⟨rfl, hT'⟩; clear hT hr9; have hT := hT'; clear hT'
                refine hK.out _ _ ⟨hT.a, hT.b⟩ (fun hHeld2 => ?_)
                clear hHeld hK K; have hHeld := hHeld2; clear hHeld2
                try simp only [Act.put, List.setIfInBounds_toArray, List.set_cons_zero, List.set_cons_succ]
                refine wpAnyH_take (i := 34) (oi := ?oi35) (v := ?v35) ?h35 (by kernel_rfl) (by kernel_rfl) (by kernel_rfl) ?hq35 (Or.inl ⟨?hw35, ?hy35⟩) hHeld ?rest35
                case h35 => simp only [List.getElem?_toArray, List.getElem?_cons_succ, List.getElem?_cons_zero]; rfl
                case hw35 => rfl
                case hy35 => intro w hSw; (try dsimp only at hSw); first | (go_simp; done) | (go_simp; with_reducible rfl)
                case hq35 => intro _ _ _ h; exact h
                try simp only [Act.put, List.setIfInBounds_toArray, List.set_cons_zero, List.set_cons_succ]
                refine wpAnyH_take (i := 35) (oi := ?oi36) (v := ?v36) ?h36 (by kernel_rfl) (by kernel_rfl) (by kernel_rfl) ?hq36 (Or.inl ⟨?hw36, ?hy36⟩) hHeld ?rest36
                case h36 => simp only [List.getElem?_toArray, List.getElem?_cons_succ, List.getElem?_cons_zero]; rfl
                case hw36 => rfl
                case hy36 => intro w hSw; (try dsimp only at hSw); first | (go_simp; done) | (go_simp; with_reducible rfl)
                case hq36 => intro _ _ _ h; exact h
                try simp only [Act.put, List.setIfInBounds_toArray, List.set_cons_zero, List.set_cons_succ]
                refine wpAnyH_ready (rs := [36]) (by kernel_rfl) (by simp) ?_
                refine AllReadyH.cons (o := ?o37) ?h37 (fun K hK => ?step37) ?more37
                case h37 => simp only [List.getElem?_toArray, List.getElem?_cons_succ, List.getElem?_cons_zero]; rfl
                case step37 =>
                  go_simp
                  go_at_call 14; refine (C5.out _ hT).mono ?_; rintro e w' ⟨rfl, hT'⟩; clear hT; have hT := hT'; clear hT'
                  refine hK.out _ _ ⟨hT.a, hT.b⟩ (fun hHeld2 => ?_)
                  clear hHeld hK K; have hHeld := hHeld2; clear hHeld2
                  try simp only [Act.put, List.setIfInBounds_toArray, List.set_cons_zero, List.set_cons_succ]
                  refine wpAnyH_take (i := 37) (oi := ?oi38) (v := ?v38) ?h38 (by kernel_rfl) (by kernel_rfl) (by kernel_rfl) ?hq38 (Or.inl ⟨?hw38, ?hy38⟩) hHeld ?rest38
                  case h38 => simp only [List.getElem?_toArray, List.getElem?_cons_succ, List.getElem?_cons_zero]; rfl
                  case hw38 => rfl
                  case hy38 => intro w hSw; (try dsimp only at hSw); first | (go_simp; done) | (go_simp; with_reducible rfl)
                  case hq38 => intro _ _ _ h; exact h
                  try simp only [Act.put, List.setIfInBounds_toArray, List.set_cons_zero, List.set_cons_succ]
                  refine wpAnyH_take (i := 38) (oi := ?oi39) (v := ?v39) ?h39 (by kernel_rfl) (by kernel_rfl) (by kernel_rfl) ?hq39 (Or.inl ⟨?hw39, ?hy39⟩) hHeld ?rest39
                  case h39 => simp only [List.getElem?_toArray, List.getElem?_cons_succ, List.getElem?_cons_zero]; rfl
                  case hw39 => rfl
                  case hy39 => intro w hSw; (try dsimp only at hSw); first | (go_simp; done) | (go_simp; with_reducible rfl)
                  case hq39 => intro _ _ _ h; exact h
                  try simp only [Act.put, List.setIfInBounds_toArray, List.set_cons_zero, List.set_cons_succ]
                  refine wpAnyH_done (by kernel_rfl) ?_ _
                  go_wp2_with fail
                  go_ret
                  exact ⟨rfl, hT.below⟩
                exact AllReadyH.nil
              exact AllReadyH.nil
            exact AllReadyH.nil
          exact AllReadyH.nil
        exact AllReadyH.nil
      · have hmf : decide (m < l.length) = true := by rw [decide_eq_true_eq]; omega
        rw [if_neg hml, hmf] at CD
        have hmlt : m < l.length := by omega
        clear hml hmf
        go_wp2_with fail
        refine CD.out.mono ?_
        rintro e W9 ⟨rfl, hb9⟩
        have hT9 := HTE.out.mono hb9
        clear CD HTE hb9 ka kb
        have hTd := hT9.drew
        have ka : W9.cell? ⟨A, 0, none⟩ = some (.slice p l.length q) := hT9.a
        have kb : W9.cell? ⟨B, 0, none⟩ = some (.slice p3 m q3) := hT9.b
        obtain ⟨K, hK⟩ : ∃ K, K = knownK l m := ⟨_, rfl⟩
        have C1 := Lib.hid (ts_known1 (w := w0) (A := A) (B := B) (p := p) (p3 := p3) (q3 := q3) HG.out hlx hq (x % 20) HM.out hK)
        have C2 := Lib.hid (ts_known2 (w := w0) (A := A) (B := B) (p := p) (p3 := p3) (q := q) HG.out hlx hcut hq3 (x % 20) 40000 (by omega) HM.out hK)
        have C3 := Lib.hid (ts_then (w := w0) (A := A) (B := B) (p := p) (p3 := p3) (q := q) HG.out hlx hcut hq3 (x % 20) HM.out)
        have C4 := Lib.hid (ts_same (w := w0) (A := A) (B := B) (p := p) (p3 := p3) (q := q) (q3 := q3) (l := l) hlx hcut)
        have C5 := Lib.hid (ts_awake (w := w0) (A := A) (B := B) (p := p) (p3 := p3) (q := q) (q3 := q3) (l := l) (m := m))
        have hKK : (K == K) = true := by simp
        have hlss : decide (m < l.length) = true := by rw [decide_eq_true_eq]; exact hmlt
        clear hK
        go_upto_region 20 with (fail)
        first | go_region_held3 (fun W => W.cell? ⟨A, 0, none⟩ = some (.slice p l.length q) ∧ W.cell? ⟨B, 0, none⟩ = some (.slice p3 m q3)) (go_keep)
          (first
            | (go_at_call_of 30 (Value.agg #[Value.slice p l.length q]); refine (C1.out _ (by assumption)).mono ?_; rintro e w' ⟨rfl, hT'⟩; have ka' := hT'.a; have kb' := hT'.b)
            | (go_at_call_of 30 (Value.agg #[Value.slice p3 m q3]); refine (C2.out _ (by assumption)).mono ?_; rintro e w' ⟨rfl, hT'⟩; have ka' := hT'.a; have kb' := hT'.b)
            | (go_at_call 32; refine (C3.out _ (by assumption)).mono ?_; rintro e w' ⟨p9, q9, rfl, hr9, hT'⟩; have ka' := hT'.a; have kb' := hT'.b)
            | (go_at_call 24; refine (C4.out _ _ _ (by assumption) (by assumption)).mono ?_; rintro e w' ⟨rfl, hT'⟩; have ka' := hT'.a; have kb' := hT'.b)
            | (go_at_call 14; refine (C5.out _ (by assumption)).mono ?_; rintro e w' ⟨rfl, hT'⟩; have ka' := hT'.a; have kb' := hT'.b)) | fail
        go_wp2_with fail
        go_ret
        exact ⟨rfl, hT'.below⟩

theorem lthen_any (w : World) (a : Option Addr) (n c : Nat) (x : Int) (hx : 0 ≤ x ∧ x ≤ 255) (hi : Ints w w.heap.size a n) :
    Calls Try.prog 4 #[.slice a n c, .int .u8 x] w fun e w' => e = .returned (.bool true) ∧ Below w.heap.size w w' := by
  cases h : decide (n ≤ 400)
  · exact lthen_heavy w a n c x h
  · exact lthen_light w a n c x hx h hi
end Go.Proofs.Ytogcpjkgliijmaa
