/- less, same, SameSet, in, With, Has. -/
import Derived.Test.YtgeldpkopolnfaaDoorOmK
namespace Go.Proofs.YtgeldpkopolnfaaDoor
open Go.RowKit
set_option linter.all false

def lessN : List Nat → List Nat → Bool
  | x :: a, y :: b => if x = y then lessN a b else decide (x < y)
  | _, _ => false
theorem lessN_self : ∀ a, lessN a a = false
  | [] => rfl
  | x :: a => by unfold lessN; rw [if_pos rfl]; exact lessN_self a
theorem lessN_eq : ∀ {a b : List Nat}, a.length = b.length → lessN a b = false → lessN b a = false → a = b
  | [], [], _, _, _ => rfl
  | x :: a, y :: b, hl, h1, h2 => by
    unfold lessN at h1 h2
    by_cases e : x = y
    · subst e
      rw [if_pos rfl] at h1 h2
      rw [lessN_eq (by simpa using hl) h1 h2]
    · rw [if_neg e, decide_eq_false_iff_not] at h1
      rw [if_neg (fun h => e h.symm), decide_eq_false_iff_not] at h2
      omega
  | [], y :: b, hl, _, _ => by simp at hl
  | x :: a, [], hl, _, _ => by simp at hl
theorem lessN_at : ∀ {a b : List Nat} {m : Nat}, a.length = b.length → m < a.length → a.take m = b.take m → a.getD m 0 ≠ b.getD m 0 → lessN a b = decide (a.getD m 0 < b.getD m 0)
  | x :: a, y :: b, 0, _, _, _, hne => by
    simp at hne ⊢
    unfold lessN
    rw [if_neg hne]
  | x :: a, y :: b, m + 1, hl, hm, ht, hne => by
    rw [List.take_succ_cons, List.take_succ_cons] at ht
    injection ht with h1 h2
    subst h1
    unfold lessN
    rw [if_pos rfl]
    have := lessN_at (a := a) (b := b) (m := m) (by simpa using hl) (by simpa using hm) h2 (by simpa using hne)
    simpa using this
  | [], _, _, _, hm, _, _ => by simp at hm
  | x :: a, [], _, hl, _, _, _ => by simp at hl
theorem IdxR.cell {W : World} {v : Value} {l : List Nat} (h : IdxR W v l) {i : Nat} (hi : i < l.length) : ∃ b o c, v = .slice (some ⟨b, o, none⟩) l.length c ∧ W.cell? ⟨b, o + i, none⟩ = some (.int .i64 ((l.getD i 0 : Nat) : Int)) := by
  obtain ⟨a, c, rfl, _, hc⟩ := h
  obtain ⟨b, o, rfl, h2⟩ := hc i hi
  exact ⟨b, o, c, rfl, h2⟩

set_option maxRecDepth 100000 in
set_option maxHeartbeats 2000000 in
theorem lessN_any (va vb : Value) (la lb : List Nat) (w : World) (hl : la.length = lb.length) (h24 : la.length ≤ 1000) (ha : IdxR w va la) (hb : IdxR w vb lb) :
    Calls Tryd.prog 50 #[va, vb] w (BoolP (lessN la lb) w) := by
  obtain ⟨pa, ca, rfl, _, hca⟩ := ha
  obtain ⟨pb, cb, rfl, _, hcb⟩ := hb
  have HA := Lib.hid hca; have HB := Lib.hid hcb
  obtain ⟨N, hN⟩ : ∃ N, la.length = N := ⟨_, rfl⟩
  have HN := Lib.hid hN
  have hN2 := hl.symm.trans hN
  have HN2 := Lib.hid hN2
  rw [hN] at h24
  rw [hN, hN2]
  obtain ⟨q, hq⟩ : ∃ q, lessN la lb = q := ⟨_, rfl⟩
  have HQ := Lib.hid hq
  rw [hq]
  clear hca hcb hN hN2 hl hq
  go_enter Tryd.func50, Tryd.ntmps50
  go_wp2_with fail
  go_loopw [8] (fun kv wr => ∃ m : Nat, kv = .int .i64 (m : Int) ∧ m ≤ N ∧ la.take m = lb.take m ∧ Below w.heap.size w wr) (fun kv _ => N - (intOf kv).toNat)
  case atStart => exact ⟨0, rfl, Nat.zero_le _, rfl, Below.refl _ _⟩
  case round =>
    obtain ⟨m, rfl, hm, htk, hbel⟩ := hrel
    by_cases hlt : m < N
    · have hm0 : (0 : Int) ≤ (m : Int) := by omega
      have hm1 : (m : Int) < (N : Int) := by omega
      have hdm : decide (m < N) = true := decide_eq_true hlt
      have hma : m < la.length := by rw [HN.out]; exact hlt
      have hmb : m < lb.length := by rw [HN2.out]; exact hlt
      obtain ⟨b1, o1, hp1, c0⟩ := HA.out m hma
      obtain ⟨b2, o2, hp2, d0⟩ := HB.out m hmb
      subst hp1; subst hp2
      have c0 := cell_later' hbel c0
      have d0 := cell_later' hbel d0
      have c1 : wr.drew.cell? ⟨b1, o1 + m, none⟩ = _ := c0
      have d1 : wr.drew.cell? ⟨b2, o2 + m, none⟩ = _ := d0
      have hs1 := takeN_snoc la m hma
      have hs2 := takeN_snoc lb m hmb
      have hat := lessN_at (a := la) (b := lb) (m := m) (by rw [HN.out, HN2.out]) hma htk
      obtain ⟨x, hx⟩ : ∃ x, la.getD m 0 = x := ⟨_, rfl⟩
      obtain ⟨y, hy⟩ : ∃ y, lb.getD m 0 = y := ⟨_, rfl⟩
      rw [hx] at c0 c1 hs1 hat
      rw [hy] at d0 d1 hs2 hat
      rw [HQ.out] at hat
      have HS1 := Lib.hid hs1; have HS2 := Lib.hid hs2; have HAT := Lib.hid hat; have HTK := Lib.hid htk; have HBE := Lib.hid hbel
      clear hs1 hs2 hat hx hy htk hbel
      by_cases he : x = y
      · subst he
        go_wp2_with fail
        go_quiet (fail)
        have HBD := Lib.hid (below_drewN HBE.out nq)
        go_wp2_with fail
        go_roundw
        case rel => exact ⟨m + 1, by go_num, by omega, by rw [HS1.out, HS2.out, HTK.out], HBD.out⟩
        case measure => simp [intOf]; omega
      · have hq2 := HAT.out he
        have hne : ¬ (x : Int) = (y : Int) := by omega
        have hne2 : ((x : Int) == (y : Int)) = false := by simp; omega
        have c2 : (wr.drewN 2).cell? ⟨b1, o1 + m, none⟩ = _ := c0
        have d2 : (wr.drewN 2).cell? ⟨b2, o2 + m, none⟩ = _ := d0
        go_wp2_with fail
        go_quiet (fail)
        obtain ⟨w2, hw2⟩ : ∃ w2, wr.drewN nq = w2 := ⟨_, rfl⟩
        have e0 : w2.cell? ⟨b1, o1 + m, none⟩ = some (.int .i64 (x : Int)) := by rw [← hw2]; exact c0
        have f0 : w2.cell? ⟨b2, o2 + m, none⟩ = some (.int .i64 (y : Int)) := by rw [← hw2]; exact d0
        have e1 : w2.drew.cell? ⟨b1, o1 + m, none⟩ = some (.int .i64 (x : Int)) := e0
        have f1 : w2.drew.cell? ⟨b2, o2 + m, none⟩ = some (.int .i64 (y : Int)) := f0
        have HB2 := Lib.hid (show Below w.heap.size w w2 by rw [← hw2]; exact below_drewN HBE.out nq)
        rw [hw2]
        clear hw2 c0 c1 c2 d0 d1 d2
        have hq3 : decide ((x : Int) < (y : Int)) = q := by rw [hq2]; exact decide_eq_decide.2 (by omega)
        have hq4 : decide (x < y) = q := hq2.symm
        have HQ3 := Lib.hid hq4
        clear hq2
        go_wp2_with fail
        go_quiet (fail)
        have HBD := Lib.hid (below_drewN HB2.out nq)
        go_wp2_with fail
        go_ret
        exact ⟨by rw [← HQ3.out]; rfl, HBD.out⟩
    · have hmN : m = N := by omega
      subst hmN
      have hdm : decide (m < m) = false := by simp
      have hnm : ¬ (m : Int) < (m : Int) := by omega
      have hqf : q = false := by
        rw [← HQ.out]
        rw [List.take_of_length_le (by rw [HN.out]; exact Nat.le_refl _), List.take_of_length_le (by rw [HN2.out]; exact Nat.le_refl _)] at htk
        rw [htk]; exact lessN_self lb
      subst hqf
      go_wp2_with fail
      go_ret
      exact ⟨rfl, hbel⟩
set_option maxRecDepth 100000 in
set_option maxHeartbeats 2000000 in
theorem same_any (va vb : Value) (la lb : List Nat) (w : World) (h1 : la.length ≤ 1000) (h2 : lb.length ≤ 1000) (ha : IdxR w va la) (hb : IdxR w vb lb) :
    Calls Tryd.prog 46 #[va, vb] w (BoolP (decide (la = lb)) w) := by
  have CA := fun W (hW : Below w.heap.size w W) (hl : la.length = lb.length) => lessN_any va vb la lb W hl h1 (ha.step hW) (hb.step hW)
  have CB := fun W (hW : Below w.heap.size w W) (hl : la.length = lb.length) => lessN_any vb va lb la W hl.symm h2 (hb.step hW) (ha.step hW)
  obtain ⟨pa, ca, rfl, _, _⟩ := ha
  obtain ⟨pb, cb, rfl, _, _⟩ := hb
  by_cases hl : la.length = lb.length
  · have CA := Lib.hid (CA w (Below.refl _ _) hl)
    have CB := Lib.hid (fun W hW => CB W hW hl)
    have key : decide (la = lb) = (!lessN la lb && !lessN lb la) := by
      by_cases e : la = lb
      · subst e; rw [lessN_self]; simp
      · rw [decide_eq_false e]
        cases e1 : lessN la lb <;> cases e2 : lessN lb la <;> simp
        exact e (lessN_eq hl e1 e2)
    rw [key]
    clear key
    have hi : ((la.length : Int) == (lb.length : Int)) = true := by rw [hl]; simp
    have hi2 : (la.length : Int) = (lb.length : Int) := by omega
    rw [← hl] at CA CB ⊢
    generalize lessN la lb = q1 at *
    generalize lessN lb la = q2 at *
    clear hi hi2 hl h1 h2
    generalize la.length = n at *
    cases q1
    · go_enter Tryd.func46, Tryd.ntmps46
      go_wp2_with (first | (go_at_call 50; refine (CA.out).mono ?_; clear CA; rintro e w1 ⟨rfl, hb1⟩; have HB1 := Lib.hid hb1; have CB1 := Lib.hid (CB.out w1 hb1); clear hb1 CB) | (go_at_call 50; refine (CB1.out).mono ?_; clear CB1; rintro e w2 ⟨rfl, hb2⟩; have HB2 := Lib.hid hb2; clear hb2))
      go_ret
      refine ⟨?_, HB1.out.trans (HB2.out.mono HB1.out.size)⟩
      cases q2 <;> rfl
    · go_enter Tryd.func46, Tryd.ntmps46
      go_wp2_with (first | (go_at_call 50; refine (CA.out).mono ?_; clear CA; rintro e w1 ⟨rfl, hb1⟩; have HB1 := Lib.hid hb1; clear hb1))
      go_ret
      exact ⟨rfl, HB1.out⟩
  · have hne : decide (la = lb) = false := decide_eq_false fun e => hl (by rw [e])
    rw [hne]
    have hi : ((la.length : Int) == (lb.length : Int)) = false := by simp; omega
    have hi2 : ¬ (la.length : Int) = (lb.length : Int) := by omega
    have hi3 : ¬ la.length = lb.length := hl
    clear CA CB hne hl
    generalize la.length = n at *
    generalize lb.length = m at *
    go_enter Tryd.func46, Tryd.ntmps46
    go_wp2_with fail
    go_ret
    exact ⟨rfl, Below.refl _ _⟩
set_option maxHeartbeats 1000000 in
theorem sameSet_any (va vb : Value) (la lb : List Nat) (w : World) (h1 : la.length ≤ 1000) (h2 : lb.length ≤ 1000) (ha : IdxR w va la) (hb : IdxR w vb lb) :
    Calls Tryd.prog 36 #[va, vb] w (BoolP (decide (la = lb)) w) := by
  have C := Lib.hid (same_any va vb la lb w h1 h2 ha hb)
  obtain ⟨pa, ca, rfl, _, _⟩ := ha
  obtain ⟨pb, cb, rfl, _, _⟩ := hb
  generalize decide (la = lb) = q at *
  generalize la.length = n at *
  generalize lb.length = m at *
  go_enter Tryd.func36, Tryd.ntmps36
  go_wp2_with (go_at_call 46; refine (C.out).mono ?_; clear C; rintro e w1 ⟨rfl, hb1⟩; have HB1 := Lib.hid hb1; clear hb1)
  go_ret
  exact ⟨rfl, HB1.out⟩
set_option maxRecDepth 100000 in
set_option maxHeartbeats 2000000 in
theorem in_any (v : Value) (LS : List (List Nat)) (vb : Value) (lb : List Nat) (w : World) (hN : LS.length ≤ 100000) (h1 : ∀ l ∈ LS, l.length ≤ 1000) (h2 : lb.length ≤ 1000) (ha : SetsR w v LS) (hb : IdxR w vb lb) :
    Calls Tryd.prog 20 #[v, vb] w (BoolP (decide (lb ∈ LS)) w) := by
  obtain ⟨pa, ca, rfl, _, hca⟩ := ha
  have HA := Lib.hid hca; have HB := Lib.hid hb; have H1 := Lib.hid h1; have H2 := Lib.hid h2
  obtain ⟨pb, cb, rfl, _, _⟩ := hb
  obtain ⟨q, hq⟩ : ∃ q, decide (lb ∈ LS) = q := ⟨_, rfl⟩
  have HQ := Lib.hid hq
  rw [hq]
  obtain ⟨N, hNN⟩ : ∃ N, LS.length = N := ⟨_, rfl⟩
  have HN := Lib.hid hNN
  rw [hNN] at hN ⊢
  obtain ⟨lm, hlm⟩ : ∃ lm, lb.length = lm := ⟨_, rfl⟩
  rw [hlm] at HB ⊢
  clear hca hq hNN h1 h2 hlm
  go_enter Tryd.func20, Tryd.ntmps20
  go_wp2_with fail
  go_loopw [9] (fun kv wr => ∃ m : Nat, kv = .int .i64 (m : Int) ∧ m ≤ N ∧ (∀ j, j < m → LS.getD j [] ≠ lb) ∧ Below w.heap.size w wr) (fun kv _ => N - (intOf kv).toNat)
  case atStart => exact ⟨0, rfl, Nat.zero_le _, fun j hj => by omega, Below.refl _ _⟩
  case round =>
    obtain ⟨m, rfl, hm, hno, hbel⟩ := hrel
    by_cases hlt : m < N
    · have hm0 : (0 : Int) ≤ (m : Int) := by omega
      have hm1 : (m : Int) < (N : Int) := by omega
      have hdm : decide (m < N) = true := decide_eq_true hlt
      have hml : m < LS.length := by rw [HN.out]; exact hlt
      obtain ⟨b1, o1, u, hp1, c0, hu⟩ := HA.out m hml
      subst hp1
      have c0 := cell_later' hbel c0
      have hu := hu.step hbel
      have hmem : LS.getD m [] ∈ LS := by rw [List.getD, List.getElem?_eq_getElem hml]; exact List.getElem_mem hml
      obtain ⟨x, hx⟩ : ∃ x, LS.getD m [] = x := ⟨_, rfl⟩
      rw [hx] at hu hmem
      have CS := Lib.hid (sameSet_any u (.slice pb lm cb) x lb wr (H1.out x hmem) H2.out hu (HB.out.step hbel))
      have hqx : x = lb → q = true := fun e => by rw [← HQ.out]; exact decide_eq_true (by rw [← e]; exact hmem)
      obtain ⟨pu, cu, rfl, _, _⟩ := hu
      have HBE := Lib.hid hbel; have HNO := Lib.hid hno; have HX := Lib.hid hx
      clear hbel hno hx hmem
      by_cases he : x = lb
      · have hqt := hqx he
        subst hqt
        rw [decide_eq_true he] at CS
        clear he hqx
        generalize x.length = xl at *
        go_wp2_with (go_at_call 36; refine (CS.out).mono ?_; clear CS; rintro e w1 ⟨rfl, hb1⟩; have HB1 := Lib.hid (HBE.out.trans (hb1.mono HBE.out.size)); clear hb1)
        go_ret
        exact ⟨rfl, HB1.out⟩
      · rw [decide_eq_false he] at CS
        have HE := Lib.hid he
        clear he hqx
        generalize x.length = xl at *
        go_wp2_with (go_at_call 36; refine (CS.out).mono ?_; clear CS; rintro e w1 ⟨rfl, hb1⟩; have HB1 := Lib.hid (HBE.out.trans (hb1.mono HBE.out.size)); clear hb1)
        go_roundw
        case rel =>
          refine ⟨m + 1, by go_num, by omega, fun j hj => ?_, HB1.out⟩
          rcases Nat.lt_succ_iff_lt_or_eq.1 hj with h | rfl
          · exact HNO.out j h
          · rw [HX.out]; exact HE.out
        case measure => simp [intOf]; omega
    · have hmN : m = N := by omega
      subst hmN
      have hdm : decide (m < m) = false := by simp
      have hnm : ¬ (m : Int) < (m : Int) := by omega
      have hqf : q = false := by
        rw [← HQ.out]
        refine decide_eq_false fun hmem => ?_
        obtain ⟨j, hj, e⟩ := List.getElem_of_mem hmem
        refine hno j (by rw [← HN.out]; exact hj) ?_
        rw [List.getD, List.getElem?_eq_getElem hj]; exact e
      subst hqf
      have HBE := Lib.hid hbel
      clear hbel hno
      go_wp2_with fail
      go_ret
      exact ⟨rfl, HBE.out⟩
end Go.Proofs.YtgeldpkopolnfaaDoor
