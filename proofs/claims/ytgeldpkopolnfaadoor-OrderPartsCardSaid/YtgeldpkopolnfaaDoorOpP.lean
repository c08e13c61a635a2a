/- Part. -/
import Derived.Test.YtgeldpkopolnfaaDoorOmP
import Derived.Test.YtgeldpkopolnfaaDoorOpS
namespace Go.Proofs.YtgeldpkopolnfaaDoor
open Go.RowKit
set_option linter.all false

/-- The bits behind the changes of a set, by their places in it. -/
def partB (B : Nat → Nat) (l : List Nat) (i : Nat) : Nat := maskL ((List.range l.length).filter fun k => bitM B (l.getD i 0) (l.getD k 0))
theorem partB_bit {B : Nat → Nat} {l : List Nat} {i k : Nat} (hk : k < l.length) : bitM (partB B l) i k = bitM B (l.getD i 0) (l.getD k 0) := by
  unfold partB
  show (maskL _).testBit k = _
  rw [maskL_bit]
  cases h : bitM B (l.getD i 0) (l.getD k 0)
  · rw [decide_eq_false_iff_not, List.mem_filter]
    rintro ⟨_, h2⟩
    rw [h] at h2; cases h2
  · rw [decide_eq_true_iff, List.mem_filter]
    exact ⟨List.mem_range.2 hk, h⟩
/-- What follows in a part. -/
def PartR (L : List Rq) (l : List Nat) (P : List Rq) : Prop := AscR P ∧ P.length ≤ l.length * l.length ∧ ∀ x, x ∈ P ↔ ∃ i k : Nat, i < l.length ∧ k < l.length ∧ x = ((i : Int), (k : Int)) ∧ Way L (l.getD i 0) (l.getD k 0)
theorem rowTo_asc (B : Nat → Nat) (i k : Nat) : AscR (rowTo B i k) := by
  unfold rowTo AscR
  rw [List.pairwise_map]
  refine ((List.pairwise_lt_range).filter _).imp fun {a b} hab => ?_
  rw [less_iff]
  right
  exact ⟨rfl, by omega⟩
theorem pairsTo_asc (B : Nat → Nat) (n i : Nat) : AscR (pairsTo B n i) := by
  induction i with
  | zero => exact AscR.nil
  | succ i ih =>
    rw [pairsTo_succ]
    unfold AscR
    rw [List.pairwise_append]
    refine ⟨ih, rowTo_asc B i n, fun a ha b hb => ?_⟩
    unfold pairsTo at ha
    rw [List.mem_flatMap] at ha
    obtain ⟨i', hi', ha⟩ := ha
    rw [List.mem_range] at hi'
    unfold rowTo at ha hb
    obtain ⟨k, _, rfl⟩ := List.mem_map.1 ha
    obtain ⟨k2, _, rfl⟩ := List.mem_map.1 hb
    rw [less_iff]
    left
    simp only
    omega

set_option maxRecDepth 100000 in
set_option maxHeartbeats 4000000 in
theorem ReqV.part {w : World} {n : Nat} {v : Value} {L : List Rq} (h : ReqV w n v L) (h1 : 1 ≤ n) {s : Value} {l : List Nat} (hl : SetOk n l) (hs : IdxR w s l) :
    Calls Tryd.prog 19 #[.int .i64 (n : Int), v, s] w fun e w' => ∃ (a : Option Addr) (c : Nat) (P : List Rq), e = .returned (.tuple #[.slice a P.length c, .int .i64 0]) ∧ P.length ≤ c ∧ ReqsAt w' a P ∧ PartR L l P ∧ Below w.heap.size w w' := by
  obtain ⟨i0, hi0, hz0, hz1, hz2⟩ := info_parts info47
  have C1 := Lib.hid (h.read hl hs)
  obtain ⟨a, c, e, _, hr⟩ := h.val
  have hm24 := h.most
  have C2 := Lib.hid (fun W (hb : Below w.heap.size w W) => behind_any a c L n W h1 h.most h.ok.inn h.len (hr.step hb))
  have hlen := hl.length
  obtain ⟨q, cq, e2, _, hqc⟩ := hs
  have HQ := Lib.hid hqc; have HL := Lib.hid hl
  subst e; subst e2
  obtain ⟨ll, hll⟩ : ∃ ll, L.length = ll := ⟨_, rfl⟩
  obtain ⟨M, hM⟩ : ∃ M, l.length = M := ⟨_, rfl⟩
  have HM := Lib.hid hM
  rw [hll] at C1 C2 ⊢
  rw [hM] at C1 hlen ⊢
  clear h hr hl hqc hll hM
  go_enter Tryd.func19, Tryd.ntmps19
  go_wp2_with fail
  refine (C1.out).mono ?_
  clear C1
  rintro e w1 ⟨rfl, hb1⟩
  have HB1 := Lib.hid hb1
  have C3 := Lib.hid (C2.out w1 hb1)
  clear hb1 C2
  go_wp2_with fail
  refine (C3.out).mono ?_
  clear C3
  rintro e w2 ⟨b, B, rfl, hbits, hway, hb2⟩
  have HB2 := Lib.hid (HB1.out.trans (hb2.mono HB1.out.size))
  have HBR := Lib.hid hbits.row; have HSM := Lib.hid hbits.small; have HWAY := Lib.hid hway
  have hcell : ∀ (W : World) (i : Nat), W.heap[b]? = some (.cells (rowU n B) 56 (0, 0)) → i < n → W.cell? ⟨b, i, none⟩ = some (.int .u32 (B i : Int)) := fun W i h hi => by rw [cell_of_row _ b i _ _ _ h, rowU_get _ _ _ hi]
  have HCELL := Lib.hid hcell
  have HLEN := Lib.hid (pairsTo_length (partB B l) M)
  obtain ⟨S, hS⟩ : ∃ S, w2.heap.size = S := ⟨_, rfl⟩
  have HS := Lib.hid hS
  have hwS : w.heap.size ≤ S := by rw [← hS]; exact HB2.out.size
  have HBS := Lib.hid (show Below S w2 w2 from Below.refl _ _)
  clear hb2 hbits hway hcell hS HB1
  go_wp2_with fail
  go_loopw [11, 31] (fun lv iv wr => ∃ i : Nat, iv = .int .i64 (i : Int) ∧ i ≤ M ∧ wr.ownsRow S 47 2 lv (pairsTo (partB B l) M i).length (flatR (pairsTo (partB B l) M i)) ∧ wr.heap[b]? = some (.cells (rowU n B) 56 (0, 0)) ∧ Below S w2 wr) (fun _ iv _ => M - (intOf iv).toNat)
  case atStart => exact ⟨0, rfl, Nat.zero_le _, World.ownsRow_nil _ _ _ _, HBR.out, HBS.out⟩
  case round =>
    obtain ⟨i, rfl, hi', hown, hb, hbel⟩ := hrel
    by_cases hlt : i < M
    · have hj0 : (0 : Int) ≤ (i : Int) := by omega
      have hj1 : (i : Int) < (M : Int) := by omega
      have hdi : decide (i < M) = true := decide_eq_true hlt
      have hiL : i < l.length := by rw [HM.out]; exact hlt
      obtain ⟨b1, o1, hqe, s0⟩ := HQ.out i hiL
      subst hqe
      have hbw : Below w.heap.size w wr := HB2.out.trans (hbel.mono hwS)
      have s0 := cell_later' hbw s0
      have hfn := HL.out.low _ (SetOk.getD_mem hiL)
      have hps := pairsTo_succ (partB B l) M i
      obtain ⟨f, hf⟩ : ∃ f, l.getD i 0 = f := ⟨_, rfl⟩
      have HF := Lib.hid hf
      rw [hf] at s0 hfn
      have HPS := Lib.hid hps; have HO := Lib.hid hown; have HBB := Lib.hid hb; have HBE := Lib.hid hbel
      clear hf hps hown hb hbel hbw
      obtain ⟨p, cp, rfl⟩ := own_slice HO.out
      go_wp2_with fail
      go_loopw [11, 38] (fun lv kv w3 => ∃ k : Nat, kv = .int .i64 (k : Int) ∧ k ≤ M ∧ w3.ownsRow S 47 2 lv (pairsTo (partB B l) M i ++ rowTo (partB B l) i k).length (flatR (pairsTo (partB B l) M i ++ rowTo (partB B l) i k)) ∧ w3.heap[b]? = some (.cells (rowU n B) 56 (0, 0)) ∧ Below S w2 w3) (fun _ kv _ => M - (intOf kv).toNat)
      case atStart => exact ⟨0, rfl, Nat.zero_le _, by simpa [rowTo] using HO.out, HBB.out, HBE.out⟩
      case round =>
        clear HO HBB HBE s0
        obtain ⟨k, rfl, hk', hown, hb, hbel⟩ := hrel
        have hrl : (pairsTo (partB B l) M i ++ rowTo (partB B l) i k).length ≤ 1200 := by
          rw [List.length_append]
          have h1 := HLEN.out i
          have h2 := rowTo_length (partB B l) i k
          have : i * M ≤ 24 * 24 := Nat.mul_le_mul (by omega) (by omega)
          omega
        by_cases hltk : k < M
        · have hk0 : (0 : Int) ≤ (k : Int) := by omega
          have hk1 : (k : Int) < (M : Int) := by omega
          have hdk : decide (k < M) = true := decide_eq_true hltk
          have hkL : k < l.length := by rw [HM.out]; exact hltk
          obtain ⟨b3, o3, hqe, t0⟩ := HQ.out k hkL
          injection hqe with hqe
          injection hqe with e1 e2 _
          subst e1; subst e2
          have hbw : Below w.heap.size w wr := HB2.out.trans (hbel.mono hwS)
          have t0 := cell_later' hbw t0
          have htn := HL.out.low _ (SetOk.getD_mem hkL)
          have hbit0 := partB_bit (B := B) (l := l) (i := i) hkL
          rw [HF.out] at hbit0
          obtain ⟨t, ht⟩ : ∃ t, l.getD k 0 = t := ⟨_, rfl⟩
          rw [ht] at t0 htn hbit0
          have c0 := HCELL.out wr f hb hfn
          have hz24 := HSM.out f hfn
          have hbit : bitM B f t = decide (B f / 2 ^ t % 2 = 1) := testBit_div _ _
          rw [hbit] at hbit0
          obtain ⟨z, hz⟩ : ∃ z, B f = z := ⟨_, rfl⟩
          rw [hz] at c0 hz24 hbit0
          have hrs := rowTo_succ (partB B l) i k
          have hdz : z / 2 ^ t < 16777216 := Nat.lt_of_le_of_lt (Nat.div_le_self _ _) hz24
          have hand := u32_and_one (z / 2 ^ t) hdz
          obtain ⟨d, hd⟩ : ∃ d, z / 2 ^ t = d := ⟨_, rfl⟩
          have hsr2 : (z : Int) / ((2 : Int) ^ t) = (d : Int) := by
            rw [← hd, show (2 : Int) ^ t = ((2 ^ t : Nat) : Int) by simp]; rfl
          have hf0 : (0 : Int) ≤ (f : Int) := by omega
          have hf1 : (f : Int) < (n : Int) := by omega
          have ht0 : (0 : Int) ≤ (t : Int) := by omega
          rw [hd] at hand hbit0
          clear hd hdz hz hbit ht hbw
          obtain ⟨p2, cp2, rfl⟩ := own_slice hown
          obtain ⟨Q, hQ⟩ : ∃ Q, pairsTo (partB B l) M i ++ rowTo (partB B l) i k = Q := ⟨_, rfl⟩
          rw [hQ] at hown hrl ⊢
          have HQQ := Lib.hid hQ
          have hsW : S ≤ wr.heap.size := by have := hbel.size; have := HS.out; omega
          have hne := row_ne_cells hown hb (by decide)
          have HO := Lib.hid hown; have HBB := Lib.hid hb; have HBE := Lib.hid hbel; have HNE := Lib.hid hne
          obtain ⟨ql, hql⟩ : ∃ ql, Q.length = ql := ⟨_, rfl⟩
          have HQL := Lib.hid hql
          rw [hql] at HO HNE hrl ⊢
          clear hql hown hb hbel hne hQ
          rcases Nat.mod_two_eq_zero_or_one d with hm | hm
          · rw [hm] at hand hbit0
            rw [hbit0, if_neg (by decide), List.append_nil] at hrs
            have HRS := Lib.hid hrs
            clear hrs hbit0 hm
            go_wp2_with fail
            go_roundw
            case rel => exact ⟨k + 1, by go_num, by omega, by rw [HRS.out, HQQ.out, HQL.out]; exact HO.out, HBB.out, HBE.out⟩
            case measure => simp [intOf]; omega
          · rw [hm] at hand hbit0
            rw [hbit0, if_pos (by decide)] at hrs
            have HRS := Lib.hid hrs
            have HNW := Lib.hid (cells_new wr [.int .i64 (i : Int), .int .i64 (k : Int)] 47)
            clear hrs hbit0 hm
            go_wp2_with (at_builtin; refine wpList_append_own _ rfl _ _ 27 rfl S 47 i0 (.agg #[.int .i64 0, .int .i64 0]) 2 16 Tryd.underlying27 hi0 hz0 hz1 hz2 rfl (by decide) _ _ _ rfl (HO.out.alloc _) ⟨wr.heap.size, 0, none⟩ 1 1 [.int .i64 (i : Int), .int .i64 (k : Int)] rfl rfl HNW.out (by simp [Value.oneCell']) (by unfold maxLen; omega) (by omega) (by simp; omega) ?_; intro v' w4 hown' hgrow _; obtain ⟨p', c', rfl⟩ := own_slice hown'; have HO3 := Lib.hid hown'; have HG3 := Lib.hid hgrow; clear hown' hgrow)
            go_roundw
            case rel =>
              refine ⟨k + 1, by go_num, by omega, ?_, ?_, ?_⟩
              · rw [HRS.out, ← List.append_assoc, HQQ.out, List.length_append, HQL.out, flatR_append]
                exact HO3.out
              · have h1 : (wr.alloc (.cells #[.int .i64 (i : Int), .int .i64 (k : Int)] 47)).heap[b]? = some (.cells (rowU n B) 56 (0, 0)) := (Below.heap_alloc _ _ _ (lt_of_heap HBB.out)).trans HBB.out
                exact (HG3.out.block b (lt_of_heap h1) (fun e => HNE.out e.symm)).trans h1
              · exact (HBE.out.alloc hsW _).grown HG3.out (by simp; omega) fun g e => (HO.out.lt g e).1
            case measure => simp [intOf]; omega
        · have hkn : k = M := by omega
          subst hkn
          have hdk : decide (k < k) = false := by simp
          have hnk : ¬ (k : Int) < (k : Int) := by omega
          obtain ⟨p2, cp2, rfl⟩ := own_slice hown
          have hps := HPS.out
          rw [← hps] at hown ⊢
          have HO := Lib.hid hown; have HBB := Lib.hid hb; have HBE := Lib.hid hbel
          clear hps hown hb hbel
          obtain ⟨ql, hql⟩ : ∃ ql, (pairsTo (partB B l) k (i + 1)).length = ql := ⟨_, rfl⟩
          have HQL := Lib.hid hql
          rw [hql] at HO ⊢
          clear hql
          go_wp2_with fail
          go_roundw
          case rel => exact ⟨i + 1, by go_num, by omega, by rw [HQL.out]; exact HO.out, HBB.out, HBE.out⟩
          case measure => simp [intOf]; omega
    · have hin : i = M := by omega
      subst hin
      have hdi : decide (i < i) = false := by simp
      have hni : ¬ (i : Int) < (i : Int) := by omega
      have hP : PartR L l (pairsTo (partB B l) i i) := by
        refine ⟨pairsTo_asc _ _ _, by rw [HM.out]; exact pairsTo_length _ _ _, fun x => ?_⟩
        rw [pairs_mem]
        constructor
        · rintro ⟨j, k, hj, hk, rfl, hbb⟩
          rw [← HM.out] at hj hk
          rw [partB_bit hk] at hbb
          exact ⟨j, k, hj, hk, rfl, (HWAY.out _ _ (HL.out.low _ (SetOk.getD_mem hj)) (HL.out.low _ (SetOk.getD_mem hk))).1 hbb⟩
        · rintro ⟨j, k, hj, hk, rfl, hbb⟩
          refine ⟨j, k, by rw [← HM.out]; exact hj, by rw [← HM.out]; exact hk, rfl, ?_⟩
          rw [partB_bit hk]
          exact (HWAY.out _ _ (HL.out.low _ (SetOk.getD_mem hj)) (HL.out.low _ (SetOk.getD_mem hk))).2 hbb
      obtain ⟨a3, c3, e3, hc3, hr3, _⟩ := reqs_of_own hown rfl
      subst e3
      have HP := Lib.hid hP; have HR3 := Lib.hid hr3; have HC3 := Lib.hid hc3
      have HBE := Lib.hid (HB2.out.trans (hbel.mono hwS))
      obtain ⟨P, hPe⟩ : ∃ P, pairsTo (partB B l) i i = P := ⟨_, rfl⟩
      rw [hPe] at HP HR3 HC3 ⊢
      obtain ⟨pl, hpl⟩ : ∃ pl, P.length = pl := ⟨_, rfl⟩
      have HPL := Lib.hid hpl
      rw [hpl] at HC3 ⊢
      clear hown hb hbel hP hr3 hc3 hPe hpl
      go_wp2_with fail
      refine bodyPost_ret (v := .tuple #[.slice a3 pl c3, .int .i64 0]) (by simp [results, Tryd.results19, go_sem]) rfl ?_
      exact ⟨a3, c3, P, by rw [HPL.out], by rw [HPL.out]; exact HC3.out, HR3.out, HP.out, HBE.out⟩
end Go.Proofs.YtgeldpkopolnfaaDoor
