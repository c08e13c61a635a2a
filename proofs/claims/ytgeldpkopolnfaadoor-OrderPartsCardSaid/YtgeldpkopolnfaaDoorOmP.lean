/- Pairs, Closure. -/
import Derived.Test.YtgeldpkopolnfaaDoorOmH
namespace Go.Proofs.YtgeldpkopolnfaaDoor
open Go.RowKit
set_option linter.all false

def rowTo (B : Nat → Nat) (i k : Nat) : List Rq := ((List.range k).filter fun k => bitM B i k).map fun (k : Nat) => ((i : Int), (k : Int))
def pairsTo (B : Nat → Nat) (n i : Nat) : List Rq := (List.range i).flatMap fun i => rowTo B i n
theorem rowTo_succ (B : Nat → Nat) (i k : Nat) : rowTo B i (k + 1) = rowTo B i k ++ if bitM B i k then [((i : Int), (k : Int))] else [] := by
  unfold rowTo
  rw [List.range_succ, List.filter_append, List.map_append]
  cases h : bitM B i k <;> simp [h]
theorem pairsTo_succ (B : Nat → Nat) (n i : Nat) : pairsTo B n (i + 1) = pairsTo B n i ++ rowTo B i n := by
  unfold pairsTo
  rw [List.range_succ, List.flatMap_append]; simp
theorem rowTo_length (B : Nat → Nat) (i k : Nat) : (rowTo B i k).length ≤ k := by
  unfold rowTo
  rw [List.length_map]
  exact Nat.le_trans (List.length_filter_le _ _) (by simp)
theorem pairsTo_length (B : Nat → Nat) (n i : Nat) : (pairsTo B n i).length ≤ i * n := by
  induction i with
  | zero => simp [pairsTo]
  | succ i ih => rw [pairsTo_succ, List.length_append, Nat.succ_mul]; have := rowTo_length B i n; omega
theorem pairs_mem {B : Nat → Nat} {n : Nat} (x : Rq) : x ∈ pairsTo B n n ↔ ∃ i j, i < n ∧ j < n ∧ x = ((i : Int), (j : Int)) ∧ bitM B i j = true := by
  unfold pairsTo rowTo
  rw [List.mem_flatMap]
  constructor
  · rintro ⟨i, hi, hx⟩
    rw [List.mem_map] at hx
    obtain ⟨j, hj, rfl⟩ := hx
    rw [List.mem_filter, List.mem_range] at hj
    exact ⟨i, j, List.mem_range.1 hi, hj.1, rfl, hj.2⟩
  · rintro ⟨i, j, hi, hj, rfl, hb⟩
    exact ⟨i, List.mem_range.2 hi, List.mem_map.2 ⟨j, List.mem_filter.2 ⟨List.mem_range.2 hj, hb⟩, rfl⟩⟩
theorem info47 : (Tryd.prog.info? 47).map (fun i => (i.zero, i.size, i.bytes)) = some (some (.agg #[.int .i64 0, .int .i64 0]), 2, 16) := by kernel_rfl
theorem row_ne_cells {W : World} {base e size n : Nat} {v : Value} {xs : List Value} {b t : Nat} {cs : Array Value} (h : W.ownsRow base e size v n xs) (hm : W.heap[b]? = some (.cells cs t (0, 0))) (ht : e ≠ t) : v.ownBlock ≠ some b := by
  intro e2
  rcases h.2 with ⟨rfl, _⟩ | ⟨g, cap, cur, rfl, _, hg, _⟩
  · simp [Value.ownBlock] at e2
  · obtain rfl : g = b := by simpa [Value.ownBlock] using e2
    rw [hm] at hg; injection hg with hg; injection hg with _ h3 _; exact ht h3.symm
theorem cells_new (W : World) (cs : List Value) (t : TypeId) (j : Nat) (u : Value) (h : cs[j]? = some u) : (W.alloc (.cells cs.toArray t)).cell? ((⟨W.heap.size, 0, none⟩ : Addr).add j) = some u := by
  rw [add_plain, Nat.zero_add]
  rw [cell_of_row _ _ _ _ _ _ (heap_alloc_new W _)]
  simpa using h
set_option maxRecDepth 100000 in
set_option maxHeartbeats 4000000 in
theorem pairs_any (b n : Nat) (B : Nat → Nat) (w : World) (hn : n ≤ 24) (hB : w.heap[b]? = some (.cells (rowU n B) 56 (0, 0))) (hs : ∀ i, i < n → B i < 16777216) :
    Calls Tryd.prog 37 #[.slice (some ⟨b, 0, none⟩) n n] w fun e w' => ∃ v, e = .returned v ∧ w'.ownsRow w.heap.size 47 2 v (pairsTo B n n).length (flatR (pairsTo B n n)) ∧ Below w.heap.size w w' := by
  obtain ⟨i0, hi, hz0, hz1, hz2⟩ := info_parts info47
  obtain ⟨S, hS⟩ : ∃ S, w.heap.size = S := ⟨_, rfl⟩
  have HS := Lib.hid hS; have HSM := Lib.hid hs; have HB := Lib.hid hB
  have hlen := pairsTo_length B n
  have HLEN := Lib.hid hlen
  have hcell : ∀ (W : World) (i : Nat), W.heap[b]? = some (.cells (rowU n B) 56 (0, 0)) → i < n → W.cell? ⟨b, i, none⟩ = some (.int .u32 (B i : Int)) := fun W i h hi => by rw [cell_of_row _ b i _ _ _ h, rowU_get _ _ _ hi]
  have HCELL := Lib.hid hcell
  clear hs hB hlen hcell
  rw [hS]
  go_enter Tryd.func37, Tryd.ntmps37
  go_wp2_with fail
  go_loopw [3, 9] (fun lv iv wr => ∃ i : Nat, iv = .int .i64 (i : Int) ∧ i ≤ n ∧ wr.ownsRow S 47 2 lv (pairsTo B n i).length (flatR (pairsTo B n i)) ∧ wr.heap[b]? = some (.cells (rowU n B) 56 (0, 0)) ∧ Below S w wr) (fun _ iv _ => n - (intOf iv).toNat)
  case atStart => exact ⟨0, rfl, Nat.zero_le _, World.ownsRow_nil _ _ _ _, HB.out, by rw [← HS.out]; exact Below.refl _ _⟩
  case round =>
    obtain ⟨i, rfl, hi', hown, hb, hbel⟩ := hrel
    by_cases hlt : i < n
    · have hi0 : (0 : Int) ≤ (i : Int) := by omega
      have hi1 : (i : Int) < (n : Int) := by omega
      have hdi : decide (i < n) = true := decide_eq_true hlt
      have c0 := HCELL.out wr i hb hlt
      have hz24 := HSM.out i hlt
      have hps := pairsTo_succ B n i
      obtain ⟨z, hz⟩ : ∃ z, B i = z := ⟨_, rfl⟩
      rw [hz] at c0 hz24
      have HZ := Lib.hid hz; have HPS := Lib.hid hps; have HO := Lib.hid hown; have HBB := Lib.hid hb; have HBE := Lib.hid hbel
      clear hz hps hown hb hbel
      obtain ⟨p, cp, rfl⟩ := own_slice HO.out
      go_wp2_with fail
      go_loopw [3, 16] (fun lv kv w2 => ∃ k : Nat, kv = .int .i64 (k : Int) ∧ k ≤ n ∧ w2.ownsRow S 47 2 lv (pairsTo B n i ++ rowTo B i k).length (flatR (pairsTo B n i ++ rowTo B i k)) ∧ w2.heap[b]? = some (.cells (rowU n B) 56 (0, 0)) ∧ Below S w w2) (fun _ kv _ => n - (intOf kv).toNat)
      case atStart => exact ⟨0, rfl, Nat.zero_le _, by simpa [rowTo] using HO.out, HBB.out, HBE.out⟩
      case round =>
        clear HO HBB HBE c0
        obtain ⟨k, rfl, hk', hown, hb, hbel⟩ := hrel
        have hll : (pairsTo B n i ++ rowTo B i k).length ≤ 1200 := by
          rw [List.length_append]
          have h1 := HLEN.out i
          have h2 := rowTo_length B i k
          have : i * n ≤ 24 * 24 := Nat.mul_le_mul (by omega) hn
          omega
        by_cases hltk : k < n
        · have hk0 : (0 : Int) ≤ (k : Int) := by omega
          have hk1 : (k : Int) < (n : Int) := by omega
          have hdk : decide (k < n) = true := decide_eq_true hltk
          have hbit : bitM B i k = decide (z / 2 ^ k % 2 = 1) := by rw [← HZ.out]; exact testBit_div _ _
          have hrs := rowTo_succ B i k
          have hdz : z / 2 ^ k < 16777216 := Nat.lt_of_le_of_lt (Nat.div_le_self _ _) hz24
          have hand := u32_and_one (z / 2 ^ k) hdz
          obtain ⟨d, hd⟩ : ∃ d, z / 2 ^ k = d := ⟨_, rfl⟩
          have hsr2 : (z : Int) / ((2 : Int) ^ k) = (d : Int) := by
            rw [← hd, show (2 : Int) ^ k = ((2 ^ k : Nat) : Int) by simp]; rfl
          rw [hd] at hand hbit
          clear hd hdz
          obtain ⟨p2, cp2, rfl⟩ := own_slice hown
          obtain ⟨Q, hQ⟩ : ∃ Q, pairsTo B n i ++ rowTo B i k = Q := ⟨_, rfl⟩
          rw [hQ] at hown hll ⊢
          have HQ := Lib.hid hQ
          have hsW : S ≤ wr.heap.size := by have := hbel.size; have := HS.out; omega
          rcases Nat.mod_two_eq_zero_or_one d with hm | hm
          · rw [hm] at hand hbit
            have hbf : bitM B i k = false := by rw [hbit]; rfl
            rw [hbf, if_neg (by decide), List.append_nil] at hrs
            have HRS := Lib.hid hrs; have HO := Lib.hid hown; have HBB := Lib.hid hb; have HBE := Lib.hid hbel
            clear hrs hown hb hbel hbit hbf hQ
            obtain ⟨ql, hql⟩ : ∃ ql, Q.length = ql := ⟨_, rfl⟩
            have HQL := Lib.hid hql
            rw [hql] at HO hll ⊢
            clear hql
            go_wp2_with fail
            go_roundw
            case rel => exact ⟨k + 1, by go_num, by omega, by rw [HRS.out, HQ.out, HQL.out]; exact HO.out, HBB.out, HBE.out⟩
            case measure => simp [intOf]; omega
          · rw [hm] at hand hbit
            have hbf : bitM B i k = true := by rw [hbit]; rfl
            rw [hbf, if_pos rfl] at hrs
            have hne := row_ne_cells hown hb (by decide)
            have hal : wr.heap.size = wr.heap.size := rfl
            have HNW := Lib.hid (cells_new wr [.int .i64 (i : Int), .int .i64 (k : Int)] 47)
            have HRS := Lib.hid hrs; have HO := Lib.hid hown; have HBB := Lib.hid hb; have HBE := Lib.hid hbel; have HNE := Lib.hid hne
            clear hrs hown hb hbel hbit hbf hQ hne hal
            obtain ⟨ql, hql⟩ : ∃ ql, Q.length = ql := ⟨_, rfl⟩
            have HQL := Lib.hid hql
            rw [hql] at HO HNE hll ⊢
            clear hql
            go_wp2_with (at_builtin; refine wpList_append_own _ rfl _ _ 27 rfl S 47 i0 (.agg #[.int .i64 0, .int .i64 0]) 2 16 Tryd.underlying27 hi hz0 hz1 hz2 rfl (by decide) _ _ _ rfl (HO.out.alloc _) ⟨wr.heap.size, 0, none⟩ 1 1 [.int .i64 (i : Int), .int .i64 (k : Int)] rfl rfl HNW.out (by simp [Value.oneCell']) (by unfold maxLen; omega) (by omega) (by simp; omega) ?_; intro v' w3 hown' hgrow _; obtain ⟨p', c', rfl⟩ := own_slice hown'; have HO3 := Lib.hid hown'; have HG3 := Lib.hid hgrow; clear hown' hgrow)
            go_roundw
            case rel =>
              refine ⟨k + 1, by go_num, by omega, ?_, ?_, ?_⟩
              · rw [HRS.out, ← List.append_assoc, HQ.out, List.length_append, HQL.out, flatR_append]
                exact HO3.out
              · have h1 : (wr.alloc (.cells #[.int .i64 (i : Int), .int .i64 (k : Int)] 47)).heap[b]? = some (.cells (rowU n B) 56 (0, 0)) := (Below.heap_alloc _ _ _ (lt_of_heap HBB.out)).trans HBB.out
                exact (HG3.out.block b (lt_of_heap h1) (fun e => HNE.out e.symm)).trans h1
              · exact (HBE.out.alloc hsW _).grown HG3.out (by simp; omega) fun g e => (HO.out.lt g e).1
            case measure => simp [intOf]; omega
        · have hkn : k = n := by omega
          subst hkn
          have hdk : decide (k < k) = false := by simp
          have hnk : ¬ (k : Int) < (k : Int) := by omega
          obtain ⟨p2, cp2, rfl⟩ := own_slice hown
          have hps := HPS.out
          rw [← hps] at hown ⊢
          have HO := Lib.hid hown; have HBB := Lib.hid hb; have HBE := Lib.hid hbel
          clear hps hown hb hbel
          obtain ⟨ql, hql⟩ : ∃ ql, (pairsTo B k (i + 1)).length = ql := ⟨_, rfl⟩
          have HQL := Lib.hid hql
          rw [hql] at HO ⊢
          clear hql
          go_wp2_with fail
          go_roundw
          case rel => exact ⟨i + 1, by go_num, by omega, by rw [HQL.out]; exact HO.out, HBB.out, HBE.out⟩
          case measure => simp [intOf]; omega
    · have hin : i = n := by omega
      subst hin
      have hdi : decide (i < i) = false := by simp
      have hni : ¬ (i : Int) < (i : Int) := by omega
      obtain ⟨p, cp, rfl⟩ := own_slice hown
      have HO := Lib.hid hown; have HBE := Lib.hid hbel
      clear hown hb hbel
      obtain ⟨ql, hql⟩ : ∃ ql, (pairsTo B i i).length = ql := ⟨_, rfl⟩
      rw [hql] at HO
      have HQL := Lib.hid hql
      rw [hql]
      clear hql
      go_wp2_with fail
      go_ret
      exact ⟨_, rfl, by rw [HQL.out]; exact HO.out, HBE.out⟩

/-- What follows, as a row. -/
def CloP (n : Nat) (L : List Rq) (w : World) (e : Ending) (w' : World) : Prop := ∃ (a : Option Addr) (c : Nat) (C : List Rq), e = .returned (.tuple #[.slice a C.length c, .int .i64 0]) ∧ C.length ≤ c ∧ ReqsAt w' a C ∧ (∀ x, x ∈ C ↔ ∃ i j : Nat, i < n ∧ j < n ∧ x = ((i : Int), (j : Int)) ∧ Way L i j) ∧ C.length ≤ n * n ∧ Below w.heap.size w w'
set_option maxHeartbeats 1000000 in
theorem ReqV.closure {w : World} {n : Nat} {v : Value} {L : List Rq} (h : ReqV w n v L) (h1 : 1 ≤ n) : Calls Tryd.prog 21 #[.int .i64 (n : Int), v] w (CloP n L w) := by
  have C1 := Lib.hid (h.chk w (Below.refl _ _))
  obtain ⟨a, c, e, _, hr⟩ := h.val
  have C2 := Lib.hid (fun W (hb : Below w.heap.size w W) => behind_any a c L n W h1 h.most h.ok.inn h.len (hr.step hb))
  have hn := h.most
  subst e
  generalize L.length = ll at *
  clear h hr
  go_enter Tryd.func21, Tryd.ntmps21
  go_wp2_with (first | (go_at_call 23; refine (C1.out).mono ?_; clear C1; rintro e w1 ⟨rfl, hb1⟩; have HB1 := Lib.hid hb1; clear hb1) | (go_at_call 35; refine (C2.out _ HB1.out).mono ?_; clear C2; rintro e w2 ⟨b, B, rfl, hbits, hway, hb2⟩; have HB2 := Lib.hid (HB1.out.trans (hb2.mono HB1.out.size)); have HW := Lib.hid hway; have C3 := Lib.hid (pairs_any b n B w2 hn hbits.row hbits.small); clear hb2 hbits hway) | (go_at_call 37; refine (C3.out).mono ?_; clear C3; rintro e w3 ⟨u, rfl, hu, hb3⟩; have HU := Lib.hid hu; obtain ⟨pu, cu, rfl⟩ := own_slice hu; have HB3 := Lib.hid (HB2.out.trans (hb3.mono HB2.out.size)); clear hb3 hu))
  obtain ⟨a3, c3, e3, hc3, hr3, _⟩ := reqs_of_own HU.out rfl
  injection e3 with e4 e5 e6
  subst e4; subst e6
  refine bodyPost_ret (v := .tuple #[.slice pu (pairsTo B n n).length cu, .int .i64 0]) (by simp [results, Tryd.results21, go_sem]) rfl ?_
  refine ⟨pu, cu, pairsTo B n n, rfl, hc3, hr3, fun x => ?_, pairsTo_length B n n, HB3.out⟩
  rw [pairs_mem]
  constructor
  · rintro ⟨i, j, hi, hj, rfl, hb⟩
    exact ⟨i, j, hi, hj, rfl, (HW.out i j hi hj).1 hb⟩
  · rintro ⟨i, j, hi, hj, rfl, hb⟩
    exact ⟨i, j, hi, hj, rfl, (HW.out i j hi hj).2 hb⟩
end Go.Proofs.YtgeldpkopolnfaaDoor
