/- greater. -/
import Derived.Test.YtgeldpkopolnfaaDoorOmS
namespace Go.Proofs.YtgeldpkopolnfaaDoor
open Go.RowKit Go.Shelf
set_option linter.all false
attribute [local go_sem] Oper.semAt_some

theorem MetAt.others {W W' : World} {b : Nat} {N : List Nat} (h : MetAt W b N) (hk : KeepsOthers W W') : MetAt W' b N := by
  obtain ⟨D, ⟨es, cl, h1, h2⟩, h3⟩ := h
  exact ⟨D, ⟨es, cl, hk.same b _ h1 rfl, h2⟩, h3⟩
theorem row_ne_map {W : World} {base e size n : Nat} {v : Value} {xs : List Value} {b : Nat} (h : W.ownsRow base e size v n xs) (hm : ∃ es c, W.heap[b]? = some (.map es c)) : v.ownBlock ≠ some b := by
  intro e2
  obtain ⟨es, cl, hm⟩ := hm
  rcases h.2 with ⟨rfl, _⟩ | ⟨g, cap, cur, rfl, _, hg, _⟩
  · simp [Value.ownBlock] at e2
  · obtain rfl : g = b := by simpa [Value.ownBlock] using e2
    rw [hm] at hg; cases hg
theorem row_mks {W : World} {v : Value} {N : List Nat} {D : Nat} (h : RowM W v N) (hD : W.heap[D]? = some (.deferred (some []))) : RowM (W.putObj D (.deferred none)) v N := by
  obtain ⟨a, c, e, hc, h⟩ := h
  refine ⟨a, c, e, hc, fun j hj => ?_⟩
  obtain ⟨b, o, e2, h2⟩ := h j hj
  exact ⟨b, o, e2, cell_kept h2 (grownBy_putObj' _ D _) (fun r e => by cases e; exact ⟨_, hD, rfl⟩)⟩
/-- What greater keeps from round to round. -/
structure GOut (S : Nat) (w : World) (M : List Nat) (ds : List Nat) (W : World) : Prop where
  row : ∃ v, Boxed W S 55 v ∧ W.ownsRow S 57 1 v M.length (cellsU M)
  met : MetAt W (S + 1) M
  box : Boxed W (S + 2) 74 (.map (some (S + 1)))
  defs : Defs ds W
  nodup : ds.Nodup
  low : ∀ D ∈ ds, S + 2 < D
  below : Below S w W

theorem info57 : (Tryd.prog.info? 57).map (fun i => (i.zero, i.size, i.bytes)) = some (some (.int .u32 0), 1, 4) := by kernel_rfl

set_option maxRecDepth 100000 in
set_option maxHeartbeats 4000000 in
theorem greater_any (a : Option Addr) (c : Nat) (L : List Rq) (n : Nat) (q : Option Addr) (c2 : Nat) (V : List Nat) (w : World) (hn : n ≤ 24) (hin : Inn n L) (hl : L.length ≤ 900) (hL : ReqsAt w a L)
    (hVl : V.length ≤ 16777216) (hV : ∀ s ∈ V, s < 16777216) (hq : ∀ j, j < V.length → ∃ b o, q = some ⟨b, o, none⟩ ∧ w.cell? ⟨b, o + j, none⟩ = some (.int .u32 ((V.getD j 0 : Nat) : Int))) (hT : Deb w) :
    Calls Tryd.prog 26 #[.int .i64 (n : Int), .slice a L.length c, .slice q V.length c2] w fun e W' => ∃ v N', e = .returned v ∧ N'.Perm (nextL n L V) ∧ RowM W' v N' ∧ (∀ g, v.ownBlock = some g → w.heap.size ≤ g) ∧ Below w.heap.size w W' := by
  have hro : Fence.wide.round = none := rfl
  have hw1 := hT.1
  obtain ⟨i0, hi, hz0, hz1, hz2⟩ := info_parts info57
  have hmm := @run_makeMap Tryd.prog
  obtain ⟨S, hS⟩ : ∃ S, w.heap.size = S := ⟨_, rfl⟩
  have hg0 : GOut S w [] [] (((w.alloc (.cells #[.slice none 0 0] 55)).alloc (.map #[] 0)).alloc (.cells #[.map (some (S + 1))] 74)) := by
    have h2 := MetAt.made (w.alloc (.cells #[.slice none 0 0] 55))
    have h3 := Boxed.new ((w.alloc (.cells #[.slice none 0 0] 55)).alloc (.map #[] 0)) 74 (.map (some (S + 1)))
    simp only [World.size_alloc, hS] at h2 h3
    refine ⟨⟨_, ?_, World.ownsRow_nil _ _ _ _⟩, h2.kept (World.grownBy_alloc _ _ none) (by simp), h3, Defs.nil _, List.nodup_nil, (fun D hD => by cases hD), ?_⟩
    · have h1 := Boxed.new w 55 (.slice none 0 0)
      rw [hS] at h1
      exact (h1.alloc _).alloc _
    · exact ((((Below.refl S w).alloc (by omega) _).alloc (by simp; omega) _).alloc (by simp; omega) _)
  have HL := Lib.hid hL; have HIN := Lib.hid hin; have HV := Lib.hid hV; have HQ := Lib.hid hq; have HT := Lib.hid hT; have HG := Lib.hid hg0
  obtain ⟨N, hN⟩ : ∃ N, V.length = N := ⟨_, rfl⟩
  have HN := Lib.hid hN
  have CR := Lib.hid (fun W s (hs : s < 16777216) (hW : Below S w W) => ready_any a c L n s W hn hs hin hl (hL.step (by rw [hS]; exact hW)))
  obtain ⟨ll, hll⟩ : ∃ ll, L.length = ll := ⟨_, rfl⟩
  rw [hN] at hVl ⊢
  rw [hll] at CR ⊢
  clear hL hin hV hq hT hg0 hN hl hll
  refine (callsIn_wide (n := 8)).1 ?_
  refine callsIn_of_wp_marks Tryd.func26 rfl trivial ?_ hro
  simp only [Tryd.ntmps26, List.size_toArray, List.length_cons, List.length_nil, Nat.reduceAdd, Nat.reduceSub, Array.replicate_succ, Array.replicate_zero, List.push_toArray, List.append_toArray, List.nil_append, List.cons_append]
  gi_wp2
  simp only [World.size_alloc, hS, Nat.add_assoc, Nat.reduceAdd]
  refine wpIn_loop (fun a' W => ∃ (j : Nat) (ds : List Nat) (u10 u11 u12 u17 u18 u19 u20 u21 u22 u23 u24 u25 u26 u27 u28 u29 u30 u31 u32 u33 u34 u35 u36 u37 u38 u39 : Value), a' = { tmps := #[.int .i64 (n : Int), .slice a ll c, .slice q N c2, undef, undef, undef, .slice none 0 0, .pointer (some ⟨S, 0, none⟩), .pointer (some ⟨S + 2, 0, none⟩), undef, u10, u11, u12, .map (some (S + 1)), .slice q N c2, .int .i64 (N : Int), .int .i64 (j : Int), u17, u18, u19, u20, u21, u22, u23, u24, u25, u26, u27, u28, u29, u30, u31, u32, u33, u34, u35, u36, u37, u38, u39, undef, undef, undef], defers := mks ds } ∧ j ≤ N ∧ GOut S w (nextL n L (V.take j)) ds W) (fun a' _ => N - (intOf (a'.tmps.getD 16 undef)).toNat) ?start ?round
  case start => exact ⟨0, [], _, _, _, _, _, _, _, _, _, _, _, _, _, _, _, _, _, _, _, _, _, _, _, _, _, _, rfl, Nat.zero_le _, HG.out⟩
  case round =>
    rintro _ wr ⟨j, ds, u10, u11, u12, u17, u18, u19, u20, u21, u22, u23, u24, u25, u26, u27, u28, u29, u30, u31, u32, u33, u34, u35, u36, u37, u38, u39, rfl, hj, hG⟩
    by_cases hlt : j < N
    · have hj0 : (0 : Int) ≤ (j : Int) := by omega
      have hj1 : (j : Int) < (N : Int) := by omega
      have hdj : decide (j < N) = true := decide_eq_true hlt
      have hjV : j < V.length := by rw [HN.out]; exact hlt
      obtain ⟨bq, oq, hqe, c0⟩ := HQ.out j hjV
      subst hqe
      have c0 := cell_later' (by rw [hS]; exact hG.below) c0
      have hs := HV.out (V.getD j 0) (by rw [List.getD, List.getElem?_eq_getElem hjV]; exact List.getElem_mem hjV)
      obtain ⟨s, hsv⟩ : ∃ s, V.getD j 0 = s := ⟨_, rfl⟩
      rw [hsv] at c0 hs
      have HG1 := Lib.hid hG
      clear hG HG
      gi_wp2_with (first | (refine ⟨trivial, ?_⟩; gi_at_call 31; refine (callsIn_wide.2 (CR.out _ s hs (HG1.out.below.alloc (by have := HG1.out.below.size; omega) _))).mono ?_; rintro e w1 ⟨rfl, hb1⟩) | (refine ⟨trivial, ?_⟩; gi_at_call 32; refine (all_in 7 _ _).mono ?_; rintro e w' ⟨rfl, rfl⟩))
      have hb2 : Below S w (w1.alloc (.cells #[.int .u32 ((rdy n L s : Nat) : Int)] 57)) := by
        have h0 := (HG1.out.below.alloc (by have := HG1.out.below.size; omega) (.cells #[.int .u32 (s : Int)] 57))
        exact (h0.trans (hb1.mono (by rw [← hS]; exact h0.size))).alloc (by have := hb1.size; have := h0.size; omega) _
      have hR : rdy n L s < 16777216 := Nat.lt_of_lt_of_le (rdy_lt n L s) (Nat.pow_le_pow_right (n := 2) (by decide) (j := 24) hn)
      have hnx := nextL_snoc n L (V.take j) s
      have htk : V.take (j + 1) = V.take j ++ [s] := by rw [← hsv, List.take_succ, List.getElem?_eq_getElem hjV]; simp [List.getD, hjV]
      rw [← htk] at hnx
      have hsm : Sm (nextL n L (V.take j)) := sm_next fun t ht => HV.out t (List.mem_of_mem_take ht)
      obtain ⟨R, hRe⟩ : ∃ R, rdy n L s = R := ⟨_, rfl⟩
      rw [hRe] at hb2 hR hnx ⊢
      obtain ⟨Nj, hNj⟩ : ∃ Nj, nextL n L (V.take j) = Nj := ⟨_, rfl⟩
      rw [hNj] at hnx hsm
      have hG1 := HG1.out
      rw [hNj] at hG1
      -- the state behind the two allocations and the call
      have hsz1 : wr.heap.size < w1.heap.size := by have := hb1.size; simp only [World.size_alloc] at this; omega
      have hS2 : S + 2 < wr.heap.size := hG1.box.lt
      have kAll : wr.grownBy (w1.alloc (.cells #[.int .u32 (R : Int)] 57)) none := by
        have := ((Below.refl wr.heap.size wr).alloc (Nat.le_refl _) (.cells #[.int .u32 (s : Int)] 57))
        have h3 := (this.trans (hb1.mono this.size)).alloc (by omega) (.cells #[.int .u32 (R : Int)] 57)
        exact ⟨h3.os, h3.tape, h3.output, h3.size, fun k hk _ => h3.block k hk⟩
      obtain ⟨v0, hv0, hrow0⟩ := hG1.row
      have b10 : Boxed (w1.alloc (.cells #[.int .u32 (R : Int)] 57)) wr.heap.size 57 (.int .u32 (s : Int)) := by
        have h1 := Boxed.new wr 57 (.int .u32 (s : Int))
        have h2 : Boxed w1 wr.heap.size 57 (.int .u32 (s : Int)) := (hb1.block _ (by simp)).trans h1
        exact h2.alloc _
      have hI0 : (∃ v, Boxed (w1.alloc (.cells #[.int .u32 (R : Int)] 57)) S 55 v ∧ (w1.alloc (.cells #[.int .u32 (R : Int)] 57)).ownsRow S 57 1 v Nj.length (cellsU Nj) ∧ v.ownBlock ≠ some wr.heap.size) := by
        refine ⟨v0, hv0.kept kAll (by simp), hrow0.kept kAll (Classical.em _), ?_⟩
        intro e
        have := (hrow0.lt _ e).2
        omega
      have bN := Boxed.new w1 57 (.int .u32 (R : Int))
      have hT2 := HT.out.below hb2 (by omega)
      obtain ⟨W1, hW1⟩ : ∃ W1, w1.alloc (.cells #[.int .u32 (R : Int)] 57) = W1 := ⟨_, rfl⟩
      have hW1s : W1.heap.size = w1.heap.size + 1 := by rw [← hW1]; simp
      have hmet1 := hG1.met.kept kAll (by simp)
      have hbox1 := hG1.box.kept kAll (by simp)
      have hdef1 := hG1.defs.grown kAll (by simp)
      rw [hW1] at hb2 hI0 b10 bN hT2 hmet1 hbox1 hdef1 ⊢
      have hdlt : ∀ D ∈ ds, D < W1.heap.size := fun D hD => hdef1.lt hD
      clear hb1 kAll hG1 hv0 hrow0
      refine wpIn_rangeFunc_ownG hro (by decide) (gf := 44) (lb := #[.pointer (some ⟨w1.heap.size, 0, none⟩)]) rfl trivial (enters_of Tryd.func44 (by kernel_rfl) rfl)
        (all_stops (8 - 1) (by decide) w1.heap.size S (by omega) R hR _ (by omega) (by omega) bN.cell hT2) belowK_t (belowK_b (by omega)) (Below.refl _ _) (fun _ => rfl)
        (fun pre W => (∃ v, Boxed W S 55 v ∧ W.ownsRow S 57 1 v (addS s Nj (pre.map (·.1))).length (cellsU (addS s Nj (pre.map (·.1)))) ∧ v.ownBlock ≠ some wr.heap.size) ∧ (MetAt W (S + 1) (addS s Nj (pre.map (·.1))) ∧ Boxed W (S + 2) 74 (.map (some (S + 1))) ∧ Boxed W wr.heap.size 57 (.int .u32 (s : Int))) ∧ Defs ds W ∧ Below S w W)
        (fun _ _ _ => False)
        (OwnFrom.and (Own.from (holdsRow_own S S 55 57 1 (fun pre : List (Ix R) => (addS s Nj (pre.map (·.1))).length) (fun pre : List (Ix R) => cellsU (addS s Nj (pre.map (·.1)))) (fun _ v => v.ownBlock ≠ some wr.heap.size)) _)
          (OwnFrom.and (fun _ A B row hs hg hr => ⟨hs.1.kept hg (fun e => by have := (hr _ e.symm).1; omega), hs.2.1.kept hg (fun e => by have := (hr _ e.symm).1; omega), hs.2.2.kept hg (fun e => by have := (hr _ e.symm).1; omega)⟩)
            (OwnFrom.and (Defs.ownFrom hdlt) (ownFrom_below (by rw [hS]; exact Nat.le_refl _) (by omega)))))
        (fun _ _ _ _ _ hs _ _ => hs)
        ⟨hI0, ⟨hmet1, hbox1, b10⟩, hdef1, hb2⟩
        (fun x => { tmps := #[.int .i64 (n : Int), .slice a ll c, .slice (some ⟨bq, oq, none⟩) N c2, undef, undef, undef, .slice none 0 0, .pointer (some ⟨S, 0, none⟩), .pointer (some ⟨S + 2, 0, none⟩), undef, .pointer (some ⟨wr.heap.size, 0, none⟩), .int .i64 ((x.1 : Nat) : Int), u12, .map (some (S + 1)), .slice (some ⟨bq, oq, none⟩) N c2, .int .i64 (N : Int), .int .i64 (j : Int), .bool true, .pointer (some ⟨bq, oq + j, none⟩), .int .u32 (s : Int), .int .u32 (s : Int), .int .i64 (n : Int), .slice a ll c, .int .u32 (R : Int), .func (.func 44) #[] #[.pointer (some ⟨w1.heap.size, 0, none⟩)], .int .i64 ((x.1 : Nat) : Int), u26, u27, u28, u29, u30, u31, u32, u33, u34, u35, u36, u37, u38, u39, undef, undef, undef], defers := [] }) ?assign ?body ?done ?stop
      case assign =>
        intro l x W K hK
        gi_wp2
        exact hK
      case body =>
        rintro l pre x W ⟨⟨v, hv, hrow, hvb⟩, ⟨hmet, hbox, hb10⟩, hdef, hbel⟩ hlt2
        have hx24 := (idx_lt x.2).1
        have hsnoc : addS s Nj ((pre ++ [x]).map (·.1)) = stepN (addS s Nj (pre.map (·.1))) (s ||| 2 ^ x.1) := by
          rw [List.map_append, List.map_cons, List.map_nil, addS_snoc]
        have ht24 : s ||| 2 ^ x.1 < 16777216 := Nat.or_lt_two_pow (n := 24) hs (Nat.pow_lt_pow_right (by decide) hx24)
        have hMs : Sm (addS s Nj (pre.map (·.1))) := hsm.add hs (fun i hi => by obtain ⟨y, _, rfl⟩ := List.mem_map.1 hi; exact (idx_lt y.2).1)
        have hML := hMs.length
        have HW := Lib.hid (with_any s x.1 hs hx24 W)
        have hlook := hmet.look ht24
        obtain ⟨w2, hrun, hmet2, hgr⟩ := hmet.put ht24 (by unfold maxLen; omega)
        generalize addS s Nj (pre.map (·.1)) = M at *
        generalize s ||| 2 ^ x.1 = t at *
        have hc10 := hb10.cell
        have hcb := hbox.cell
        by_cases htM : t ∈ M
        · rw [decide_eq_true htM] at hlook
          have hst : stepN M t = M := by unfold stepN; rw [if_pos htM]
          clear hrun
          gi_wp2_with (refine ⟨trivial, ?_⟩; gi_at_call 34; refine (CallsIn.inRound l (callsIn_wide.2 HW.out)).mono ?_; rintro e w' ⟨rfl, rfl⟩)
          refine ⟨KeepsFrom.refl _ _, Below.refl _ _, ?_⟩
          dsimp only
          rw [hsnoc, hst]
          exact ⟨⟨v, hv, hrow, hvb⟩, ⟨hmet, hbox, hb10⟩, hdef, hbel⟩
        · rw [decide_eq_false htM] at hlook
          have hst : stepN M t = M ++ [t] := by unfold stepN; rw [if_neg htM]
          have hnm := row_ne_map hrow hmet.heap
          have hv2 : Boxed w2 S 55 v := hv.kept hgr (by simp)
          have hrow2 : w2.ownsRow S 57 1 v M.length (cellsU M) := hrow.kept hgr (.inr hnm)
          have hbox2 := hbox.kept hgr (by simp)
          have hb102 := hb10.kept hgr (by simp; omega)
          have hdef2 := hdef.grown hgr (fun D hD e => by have := HG1.out.low D hD; injection e; omega)
          have hcv2 := hv2.cell
          have hsz2 := hgr.size
          have hSW : S < W.heap.size := hv.lt
          gi_wp2_with (first | (refine ⟨trivial, ?_⟩; gi_at_call 34; refine (CallsIn.inRound l (callsIn_wide.2 HW.out)).mono ?_; rintro e w' ⟨rfl, rfl⟩) | (gi_at_builtin; refine wpListIn_append_own_at _ rfl _ _ 55 rfl S 57 i0 (.int .u32 0) 1 4 Tryd.underlying55 hi hz0 hz1 hz2 rfl (by decide) _ _ _ rfl (hrow2.alloc _) ⟨w2.heap.size, 0, none⟩ 1 1 [.int .u32 (t : Int)] rfl rfl (cell_one_new _ _ _) (by simp [Value.oneCell']) (by unfold maxLen; omega) (by omega) (by simp; omega) ?_; intro v' w3 hown' hgrow' _ hat; obtain ⟨g', cap', rfl⟩ := ownsRow_succ hown'; obtain ⟨hv1, hv2', hr2, hk2, hbb2⟩ := hv2.appended (by decide) hrow2 (by omega) (Nat.le_refl _) hown' hgrow'; have hc1 := hv1.cell; have hf1 := hv1.frozen))
          have hkp := ((Below.refl S _).grown hgr (by omega) (fun k e => by injection e; omega)).trans hbb2
          refine ⟨(KeepsFrom.of_grownBy hgr (fun j e => by injection e; omega)).trans (hk2.from _), hkp, ?_⟩
          dsimp only
          rw [hsnoc, hst]
          refine ⟨⟨_, hv2', by simpa [cellsU] using hr2, ?_⟩, ⟨hmet2.others hk2, ((hbox2.alloc _).kept hgrow' (hbox2.not_row (by decide) hrow2)).kept (grownBy_setCell' _ S _) (by simp), ((hb102.alloc _).kept hgrow' (fun e => hvb e.symm)).kept (grownBy_setCell' _ S _) (by simp; omega)⟩, hdef2.others hk2, hbel.trans hkp⟩
          rcases hat with h | h
          · rw [h]; exact hvb
          · have := hb102.lt; rw [h]; simp; omega
      case done =>
        rintro D ys W hD rfl ⟨⟨v, hv, hrow, hvb⟩, ⟨hmet, hbox, hb10⟩, hdef, hbel⟩ hK
        rw [ixs_val, ← hnx] at hrow hmet
        gi_wp2
        have e1 : ((j : Int) + 1) = ((j + 1 : Nat) : Int) := by omega
        rw [e1]
        refine ⟨⟨j + 1, D :: ds, _, _, _, _, _, _, _, _, _, _, _, _, _, _, _, _, _, _, _, _, _, _, _, _, _, _, rfl, by omega, ⟨v, hv, hrow⟩, hmet, hbox, ?_, ?_, ?_, hbel⟩, ?_⟩
        · intro D' hD'
          rcases List.mem_cons.1 hD' with rfl | h
          · exact hK
          · exact hdef D' h
        · exact List.nodup_cons.2 ⟨fun h => by have := hdlt D h; omega, HG1.out.nodup⟩
        · intro D' hD'
          rcases List.mem_cons.1 hD' with rfl | h
          · omega
          · exact HG1.out.low D' h
        · simp [intOf]; omega
      case stop =>
        rintro D c pre W _ _ h _
        exact h.elim
    · have hjN : j = N := by omega
      subst hjN
      have hdj : decide (j < j) = false := by simp
      have hnj : ¬ (j : Int) < (j : Int) := by omega
      rw [List.take_of_length_le (by rw [HN.out]; exact Nat.le_refl _)] at hG
      have hsm : Sm (nextL n L V) := sm_next HV.out
      obtain ⟨v, hv, hrow⟩ := hG.row
      have hc := hv.cell
      have hSW : S < wr.heap.size := hv.lt
      have HS := Lib.hid (sortSets_any wr S v _ (by omega) hsm.2 (by have := hsm.length; omega) (HT.out.below hG.below (by omega)) hrow)
      have hne : ∀ D ∈ ds, v.ownBlock ≠ some D := fun D hD e2 => by
        have hd := hG.defs D hD
        rcases hrow.2 with ⟨rfl, _⟩ | ⟨g, cap, cur, rfl, _, hg, _⟩
        · simp [Value.ownBlock] at e2
        · obtain rfl : g = D := by simpa [Value.ownBlock] using e2
          rw [hd] at hg; cases hg
      have hlow : ∀ g, v.ownBlock = some g → S ≤ g := fun g e2 => (hrow.lt g e2).1
      have HG2 := Lib.hid hG
      clear hG
      gi_wp2_with (refine ⟨trivial, ?_⟩; gi_at_call 41; refine (callsIn_wide.2 HS.out).mono ?_; rintro e w2 ⟨rfl, N', hp, hrm, hg⟩; have hv2 := hv.kept hg (hv.not_row (by decide) hrow); have hc2 := hv2.cell)
      refine leaves_marks (by simp) (fun W => RowM W v N' ∧ Below S w W) ds _ (HG2.out.defs.grown hg hne) HG2.out.nodup ⟨hrm, HG2.out.below.grown hg (by omega) hlow⟩ (fun W D hD hS' hK => ⟨row_mks hS'.1 hK, hS'.2.trans ?_⟩) (fun W hS' => ⟨_, results_tmp rfl _ _ _, v, N', rfl, hp, hS'.1, by rw [hS]; exact hlow, by rw [hS]; exact hS'.2⟩)
      have := HG2.out.low D hD
      have := belowK_b (w := w) (Nat.le_refl _) W D _ (.deferred none) (by omega) hK rfl rfl
      rw [hS] at this
      exact this
end Go.Proofs.YtgeldpkopolnfaaDoor
