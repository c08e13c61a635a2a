/- Removable. -/
import Derived.Test.YtgeldpkopolnfaaDoorOmK
import Derived.RegionIn
import Derived.Shelf.RegionOpen
namespace Go.Proofs.YtgeldpkopolnfaaDoor
open Go.RowKit Go.Shelf
set_option linter.all false
attribute [local go_sem] Oper.semAt_some

/-- What can be left out. -/
def remL (L : List Rq) (x : Nat) (l : List Nat) : List Nat := l.filter fun i => clB L (del x i)
theorem remL_snoc (L : List Rq) (x : Nat) (l : List Nat) (i : Nat) : remL L x (l ++ [i]) = remL L x l ++ if clB L (del x i) then [i] else [] := by
  unfold remL
  rw [List.filter_append]
  cases h : clB L (del x i) <;> simp [h]

set_option maxRecDepth 100000 in
set_option maxHeartbeats 4000000 in
theorem ReqV.removable {w : World} {n : Nat} {v : Value} {L : List Rq} (h : ReqV w n v L) (hT : Deb w) {s : Value} {l : List Nat} (hl : SetOk n l) (hs : IdxR w s l) (hcl : ClM L (maskL l)) :
    Calls Tryd.prog 14 #[.int .i64 (n : Int), v, s] w fun e w' => ∃ r, e = .returned (.tuple #[r, .int .i64 0]) ∧ IdxR w' r (remL L (maskL l) (idx (maskL l))) ∧ Below w.heap.size w w' := by
  have hmix : Tryd.prog.follows .mixedOrders = true := by kernel_rfl
  have hro : Fence.wide.round = none := rfl
  have hw1 := hT.1
  obtain ⟨i0, hi, hz0, hz1, hz2⟩ := info_parts info3
  have hb0 : Below w.heap.size w (w.alloc (.cells #[v] 27)) := (Below.refl _ _).alloc (Nat.le_refl _) _
  have C1 := Lib.hid ((h.step hb0).readClosed hl (hs.step hb0) hcl)
  have CC := Lib.hid (fun W x (hb : Below w.heap.size w W) (hx : x < 16777216) => (h.step hb).isClosed hx)
  have hx24 := h.sm hl
  have hbox := Boxed.new w 27 v
  have HBX := Lib.hid hbox; have HB0 := Lib.hid hb0; have HT := Lib.hid hT
  obtain ⟨a, c, e, _, _⟩ := h.val
  obtain ⟨q, cq, e2, _⟩ := hs
  subst e; subst e2
  obtain ⟨ll, hll⟩ : ∃ ll, L.length = ll := ⟨_, rfl⟩
  obtain ⟨sl, hsl⟩ : ∃ sl, l.length = sl := ⟨_, rfl⟩
  obtain ⟨x, hx⟩ : ∃ x, maskL l = x := ⟨_, rfl⟩
  obtain ⟨S0, hS0⟩ : ∃ S0, w.heap.size = S0 := ⟨_, rfl⟩
  have HS0 := Lib.hid hS0
  rw [hll] at C1 CC HBX HB0 ⊢
  rw [hsl] at C1 ⊢
  rw [hx] at C1 hx24 ⊢
  rw [hS0] at HBX hw1
  clear h hl hcl hbox hb0 hll hsl hx hT
  refine (callsIn_wide (n := 8)).1 ?_
  refine callsIn_of_wp_marks Tryd.func14 rfl trivial ?_ hro
  simp only [Tryd.ntmps14, List.size_toArray, List.length_cons, List.length_nil, Nat.reduceAdd, Nat.reduceSub, Array.replicate_succ, Array.replicate_zero, List.push_toArray, List.append_toArray, List.nil_append, List.cons_append]
  have hcb := HBX.out.cell
  gi_wp2_with (refine ⟨trivial, ?_⟩; gi_at_call 30; refine (callsIn_wide.2 C1.out).mono ?_; clear C1; rintro e w1 ⟨rfl, hb1⟩; have HB1 := Lib.hid hb1; clear hb1)
  obtain ⟨S, hS⟩ : ∃ S, w1.heap.size = S := ⟨_, rfl⟩
  rw [hS]
  refine ⟨trivial, ?_⟩
  refine (all_in 7 x _).mono ?_
  rintro e w' ⟨rfl, rfl⟩
  gi_wp2
  have hsS : w.heap.size ≤ S := by rw [← hS]; have := HB1.out.size; simp only [World.size_alloc] at this; omega
  have hS04 : S0 < S := by rw [← hS]; have := HB1.out.size; simp only [World.size_alloc] at this; have := HS0.out; omega
  have b8 := Boxed.new w1 57 (.int .u32 (x : Int))
  have b10 := Boxed.new (w1.alloc (.cells #[.int .u32 (x : Int)] 57)) 33 (.slice none 0 0)
  have bN := Boxed.new ((w1.alloc (.cells #[.int .u32 (x : Int)] 57)).alloc (.cells #[.slice none 0 0] 33)) 57 (.int .u32 (x : Int))
  simp only [World.size_alloc, hS] at b8 b10 bN
  have hb4 : Boxed w1 S0 27 (.slice a ll c) := (HB1.out.block _ (by simp; have := HS0.out; omega)).trans HBX.out
  have hB0 : Below w.heap.size w w1 := HB0.out.trans (HB1.out.mono HB0.out.size)
  have hbel : Below S w1 (((w1.alloc (.cells #[.int .u32 (x : Int)] 57)).alloc (.cells #[.slice none 0 0] 33)).alloc (.cells #[.int .u32 (x : Int)] 57)) := (((Below.refl S w1).alloc (by omega) _).alloc (by simp; omega) _).alloc (by simp; omega) _
  have hst : (∃ v, Boxed (((w1.alloc (.cells #[.int .u32 (x : Int)] 57)).alloc (.cells #[.slice none 0 0] 33)).alloc (.cells #[.int .u32 (x : Int)] 57)) (S + 1) 33 v ∧ (((w1.alloc (.cells #[.int .u32 (x : Int)] 57)).alloc (.cells #[.slice none 0 0] 33)).alloc (.cells #[.int .u32 (x : Int)] 57)).ownsRow S 3 1 v 0 [] ∧ True) := ⟨_, b10.alloc _, World.ownsRow_nil _ _ _ _, trivial⟩
  have hst8 := (b8.alloc (.cells #[.slice none 0 0] 33)).alloc (.cells #[.int .u32 (x : Int)] 57)
  have hT2 := HT.out.below (hB0.trans (hbel.mono hsS)) (by rw [HS0.out]; exact hw1)
  try simp only [World.size_alloc, hS]
  obtain ⟨W1, hW1⟩ : ∃ W1, (((w1.alloc (.cells #[.int .u32 (x : Int)] 57)).alloc (.cells #[.slice none 0 0] 33)).alloc (.cells #[.int .u32 (x : Int)] 57)) = W1 := ⟨_, rfl⟩
  have hW1s : W1.heap.size = S + 3 := by rw [← hW1]; simp [hS]
  rw [hW1] at bN hbel hst hst8 hT2 ⊢
  have HB0' := Lib.hid hB0; have HB4 := Lib.hid hb4
  clear b8 b10 hB0 hb4 hcb
  refine wpIn_rangeFunc_ownG hro (by decide) (gf := 44) (lb := #[.pointer (some ⟨S + 2, 0, none⟩)]) rfl trivial (enters_of Tryd.func44 (by kernel_rfl) rfl)
    (all_stops (8 - 1) (by decide) (S + 2) S (by omega) x hx24 _ (by omega) (by omega) bN.cell hT2) belowK_t (belowK_b (by omega)) (Below.refl _ _) (fun _ => rfl)
    (fun pre W => (∃ v, Boxed W (S + 1) 33 v ∧ W.ownsRow S 3 1 v (remL L x (pre.map (·.1))).length (cellsN (remL L x (pre.map (·.1)))) ∧ True) ∧ Boxed W S 57 (.int .u32 (x : Int)) ∧ Below S w1 W)
    (fun _ _ _ => False)
    (OwnFrom.and (Own.from (holdsRow_own S (S + 1) 33 3 1 (fun pre : List (Ix x) => (remL L x (pre.map (·.1))).length) (fun pre : List (Ix x) => cellsN (remL L x (pre.map (·.1)))) (fun _ _ => True)) _)
      (OwnFrom.and (fun _ A B row hs hg hr => hs.kept hg (fun e => by have := (hr _ e.symm).1; omega)) (ownFrom_below (by omega) (by omega))))
    (fun _ _ _ _ _ hs _ _ => hs)
    ⟨hst, hst8, hbel⟩
    (fun y => { tmps := #[.int .i64 (n : Int), .slice a ll c, .slice q sl cq, undef, .pointer (some ⟨S0, 0, none⟩), undef, .slice none 0 0, .int .i64 0, .pointer (some ⟨S, 0, none⟩), .int .i64 0, .pointer (some ⟨S + 1, 0, none⟩), .int .i64 ((y.1 : Nat) : Int), .tuple #[.int .u32 (x : Int), .int .i64 0], .int .i64 (n : Int), .slice a ll c, .slice q sl cq, .tuple #[.int .u32 (x : Int), .int .i64 0], .int .u32 (x : Int), .int .i64 0, .int .i64 0, .bool false, undef, .int .u32 (x : Int), .func (.func 44) #[] #[.pointer (some ⟨S + 2, 0, none⟩)], .int .i64 ((y.1 : Nat) : Int), undef, undef, undef, undef, undef, undef, undef, undef, undef, undef], defers := [] }) ?assign ?body ?done ?stop
  case assign =>
    intro l y W K hK
    gi_wp2
    exact hK
  case body =>
    rintro l pre y W ⟨⟨v, hv, hrow, _⟩, h8, hbel⟩ hlt2
    have hy24 := (idx_lt y.2).1
    have hsn := remL_snoc L x (pre.map (·.1)) y.1
    rw [show pre.map (fun y => y.1) ++ [y.1] = (pre ++ [y]).map (fun y => y.1) by simp] at hsn
    have hrl : (remL L x (pre.map (·.1))).length ≤ pre.length := by unfold remL; exact Nat.le_trans (List.length_filter_le _ _) (by simp)
    have hlx := idx_length x
    generalize remL L x (pre.map (·.1)) = M at *
    have hc8 := h8.cell
    have hcv := hv.cell
    have hbW : Below w.heap.size w W := HB0'.out.trans (hbel.mono hsS)
    have hc4 : W.cell? ⟨S0, 0, none⟩ = some (.slice a ll c) := (hbel.cell (p := ⟨S0, 0, none⟩) hS04).trans HB4.out.cell
    have CW := Lib.hid (fun W => without_any x y.1 hx24 hy24 W)
    have hd24 : del x y.1 < 16777216 := andN_lt (n := 24) hx24
    have CI := Lib.hid (CC.out W.drew (del x y.1) (below_drewN hbW 1) hd24)
    have hd8 : W.drew.cell? ⟨S, 0, none⟩ = _ := hc8
    have hd4 : W.drew.cell? ⟨S0, 0, none⟩ = _ := hc4
    have hSW : S + 1 < W.heap.size := hv.lt
    cases hcb : clB L (del x y.1)
    · rw [hcb] at CI hsn
      rw [if_neg (by decide), List.append_nil] at hsn
      generalize del x y.1 = d at *
      clear hcb
      gi_wp2
      gi_region_with_o (first | (refine ⟨trivial, ?_⟩; gi_at_call 33; refine (CallsIn.inRound l (callsIn_wide.2 (CW.out _))).mono ?_; rintro e w' ⟨rfl, rfl⟩) | (refine ⟨trivial, ?_⟩; gi_at_call 29; refine (CallsIn.inRound l (callsIn_wide.2 CI.out)).mono ?_; rintro e w5 ⟨rfl, hb5⟩))
      all_goals
        have hb5' : Below W.heap.size W w5 := (below_drewN (Below.refl W.heap.size W) 1).trans hb5
        have k5 : W.grownBy w5 none := keepsNone hb5' (Nat.le_refl _)
        clear hb5
        gi_wp2
        refine ⟨(KeepsOthers.of_grownBy k5 (fun j o e _ => by cases e)).from _, hb5'.mono (by omega), ?_⟩
        dsimp only
        rw [hsn]
        exact ⟨⟨v, hv.kept k5 (by simp), hrow.kept k5 (Classical.em _), trivial⟩, h8.kept k5 (by simp), hbel.trans (hb5'.mono (by omega))⟩
    · rw [hcb] at CI hsn
      rw [if_pos rfl] at hsn
      generalize del x y.1 = d at *
      clear hcb
      gi_wp2
      gi_region_with_o (first | (refine ⟨trivial, ?_⟩; gi_at_call 33; refine (CallsIn.inRound l (callsIn_wide.2 (CW.out _))).mono ?_; rintro e w' ⟨rfl, rfl⟩) | (refine ⟨trivial, ?_⟩; gi_at_call 29; refine (CallsIn.inRound l (callsIn_wide.2 CI.out)).mono ?_; rintro e w5 ⟨rfl, hb5⟩))
      all_goals
        have hb5' : Below W.heap.size W w5 := (below_drewN (Below.refl W.heap.size W) 1).trans hb5
        have k5 : W.grownBy w5 none := keepsNone hb5' (Nat.le_refl _)
        have hv5 := hv.kept k5 (by simp)
        have hrow5 := hrow.kept k5 (Classical.em _)
        have h85 := h8.kept k5 (by simp)
        have hcv5 := hv5.cell
        have hsz5 := k5.size
        clear hb5
        gi_wp2_with (gi_at_builtin; refine wpListIn_append_own _ rfl _ _ 33 rfl S 3 i0 (.int .i64 0) 1 8 Tryd.underlying33 hi hz0 hz1 hz2 rfl (by decide) _ _ _ rfl (hrow5.alloc _) ⟨w5.heap.size, 0, none⟩ 1 1 [.int .i64 ((y.1 : Nat) : Int)] rfl rfl (cell_one_new _ _ _) (by simp [Value.oneCell']) (by unfold maxLen; omega) (by omega) (by simp; omega) ?_; intro v' w6 hown' hgrow' _; obtain ⟨g', cap', rfl⟩ := ownsRow_succ hown'; obtain ⟨hv1, hv2', hr2, hk2, hbb2⟩ := hv5.appended (by decide) hrow5 (by omega) (by omega) hown' hgrow'; have hc1 := hv1.cell; have hf1 := hv1.frozen; have h86 := ((h85.alloc _).kept hgrow' (h85.not_row (by decide) hrow5)).kept (grownBy_setCell' w6 (S + 1) (.slice (some ⟨g', 0, none⟩) (M.length + 1) cap')) (by simp))
        refine ⟨((KeepsOthers.of_grownBy k5 (fun j o e _ => by cases e)).trans hk2).from _, (hb5'.mono (by omega)).trans hbb2, ?_⟩
        dsimp only
        rw [hsn]
        refine ⟨⟨_, hv2', ?_, trivial⟩, h86, (hbel.trans (hb5'.mono (by omega))).trans hbb2⟩
        rw [List.length_append, cellsN_snoc]
        exact hr2
  case done =>
    rintro D ys W hD rfl ⟨⟨v, hv, hrow, _⟩, h8, hbel⟩ hK
    rw [ixs_val] at hrow
    have hcv := hv.cell
    have hres := idxR_of_own hrow
    obtain ⟨pv, cv, rfl⟩ := own_slice hrow
    obtain ⟨M, hM⟩ : ∃ M, remL L x (idx x) = M := ⟨_, rfl⟩
    rw [hM] at hres hcv
    have HRES := Lib.hid hres; have HM := Lib.hid hM
    obtain ⟨ml, hml⟩ : ∃ ml, M.length = ml := ⟨_, rfl⟩
    rw [hml] at HRES hcv
    have HB := Lib.hid (HB0'.out.trans (hbel.mono hsS))
    clear hrow hres hM hml
    gi_wp2
    refine ⟨by simp, .inl ⟨_, _, rfl, run_takeDeferred hK, ?_⟩⟩
    refine ⟨.tuple #[.slice pv ml cv, .int .i64 0], (by simp [results, Tryd.results14, go_sem]), ?_⟩
    rw [HM.out]
    refine ⟨_, rfl, idx_mks HRES.out hK, HB.out.trans ((Below.refl _ W).grown (grownBy_putObj' W D _) ?_ (fun k e => by cases e; omega))⟩
    have := HB.out.size; omega
  case stop =>
    rintro D c pre W _ _ h _
    exact h.elim
end Go.Proofs.YtgeldpkopolnfaaDoor
