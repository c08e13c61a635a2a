/- First. -/
import Derived.Test.YtgeldpkopolnfaaDoorOmH
namespace Go.Proofs.YtgeldpkopolnfaaDoor
open Go.RowKit Go.Shelf
set_option linter.all false
attribute [local go_sem] Oper.semAt_some

/-- Each index is the least that can be added behind those ahead of it. -/
def Chn (n : Nat) (L : List Rq) (F : List Nat) : Prop := ∀ j, j < F.length → (idx (rdy n L (maskL (F.take j)))).head? = F[j]?
theorem Chn.nil (n : Nat) (L : List Rq) : Chn n L [] := fun j hj => by simp at hj
theorem Chn.snoc {n : Nat} {L : List Rq} {F : List Nat} (h : Chn n L F) {i : Nat} (hi : (idx (rdy n L (maskL F))).head? = some i) : Chn n L (F ++ [i]) := fun j hj => by
  rcases Nat.lt_or_ge j F.length with h1 | h1
  · rw [List.getElem?_append_left h1, List.take_append_of_le_length (Nat.le_of_lt h1)]
    exact h j h1
  · obtain rfl : j = F.length := by simp at hj; omega
    rw [List.getElem?_append_right (Nat.le_refl _), Nat.sub_self, List.take_append_of_le_length (Nat.le_refl _), List.take_length]
    exact hi
/-- What First has found so far. -/
structure FirstOk (n : Nat) (L : List Rq) (F : List Nat) : Prop where
  chn : Chn n L F
  nodup : F.Nodup
  low : ∀ i ∈ F, i < n
  cl : ClM L (maskL F)
theorem FirstOk.nil (n : Nat) (L : List Rq) : FirstOk n L [] := ⟨Chn.nil n L, List.nodup_nil, (fun i hi => by cases hi), cl_zero L⟩
theorem FirstOk.length {n : Nat} {L : List Rq} {F : List Nat} (h : FirstOk n L F) : F.length ≤ n := nodup_lt_length n F h.nodup h.low
theorem FirstOk.lt {n : Nat} {L : List Rq} {F : List Nat} (h : FirstOk n L F) (hn : n ≤ 24) : maskL F < 16777216 := Nat.lt_of_lt_of_le (maskL_lt h.low) (Nat.pow_le_pow_right (n := 2) (by decide) (j := 24) hn)
theorem FirstOk.more {n : Nat} {L : List Rq} {F : List Nat} (h : FirstOk n L F) (hok : Ok n L) (hn : n ≤ 24) (hl : F.length < n) : ∃ i r, idx (rdy n L (maskL F)) = i :: r ∧ FirstOk n L (F ++ [i]) := by
  have hex : ∃ i, i < n ∧ i ∉ F := by
    apply Classical.byContradiction
    intro hno
    have hp : F.Perm (List.range n) := by
      rw [List.perm_ext_iff_of_nodup h.nodup List.nodup_range]
      intro i
      rw [List.mem_range]
      constructor
      · exact h.low i
      · intro hi
        apply Classical.byContradiction
        intro hi2
        exact hno ⟨i, hi, hi2⟩
    have := hp.length_eq
    rw [List.length_range] at this
    omega
  obtain ⟨i0, hi0, hni⟩ := hex
  obtain ⟨i1, hr1⟩ := addable (x := maskL F) hok hi0 (by rw [maskL_bit]; exact decide_eq_false hni)
  have hR24 : rdy n L (maskL F) < 16777216 := Nat.lt_of_lt_of_le (rdy_lt n L _) (Nat.pow_le_pow_right (n := 2) (by decide) (j := 24) hn)
  have hm1 : i1 ∈ idx (rdy n L (maskL F)) := (mem_idx hR24).2 (rdy_bit.2 hr1)
  cases hid : idx (rdy n L (maskL F)) with
  | nil => rw [hid] at hm1; cases hm1
  | cons i r =>
    have hri : Rdy n L (maskL F) i := rdy_bit.1 ((mem_idx hR24).1 (by rw [hid]; simp))
    refine ⟨i, r, rfl, h.chn.snoc (by rw [hid]; rfl), ?_, fun j hj => ?_, ?_⟩
    · rw [List.nodup_append]
      refine ⟨h.nodup, by simp, fun x hx y hy e => ?_⟩
      rw [List.mem_singleton] at hy
      subst hy; subst e
      have := hri.2.1
      rw [maskL_bit, decide_eq_false_iff_not] at this
      exact this hx
    · rcases List.mem_append.1 hj with h1 | h1
      · exact h.low j h1
      · rw [List.mem_singleton] at h1; subst h1; exact hri.1
    · rw [maskL_snoc]; exact cl_add hok h.cl hri
theorem cellsN_snoc (L : List Nat) (i : Nat) : cellsN (L ++ [i]) = cellsN L ++ [.int .i64 ((i : Nat) : Int)] := by unfold cellsN; simp
/-- What First keeps from round to round. -/
structure FOut (S : Nat) (w : World) (b8 : Nat) (F : List Nat) (ds : List Nat) (W : World) : Prop where
  row : ∃ v, Boxed W S 33 v ∧ W.ownsRow S 3 1 v F.length (cellsN F)
  box : Boxed W b8 57 (.int .u32 ((maskL F : Nat) : Int))
  defs : Defs ds W
  nodup : ds.Nodup
  low : ∀ D ∈ ds, S < D
  high : S < b8
  below : Below S w W
def doneV (S : Nat) (W : World) : Nat := match W.cell? ⟨S, 0, none⟩ with
  | some v => lenV v
  | none => 0
theorem doneV_of {S : Nat} {W : World} {v : Value} (h : W.cell? ⟨S, 0, none⟩ = some v) : doneV S W = lenV v := by unfold doneV; rw [h]
/-- The state of a round. -/
def FSt (S b8 : Nat) (w1 : World) (ds F : List Nat) (x : Nat) (W : World) : Prop :=
  (∃ v, Boxed W S 33 v ∧ W.ownsRow S 3 1 v F.length (cellsN F)) ∧ Boxed W b8 57 (.int .u32 ((x : Nat) : Int)) ∧ Defs ds W ∧ Below S w1 W
theorem FSt.own {S b8 B : Nat} {w1 : World} {ds F : List Nat} {x : Nat} (hd : ∀ D ∈ ds, D < B) (hb : b8 < B) (hS : S ≤ B) (hw : S ≤ w1.heap.size) {W W' : World} {row : Option Nat} (h : FSt S b8 w1 ds F x W) (hg : W.grownBy W' row)
    (hr : ∀ r, row = some r → B ≤ r ∧ ∃ o : Obj, W.heap[r]? = some o ∧ o.isCells = false) : FSt S b8 w1 ds F x W' := by
  obtain ⟨⟨v, h1, h2⟩, h3, h4, h5⟩ := h
  obtain ⟨v', a1, a2, _⟩ := holdsRow_own (β := Unit) S S 33 3 1 (fun _ => F.length) (fun _ => cellsN F) (fun _ _ => True) () W W' row ⟨v, h1, h2, trivial⟩ hg (fun r e => (hr r e).2)
  refine ⟨⟨v', a1, a2⟩, h3.kept hg (fun e => by have := (hr _ e.symm).1; omega), h4.grown hg (fun D hD e => by have := (hr D e).1; have := hd D hD; omega), h5.grown hg ?_ fun r e => by have := (hr r e).1; omega⟩
  have := h5.size; omega
theorem idx_mks {W : World} {v : Value} {N : List Nat} {D : Nat} (h : IdxR W v N) (hD : W.heap[D]? = some (.deferred (some []))) : IdxR (W.putObj D (.deferred none)) v N := by
  obtain ⟨a, c, e, hc, h⟩ := h
  refine ⟨a, c, e, hc, fun j hj => ?_⟩
  obtain ⟨b, o, e2, h2⟩ := h j hj
  exact ⟨b, o, e2, cell_kept h2 (grownBy_putObj' _ D _) (fun r e => by cases e; exact ⟨_, hD, rfl⟩)⟩
theorem ixs_head {s : Nat} {pre : List (Ix s)} (h : pre <+: ixs s) {y : Ix s} (hp : pre = [y]) : ∃ r, idx s = y.1 :: r := by
  subst hp
  obtain ⟨t, ht⟩ := h
  have := congrArg (List.map (·.1)) ht
  rw [ixs_val] at this
  exact ⟨t.map (fun x => x.1), this.symm.trans rfl⟩

set_option maxRecDepth 100000 in
set_option maxHeartbeats 4000000 in
theorem first_any (a : Option Addr) (c : Nat) (L : List Rq) (n : Nat) (w : World) (hn : n ≤ 24) (hok : Ok n L) (hl : L.length ≤ 900) (hL : ReqsAt w a L) (hT : Deb w)
    (hC : ∀ W, Below w.heap.size w W → Calls Tryd.prog 23 #[.int .i64 (n : Int), .slice a L.length c] W fun e w' => e = .returned (.int .i64 0) ∧ Below W.heap.size W w') :
    Calls Tryd.prog 17 #[.int .i64 (n : Int), .slice a L.length c] w fun e W' => ∃ v F, e = .returned (.tuple #[v, .int .i64 0]) ∧ FirstOk n L F ∧ F.length = n ∧ IdxR W' v F ∧ Below w.heap.size w W' := by
  have hro : Fence.wide.round = none := rfl
  have hw1 := hT.1
  obtain ⟨i0, hi, hz0, hz1, hz2⟩ := info_parts info3
  have HOK := Lib.hid hok; have HT := Lib.hid hT; have HC := Lib.hid (hC w (Below.refl _ _))
  have CR := Lib.hid (fun W s (hs : s < 16777216) (hW : Below w.heap.size w W) => ready_any a c L n s W hn hs hok.inn hl (hL.step hW))
  obtain ⟨ll, hll⟩ : ∃ ll, L.length = ll := ⟨_, rfl⟩
  rw [hll] at CR HC ⊢
  clear hL hok hT hl hC hll
  refine (callsIn_wide (n := 8)).1 ?_
  refine callsIn_of_wp_marks Tryd.func17 rfl trivial ?_ hro
  simp only [Tryd.ntmps17, List.size_toArray, List.length_cons, List.length_nil, Nat.reduceAdd, Nat.reduceSub, Array.replicate_succ, Array.replicate_zero, List.push_toArray, List.append_toArray, List.nil_append, List.cons_append]
  gi_wp2_with (refine ⟨trivial, ?_⟩; gi_at_call 23; refine (callsIn_wide.2 HC.out).mono ?_; clear HC; rintro e w1 ⟨rfl, hb1⟩; have HB1 := Lib.hid hb1; clear hb1)
  obtain ⟨S, hS⟩ : ∃ S, w1.heap.size = S := ⟨_, rfl⟩
  have hsS : w.heap.size ≤ S := by rw [← hS]; exact HB1.out.size
  have hg0 : FOut S w1 (S + 1) [] [] ((w1.alloc (.cells #[.slice none 0 0] 33)).alloc (.cells #[.int .u32 0] 57)) := by
    have h1 := Boxed.new w1 33 (.slice none 0 0)
    have h2 := Boxed.new (w1.alloc (.cells #[.slice none 0 0] 33)) 57 (.int .u32 0)
    simp only [World.size_alloc, hS] at h1 h2
    exact ⟨⟨_, h1.alloc _, World.ownsRow_nil _ _ _ _⟩, h2, Defs.nil _, List.nodup_nil, (fun D hD => by cases hD), by omega, ((Below.refl S w1).alloc (by omega) _).alloc (by simp; omega) _⟩
  have HG := Lib.hid hg0
  clear hg0
  simp only [World.size_alloc, hS]
  refine wpIn_loop (fun a' W => ∃ (F : List Nat) (b8 : Nat) (ds : List Nat) (u9 u16 u17 u18 u19 u20 u21 u22 u23 u24 u25 u26 u27 u28 u29 u30 u31 u32 u33 : Value), a' = { tmps := #[.int .i64 (n : Int), .slice a ll c, undef, undef, .slice none 0 0, .int .i64 0, .int .i64 0, .pointer (some ⟨S, 0, none⟩), .pointer (some ⟨b8, 0, none⟩), u9, .int .i64 (n : Int), .slice a ll c, .int .i64 0, .int .i64 0, .bool false, undef, u16, u17, u18, u19, u20, u21, u22, u23, u24, u25, u26, u27, u28, u29, u30, u31, u32, u33, undef], defers := mks ds } ∧ FirstOk n L F ∧ FOut S w1 b8 F ds W) (fun _ W => n - doneV S W) ?start ?round
  case start => exact ⟨[], S + 1, [], _, _, _, _, _, _, _, _, _, _, _, _, _, _, _, _, _, _, _, rfl, FirstOk.nil n L, HG.out⟩
  case round =>
    rintro _ wr ⟨F, b8, ds, u9, u16, u17, u18, u19, u20, u21, u22, u23, u24, u25, u26, u27, u28, u29, u30, u31, u32, u33, rfl, hF, hG⟩
    clear HG
    obtain ⟨v, hv, hrow⟩ := hG.row
    obtain ⟨pv, cv, rfl⟩ := own_slice hrow
    have hcv := hv.cell
    have HDV := Lib.hid (doneV_of hcv)
    simp only [lenV] at HDV
    have hc8 := hG.box.cell
    by_cases hlt : F.length < n
    · have hx1 : (F.length : Int) < (n : Int) := by omega
      have hx2 : decide (F.length < n) = true := decide_eq_true hlt
      have hm24 := hF.lt hn
      obtain ⟨i1, r1, hid, hF2⟩ := hF.more HOK.out hn hlt
      have hb0 : Below w.heap.size w wr := HB1.out.trans (hG.below.mono hsS)
      have hsnoc := maskL_snoc F i1
      have hR : rdy n L (maskL F) < 16777216 := Nat.lt_of_lt_of_le (rdy_lt n L _) (Nat.pow_le_pow_right (n := 2) (by decide) (j := 24) hn)
      have CR1 := Lib.hid (CR.out wr (maskL F) hm24 hb0)
      obtain ⟨R, hRe⟩ : ∃ R, rdy n L (maskL F) = R := ⟨_, rfl⟩
      obtain ⟨x, hxe⟩ : ∃ x, maskL F = x := ⟨_, rfl⟩
      have HXE := Lib.hid hxe
      rw [hRe] at CR1 hid hR
      rw [hxe] at CR1 hc8 hm24 hsnoc
      have HG1 := Lib.hid hG; have HF2 := Lib.hid hF2; have HF := Lib.hid hF; have HSN := Lib.hid hsnoc; have HID := Lib.hid hid
      obtain ⟨fl, hfl⟩ : ∃ fl, F.length = fl := ⟨_, rfl⟩
      have HFL := Lib.hid hfl
      rw [hfl] at hx1 hx2 hlt hcv hv hrow
      clear hG hF2 hF hsnoc hid hb0 hRe hxe hfl
      gi_wp2_with (first | (refine ⟨trivial, ?_⟩; gi_at_call 31; refine (callsIn_wide.2 CR1.out).mono ?_; clear CR1; rintro e w2 ⟨rfl, hb2⟩) | (refine ⟨trivial, ?_⟩; gi_at_call 32; refine (all_in 7 _ _).mono ?_; rintro e w' ⟨rfl, rfl⟩))
      have hbelow2 : Below S w1 (w2.alloc (.cells #[.int .u32 ((R : Nat) : Int)] 57)) := (HG1.out.below.trans (hb2.mono (by have := HG1.out.below.size; omega))).alloc (by have := hb2.size; have := HG1.out.below.size; omega) _
      have kAll : wr.grownBy (w2.alloc (.cells #[.int .u32 ((R : Nat) : Int)] 57)) none := keepsNone (hb2.alloc hb2.size _) (Nat.le_refl _)
      have hrowA := HG1.out.row
      rw [HFL.out] at hrowA
      have hst0 : FSt S b8 w1 ds F x (w2.alloc (.cells #[.int .u32 ((R : Nat) : Int)] 57)) := by
        refine ⟨⟨_, hv.kept kAll (by simp), ?_⟩, ?_, HG1.out.defs.grown kAll (by simp), hbelow2⟩
        · rw [HFL.out]; exact hrow.kept kAll (Classical.em _)
        · rw [← HXE.out]; exact HG1.out.box.kept kAll (by simp)
      have bN := Boxed.new w2 57 (.int .u32 ((R : Nat) : Int))
      have hSr : S < wr.heap.size := hv.lt
      have hT2 := HT.out.below (HB1.out.trans (hbelow2.mono hsS)) hw1
      have hsz2 := hb2.size
      have hb8lt := HG1.out.box.lt
      obtain ⟨W1, hW1⟩ : ∃ W1, w2.alloc (.cells #[.int .u32 ((R : Nat) : Int)] 57) = W1 := ⟨_, rfl⟩
      have hW1s : W1.heap.size = w2.heap.size + 1 := by rw [← hW1]; simp
      rw [hW1] at hst0 bN hT2 ⊢
      have hdlt : ∀ D ∈ ds, D < W1.heap.size := fun D hD => hst0.2.2.1.lt hD
      have hSw1 : S ≤ w1.heap.size := by omega
      clear hbelow2 kAll hrowA hv hrow hcv hc8 hb2
      refine wpIn_rangeFunc_ownG hro (by decide) (gf := 44) (lb := #[.pointer (some ⟨w2.heap.size, 0, none⟩)]) rfl trivial (enters_of Tryd.func44 (by kernel_rfl) rfl)
        (all_stops (8 - 1) (by decide) w2.heap.size S (by omega) R hR _ (by omega) (by omega) bN.cell hT2) belowK_t (belowK_b (by omega)) (Below.refl _ _) (fun _ => rfl)
        (fun pre W => pre = [] ∧ FSt S b8 w1 ds F x W)
        (fun c pre W => c = .exit 2 ∧ ∃ y, pre = [y] ∧ FSt S b8 w1 ds (F ++ [y.1]) (x ||| 2 ^ y.1) W)
        (fun _ _ _ _ hs hg hr => ⟨hs.1, hs.2.own hdlt (by omega) (by omega) hSw1 hg hr⟩)
        (fun _ _ _ _ _ hs hg hr => ⟨hs.1, by obtain ⟨y, h1, h2⟩ := hs.2; exact ⟨y, h1, h2.own hdlt (by omega) (by omega) hSw1 hg hr⟩⟩)
        ⟨rfl, hst0⟩
        (fun y => { tmps := #[.int .i64 (n : Int), .slice a ll c, undef, undef, .slice none 0 0, .int .i64 0, .int .i64 0, .pointer (some ⟨S, 0, none⟩), .pointer (some ⟨b8, 0, none⟩), .int .i64 ((y.1 : Nat) : Int), .int .i64 (n : Int), .slice a ll c, .int .i64 0, .int .i64 0, .bool false, undef, .slice pv fl cv, .int .i64 (fl : Int), .int .i64 (n : Int), .bool true, .int .u32 (x : Int), .int .i64 (n : Int), .slice a ll c, .int .u32 (R : Int), .func (.func 44) #[] #[.pointer (some ⟨w2.heap.size, 0, none⟩)], .int .i64 ((y.1 : Nat) : Int), u26, u27, u28, u29, u30, u31, u32, u33, undef], defers := [] }) ?assign ?body ?done ?stop
      case assign =>
        intro l y W K hK
        gi_wp2
        exact hK
      case body =>
        rintro l pre y W ⟨rfl, ⟨v, hv, hrow⟩, hb8, hdef, hbel⟩ hlt2
        have hy24 := (idx_lt y.2).1
        rw [HFL.out] at hrow
        have hc := hv.cell
        have hSW := hv.lt
        have hfl24 := HF.out.length
        rw [HFL.out] at hfl24
        have HSb := HG1.out.high
        have HW := Lib.hid (fun W => with_any x y.1 hm24 hy24 W)
        gi_wp2_with (first | (refine ⟨trivial, ?_⟩; gi_at_call 34; refine (CallsIn.inRound l (callsIn_wide.2 (HW.out _))).mono ?_; rintro e w' ⟨rfl, rfl⟩) | (gi_at_builtin; refine wpListIn_append_own _ rfl _ _ 33 rfl S 3 i0 (.int .i64 0) 1 8 Tryd.underlying33 hi hz0 hz1 hz2 rfl (by decide) _ _ _ rfl (hrow.alloc _) ⟨W.heap.size, 0, none⟩ 1 1 [.int .i64 ((y.1 : Nat) : Int)] rfl rfl (cell_one_new _ _ _) (by simp [Value.oneCell']) (by unfold maxLen; omega) (by omega) (by simp; omega) ?_; intro v' w3 hown' hgrow' _; obtain ⟨g', cap', rfl⟩ := ownsRow_succ hown'; obtain ⟨hv1, hv2', hr2, hk2, hbb2⟩ := hv.appended (by decide) hrow (by omega) (Nat.le_refl _) hown' hgrow'; have hc1 := hv1.cell; have hf1 := hv1.frozen; have hb8' := ((hb8.alloc _).kept hgrow' (hb8.not_row (by decide) hrow)).kept (grownBy_setCell' w3 S (.slice (some ⟨g', 0, none⟩) (fl + 1) cap')) (by simp; omega); have hc8' := hb8'.cell; have hf8' := hb8'.frozen))
        have hrow3 : ((w3.setCell ⟨S, 0, none⟩ (.slice (some ⟨g', 0, none⟩) (fl + 1) cap')).setCell ⟨b8, 0, none⟩ (.int .u32 ((x ||| 2 ^ y.1 : Nat) : Int))).ownsRow S 3 1 (.slice (some ⟨g', 0, none⟩) (fl + 1) cap') (F ++ [y.1]).length (cellsN (F ++ [y.1])) := by
          rw [List.length_append, HFL.out, cellsN_snoc]
          exact hr2.kept (grownBy_setCell' _ b8 _) (.inr (hb8'.not_row (by decide) hr2).symm)
        refine ⟨(hk2.trans (KeepsOthers.setCell _ _ _)).from _, rfl, y, rfl, ⟨_, hv2'.kept (grownBy_setCell' _ b8 _) (by simp; omega), hrow3⟩, hb8'.set _, hdef.others (hk2.trans (KeepsOthers.setCell _ _ _)), (hbel.trans hbb2).setCell (p := ⟨b8, 0, none⟩) (by show S ≤ b8; omega) _⟩
      case done =>
        rintro D ys W hD rfl ⟨hnil, _⟩ hK
        exfalso
        have := ixs_val R
        rw [hnil] at this
        cases this.trans HID.out
      case stop =>
        rintro D c pre W hD hpre ⟨rfl, y, hpe, hst⟩ hK
        obtain ⟨r, hr⟩ := ixs_head hpre hpe
        have hr := HID.out.symm.trans hr
        injection hr with hr1 hr2
        rw [← hr1] at hst
        clear hr hr1 hr2
        obtain ⟨⟨v, hv, hrow⟩, hb8, hdef, hbel⟩ := hst
        have hc8 := hb8.cell
        dsimp only
        gi_wp2
        have HSb := HG1.out.high
        refine ⟨⟨F ++ [i1], W.heap.size, D :: ds, _, _, _, _, _, _, _, _, _, _, _, _, _, _, _, _, _, _, _, rfl, HF2.out, ⟨v, hv.alloc _, hrow.alloc _⟩, ?_, ?_, ?_, ?_, ?_, ?_⟩, ?_⟩
        · rw [HSN.out]; exact Boxed.new W 57 _
        · intro D' hD'
          have h1 : Defs (D :: ds) W := fun D'' hD'' => by
            rcases List.mem_cons.1 hD'' with rfl | h
            · exact hK
            · exact hdef D'' h
          exact h1.grown (World.grownBy_alloc W _ none) (by simp) D' hD'
        · exact List.nodup_cons.2 ⟨fun h => by have := hdlt D h; omega, HG1.out.nodup⟩
        · intro D' hD'
          rcases List.mem_cons.1 hD' with rfl | h
          · omega
          · exact HG1.out.low D' h
        · exact hv.lt
        · exact hbel.alloc (by have := hv.lt; omega) _
        · obtain ⟨pv2, cv2, rfl⟩ := own_slice hrow
          rw [doneV_of (hv.alloc _).cell, HDV.out]
          simp only [lenV, List.length_append, List.length_cons, List.length_nil, HFL.out]
          omega
    · have hfn : F.length = n := by have := hF.length; omega
      have hx1 : ¬ ((F.length : Int) < (n : Int)) := by omega
      have hx2 : decide (F.length < n) = false := decide_eq_false hlt
      have hres : IdxR wr (.slice pv F.length cv) F := idxR_of_own hrow
      have HG1 := Lib.hid hG; have HRES := Lib.hid hres; have HFN := Lib.hid hfn; have HF := Lib.hid hF
      clear hG hres hfn hF hrow hc8
      obtain ⟨fl, hfl⟩ : ∃ fl, F.length = fl := ⟨_, rfl⟩
      rw [hfl] at hx1 hx2 hlt hcv hv HRES
      clear hfl
      gi_wp2
      refine leaves_marks (by simp) (fun W => IdxR W (.slice pv fl cv) F ∧ Below S w1 W) ds _ HG1.out.defs HG1.out.nodup ⟨HRES.out, HG1.out.below⟩ (fun W D hD hS' hK => ⟨idx_mks hS'.1 hK, hS'.2.trans ?_⟩) (fun W hS' => ⟨_, (by simp [results, Tryd.results17, go_sem]), ⟨.slice pv fl cv, rfl, F, HF.out, HFN.out, hS'.1, HB1.out.trans (hS'.2.mono hsS)⟩⟩)
      have := HG1.out.low D hD
      exact (Below.refl S W).grown (grownBy_putObj' W D _) (by have := lt_of_heap hK; omega) (fun k e => by cases e; omega)
end Go.Proofs.YtgeldpkopolnfaaDoor
