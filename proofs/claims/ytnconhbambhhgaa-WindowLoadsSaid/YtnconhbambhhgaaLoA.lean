/- slices.Clone of numbers; window.Load of a good calendar. -/
import Derived.Test.YtnconhbambhhgaaLdD
import Derived.Test.YtnconhbambhhgaaFlD
import Derived.Test.YtnconhbambhhgaaRfD
import Derived.Test.YtnconhbambhhgaaRegC
import Derived.Lib.SliceRun
namespace Go.Proofs.Ytnconhbambhhgaa
open Go.RowKit
set_option linter.all false

set_option maxRecDepth 100000 in
set_option maxHeartbeats 2000000 in
theorem cloneI_any (H o c : Nat) (L : List Int) (w : World) (hl : L.length ≤ 400) (h0 : 0 < L.length) (hL : TeamsAt w (some ⟨H, o, none⟩) L) :
    Calls Try.prog 35 #[.slice (some ⟨H, o, none⟩) L.length c] w (fun e w' => ∃ q c2 cs, e = .returned (.slice (some ⟨q, 0, none⟩) L.length c2) ∧ w'.heap[q]? = some (.cells cs 3 (0, 0)) ∧ (∀ j, j < L.length → cs[j]? = some (.int .i64 (L.getD j 0))) ∧ Below w.heap.size w w') := by
  obtain ⟨i0, hi0, hz0, hz1, hz2⟩ := info_parts info3
  have HL := Lib.hid hL
  obtain ⟨N, hN⟩ : ∃ N, L.length = N := ⟨_, rfl⟩
  have HN := Lib.hid hN
  have o1 := World.ownsRow_lit (base := w.heap.size) (e := 3) (size := 1) w #[] 0 (Nat.le_refl _) (by simp [maxLen]) rfl
  have hb0 := (Below.refl w.heap.size w).alloc (Nat.le_refl _) (.cells #[] 3)
  have hsrc : ∀ (j : Nat) (u : Value), (vi L)[j]? = some u → (w.alloc (.cells #[] 3)).cell? ((⟨H, o, none⟩ : Addr).add j) = some u := fun j u hu => by
    have hj : j < L.length := by
      have := (List.getElem?_eq_some_iff.1 hu).1
      unfold vi at this
      simpa using this
    obtain ⟨b, o', e, hc⟩ := (hL.step hb0) j hj
    injection e with e; injection e with e1 e2
    subst e1; subst e2
    rw [vi_get L j hj] at hu
    injection hu with hu
    subst hu
    have hadd : (⟨H, o, none⟩ : Addr).add j = ⟨H, o + j, none⟩ := by unfold Addr.add; split <;> simp_all
    rw [hadd]; exact hc
  have O1 := Lib.hid o1; have HB0 := Lib.hid hb0; have HSRC := Lib.hid hsrc
  rw [hN] at hl h0 ⊢
  clear hL hN o1 hb0 hsrc
  have q22 : ∀ (w : World) (a : Option Addr) (n c n' c' : Nat), (binOp .eql 22 (.slice a n c) (.slice none n' c')).run Try.prog w = .ok (.bool a.isNone) w := fun w a n c n' c' => Lib.run_eql_slice_nil w _ _ a n c n' c' Try.underlying22
  have tok1 : True := trivial
  go_enter Try.func35, Try.ntmps35
  go_wp2_with (first | (at_builtin; have _t := tok1; go_loud (refine wpList_append_lies _ rfl (.tmp 5) (.tmp 6) 22 rfl w.heap.size 3 i0 (.int .i64 0) 1 8 (by kernel_rfl) hi0 hz0 hz1 hz2 rfl (by decide) (.slice (some ⟨w.heap.size, 0, none⟩) 0 0) 0 [] rfl O1.out ⟨H, o, none⟩ N c (vi L) rfl (by unfold vi; rw [List.length_map, HN.out]; omega) HSRC.out (fun u hu => by unfold vi at hu; rw [List.mem_map] at hu; obtain ⟨x, _, rfl⟩ := hu; rfl) (by omega) (by unfold maxLen; omega) (by omega) (by simp) _ rfl ?_); intro g cap w5 ho hg hq hglt; have HO := Lib.hid ho; have HG := Lib.hid (below_grown HB0.out hg (fun k e => by simp [Value.ownBlock] at e; omega) (by simp)); clear ho hg hq hglt tok1))
  go_ret
  obtain ⟨_, h2⟩ := HO.out
  rw [Nat.zero_add, List.nil_append] at h2
  rcases h2 with ⟨h3, _⟩ | ⟨g', cap', cur, hv, hbg, hh, hcap, _, hs, htk⟩
  · cases h3
  · injection hv with hv1 hv2 hv3
    injection hv1 with hv1
    injection hv1 with hv1 _
    subst hv1
    refine ⟨g, ⟨cap, rfl⟩, cur, hh, fun j hj => ?_, HG.out⟩
    have e1 : (cur.toList.take (N * 1))[j]? = (vi L)[j]? := by rw [htk]
    rw [List.getElem?_take, if_pos (by omega), Array.getElem?_toList, vi_get L j (by rw [HN.out]; exact hj)] at e1
    exact e1
/-- Numbers as a list. -/
def rowLs (n : Nat) (f : Nat → Nat) : List Int := (List.range n).map fun j => (f j : Int)
theorem rowLs_length (n : Nat) (f : Nat → Nat) : (rowLs n f).length = n := by unfold rowLs; simp
theorem rowLs_get (n : Nat) (f : Nat → Nat) (j : Nat) (hj : j < n) : (rowLs n f).getD j 0 = (f j : Int) := by
  unfold rowLs
  rw [List.getD, List.getElem?_map, List.getElem?_range hj]; rfl
def slD (n : Nat) (x : Nat × Nat) : Value := .slice (some ⟨x.1, 0, none⟩) n x.2
/-- Loads as rows of one's own. -/
structure LdT (S : Nat) (W : World) (v : Value) (rows : List (Nat × Nat)) (nR k : Nat) (M : Nat → Nat → Nat) : Prop where
  len : rows.length = k
  own : W.ownsRow S 22 1 v k (rows.map (slD nR))
  row : ∀ i, i < k → ∃ cs, W.heap[(rows.getD i (0, 0)).1]? = some (.cells cs 3 (0, 0)) ∧ ∀ j, j < nR → cs[j]? = some (.int .i64 (M i j : Int))
section
variable {S : Nat} {W W' : World} {v : Value} {rows : List (Nat × Nat)} {nR k : Nat} {M : Nat → Nat → Nat}
theorem LdT.step (h : LdT S W v rows nR k M) (hb : Below W.heap.size W W') : LdT S W' v rows nR k M := by
  refine ⟨h.len, h.own.kept (row := none) ⟨hb.os, hb.tape, hb.output, hb.size, fun k hk _ => hb.block k hk⟩ ?_, fun i hi => ?_⟩
  · cases hp : v.ownBlock with
    | none => exact .inl rfl
    | some k => exact .inr fun e => by cases e
  · obtain ⟨cs, h1, h2⟩ := h.row i hi
    exact ⟨cs, (hb.block _ (lt_of_heap h1)).trans h1, h2⟩
theorem LdT.snoc {q2 cc2 g cap : Nat} {cs2 : Array Value} (h : LdT S W v rows nR k M) (ho : W'.ownsRow S 22 1 (.slice (some ⟨g, 0, none⟩) (k + 1) cap) (k + 1) (rows.map (slD nR) ++ [.slice (some ⟨q2, 0, none⟩) nR cc2])) (hg : W.grownBy W' v.ownBlock)
    (hq : W.heap[q2]? = some (.cells cs2 3 (0, 0))) (hcs : ∀ j, j < nR → cs2[j]? = some (.int .i64 (M k j : Int))) : LdT S W' (.slice (some ⟨g, 0, none⟩) (k + 1) cap) (rows ++ [(q2, cc2)]) nR (k + 1) M := by
  have hne : ∀ (b : Nat) (cs : Array Value), W.heap[b]? = some (.cells cs 3 (0, 0)) → v.ownBlock ≠ some b := by
    intro b cs hb e
    obtain ⟨_, h2⟩ := h.own
    rcases h2 with ⟨hv, _⟩ | ⟨q, cap, cur, hv, hbq, hh, hc, hc2, hs, ht⟩
    · rw [hv] at e; cases e
    · rw [hv] at e
      simp only [Value.ownBlock, Option.some.injEq] at e
      rw [← e, hh] at hb
      injection hb with h1
      injection h1 with _ h2
      cases h2
  refine ⟨by rw [List.length_append, h.len]; rfl, by rw [List.map_append]; exact ho, fun i hi => ?_⟩
  by_cases e : i = k
  · subst e
    rw [getD_snoc_eq _ _ _ h.len.symm]
    exact ⟨cs2, (hg.block _ (lt_of_heap hq) (fun e => hne _ _ hq e.symm)).trans hq, hcs⟩
  · rw [getD_snoc_lt _ _ _ (by rw [h.len]; omega)]
    obtain ⟨cs, h1, h2⟩ := h.row i (by omega)
    exact ⟨cs, (hg.block _ (lt_of_heap h1) (fun e => hne _ _ h1 e.symm)).trans h1, h2⟩
end
def GLd (S H C k nR c3 : Nat) (r : Option Addr) (u10 : Value) (rows : List (Nat × Nat)) (f : Nat → Nat) (M : Nat → Nat → Nat) (l : Array Bool) (i : Nat) (v : Value) (W : World) : Prop := match i with
  | 0 => v = u10
  | 1 => v = .int .i64 (k : Int)
  | 2 => v = .pointer (some ⟨H, k * 8, none⟩)
  | 3 => v = .pointer (some ⟨C, 2, none⟩)
  | 4 => v = .slice r nR c3
  | 5 => v = .int .i64 (nR : Int)
  | 6 => v = .slice (some ⟨H, k * 8, none⟩) nR 8
  | 7 => l.getD 9 false = false → ∃ q2 cc2 cs2, v = .slice (some ⟨q2, 0, none⟩) nR cc2 ∧ W.heap[q2]? = some (.cells cs2 3 (0, 0)) ∧ ∀ j, j < nR → cs2[j]? = some (.int .i64 ((rowLs nR f).getD j 0))
  | 8 => l.getD 9 false = false → ∃ bb q2 cc2 cs2, v = .slice (some ⟨bb, 0, none⟩) 1 1 ∧ W.heap[bb]? = some (.cells #[.slice (some ⟨q2, 0, none⟩) nR cc2] 22 (0, 0)) ∧ W.heap[q2]? = some (.cells cs2 3 (0, 0)) ∧ ∀ j, j < nR → cs2[j]? = some (.int .i64 ((rowLs nR f).getD j 0))
  | 9 => ∃ rows', LdT S W v rows' nR (k + 1) M
  | 10 => ∃ rows', LdT S W v rows' nR (k + 1) M
  | _ => True
section
variable {S H C k nR c3 : Nat} {r : Option Addr} {u10 : Value} {rows : List (Nat × Nat)} {f : Nat → Nat} {M : Nat → Nat → Nat} {l : Array Bool} {W W' : World} {j : Nat} {u : Value}
theorem GLd.mono (h : GLd S H C k nR c3 r u10 rows f M l j u W) (i : Nat) : GLd S H C k nR c3 r u10 rows f M (l.setIfInBounds i true) j u W := by
  match j with
  | 0 => exact h
  | 1 => exact h
  | 2 => exact h
  | 3 => exact h
  | 4 => exact h
  | 5 => exact h
  | 6 => exact h
  | 7 => exact fun hl => h (set_false hl)
  | 8 => exact fun hl => h (set_false hl)
  | 9 => exact h
  | 10 => exact h
  | _ + 11 => exact h
theorem GLd.step (h : GLd S H C k nR c3 r u10 rows f M l j u W) (i : Nat) (hW : ∀ b, b < W.heap.size → W'.heap[b]? = W.heap[b]?) (h9 : j = 9 ∨ j = 10 → False) : GLd S H C k nR c3 r u10 rows f M (l.setIfInBounds i true) j u W' := by
  match j with
  | 0 => exact h
  | 1 => exact h
  | 2 => exact h
  | 3 => exact h
  | 4 => exact h
  | 5 => exact h
  | 6 => exact h
  | 7 =>
    intro hl
    obtain ⟨q2, cc2, cs2, e, h1, h2⟩ := h (set_false hl)
    exact ⟨q2, cc2, cs2, e, (hW _ (lt_of_heap h1)).trans h1, h2⟩
  | 8 =>
    intro hl
    obtain ⟨bb, q2, cc2, cs2, e, h0, h1, h2⟩ := h (set_false hl)
    exact ⟨bb, q2, cc2, cs2, e, (hW _ (lt_of_heap h0)).trans h0, (hW _ (lt_of_heap h1)).trans h1, h2⟩
  | 9 => exact (h9 (.inl rfl)).elim
  | 10 => exact (h9 (.inr rfl)).elim
  | _ + 11 => trivial
theorem GLd.appd (h : GLd S H C k nR c3 r u10 rows f M l j u W) (i : Nat) (hl9 : (l.setIfInBounds i true).getD 9 false = true) (h9 : j = 9 ∨ j = 10 → False) : GLd S H C k nR c3 r u10 rows f M (l.setIfInBounds i true) j u W' := by
  match j with
  | 0 => exact h
  | 1 => exact h
  | 2 => exact h
  | 3 => exact h
  | 4 => exact h
  | 5 => exact h
  | 6 => exact h
  | 7 => exact fun hl => (by rw [hl9] at hl; cases hl)
  | 8 => exact fun hl => (by rw [hl9] at hl; cases hl)
  | 9 => exact (h9 (.inl rfl)).elim
  | 10 => exact (h9 (.inr rfl)).elim
  | _ + 11 => trivial
end
def BLd (S : Nat) (WZ : World) (nR k : Nat) (u10 : Value) (rows : List (Nat × Nat)) (M : Nat → Nat → Nat) (l : Array Bool) (W : World) : Prop :=
  Below S WZ W ∧ S ≤ W.heap.size ∧ (l.getD 9 false = false → LdT S W u10 rows nR k M)
def LoadG (n nR : Nat) (M : Nat → Nat → Nat) (w : World) (e : Ending) (w' : World) : Prop := ∃ v rows, e = .returned (.tuple #[v, .int .i64 0]) ∧ LdT w.heap.size w' v rows nR n M ∧ Below w.heap.size w w'

set_option maxRecDepth 100000 in
set_option maxHeartbeats 8000000 in
theorem load_good (p q r ta da : Option Addr) (L : List Win) (T : Nat → List Int) (Q R TS DS : List Int) (c1 c2 c3 c4 c5 : Nat) (w : World) (h : GoodCal w p q r L T Q R) (hR1 : 1 ≤ R.length)
    (hTS : TeamsAt w ta TS) (hDS : TeamsAt w da DS) (hlen : DS.length = TS.length) (h24 : TS.length ≤ 24) (hts : TS.all (isT R.length) = true)
    (hmay : ∀ j, j < TS.length → mayF L T (DS.getD j 0) (TS.getD j 0) = true) :
    Calls Try.prog 19 #[.agg #[.slice p L.length c1, .slice q Q.length c2, .slice r R.length c3], .slice ta TS.length c4, .slice da DS.length c5] w (LoadG L.length R.length (cnt L TS DS TS.length) w) := by
  obtain ⟨i0, hi0, hz0, hz1, hz2⟩ := info_parts info22
  have hb0 := (Below.refl w.heap.size w).alloc (Nat.le_refl _) (.cells #[.slice p L.length c1, .slice q Q.length c2, .slice r R.length c3] 38)
  have hx : CalBox w.heap.size p q r L.length c1 Q.length c2 R.length c3 (w.alloc (.cells #[.slice p L.length c1, .slice q Q.length c2, .slice r R.length c3] 38)) := ⟨by simp, by simp, by simp⟩
  have hsz : (w.alloc (.cells #[.slice p L.length c1, .slice q Q.length c2, .slice r R.length c3] 38)).heap.size = w.heap.size + 1 := by simp
  have l1 := h.l1; have l3 := h.l3
  have CC := Lib.hid (count_good p q r ta da none L T Q R TS DS [] c1 c2 c3 c4 c5 0 _ (h.step hb0) (hTS.step hb0) (hDS.step hb0) (fun j hj => by simp at hj) hlen h24 (by simp) hts rfl hmay)
  have HX := Lib.hid hx; have HB0 := Lib.hid hb0; have HSZ := Lib.hid hsz
  rw [hlen] at CC ⊢
  rw [show ([] : List Int).length = 0 from rfl] at CC
  clear h hb0 hsz hx hTS hDS hts hmay hlen
  generalize TS.length = n at *
  generalize L.length = nL at *
  generalize R.length = nR at *
  generalize Q.length = nQ at *
  go_enter Try.func19, Try.ntmps19
  go_wp2_with fail
  generalize w.alloc (.cells #[.slice p nL c1, .slice q nQ c2, .slice r nR c3] 38) = W0 at *
  generalize hC : w.heap.size = C at *
  have HC := Lib.hid hC; clear hC
  refine (CC.out).mono ?_
  rintro e w1 ⟨rfl, hb1⟩
  obtain ⟨cs, hcs⟩ : ∃ cs, cntL L TS DS n = cs := ⟨_, rfl⟩
  rw [hcs]
  have HCS := Lib.hid hcs; clear hcs
  have hcl : cs.length = 256 := by rw [← HCS.out, cntL_length]
  have hc1 : ∀ v ∈ cs, v.oneCell' = true := by rw [← HCS.out]; exact cntL_one _ _ _ _
  have hth : (w1.alloc (.cells Try.zeroCells82 82)).there w1.heap.size 0 256 := by
    have := there_of_row (heap_alloc_new w1 (.cells Try.zeroCells82 82))
    rwa [zero_size] at this
  have hst := run_storeCells_cells (P := Try.prog) w1.heap.size 0 cs 0 (w1.alloc (.cells Try.zeroCells82 82)) (fun j hj => by simpa using (hth j (by omega)).1) (fun j hj => by simpa using (hth j (by omega)).2) hc1
  rw [Nat.zero_add] at hst
  have hbz : Below w1.heap.size w1 ((w1.alloc (.cells Try.zeroCells82 82)).setCells w1.heap.size 0 cs) := below_setCells ((Below.refl _ _).alloc (Nat.le_refl _) _) (Nat.le_refl _) 0 cs
  have hrz := World.rangeAt_setCells_same (w1.alloc (.cells Try.zeroCells82 82)) w1.heap.size 0 cs (by rw [hcl]; exact hth)
  have HB1 := Lib.hid hb1
  have HBZ := Lib.hid hbz; have HRZ := Lib.hid hrz; have HCL := Lib.hid hcl
  clear hbz hrz hth hc1 hcl hb1
  generalize (w1.alloc (.cells Try.zeroCells82 82)).setCells w1.heap.size 0 cs = wz at *
  obtain ⟨H, hH⟩ : ∃ H, w1.heap.size = H := ⟨_, rfl⟩
  rw [hH] at hst HBZ HRZ
  have HH0 := Lib.hid hH
  have HXZ := Lib.hid ((HX.out.step HB1.out).step (HBZ.out.mono (by rw [hH]; exact Nat.le_refl _)))
  obtain ⟨x0, x1, x2⟩ := HXZ.out
  go_wp2_with fail
  obtain ⟨S, hS⟩ : ∃ S, wz.heap.size = S := ⟨_, rfl⟩
  have HSW := Lib.hid hS
  clear x0 x1 x2 hst hS
  go_loopw [10, 25] (fun v kv wr => ∃ (k : Nat) (rows : List (Nat × Nat)), kv = .int .i64 (k : Int) ∧ k ≤ nL ∧ LdT S wr v rows nR k (cnt L TS DS n) ∧ Below S wz wr) (fun _ kv _ => nL - (intOf kv).toNat)
  case atStart => exact ⟨0, [], rfl, Nat.zero_le _, ⟨rfl, World.ownsRow_nil _ _ _ _, fun _ h => by omega⟩, Below.refl _ _⟩
  case round =>
    obtain ⟨k, rows, rfl, hk, hM, hb⟩ := hrel
    have hSw : S ≤ wr.heap.size := by have := hb.size; have := HSW.out; omega
    have HM := Lib.hid hM; have HBE := Lib.hid hb; have HSWR := Lib.hid hSw
    by_cases hlt : k < nL
    · have hk0 : (0 : Int) ≤ (k : Int) := by omega
      have hi2 : (k : Int) < (nL : Int) := by omega
      have hi3 : (k : Int) < 32 := by omega
      have hdd : decide (k < nL) = true := decide_eq_true hlt
      have q3 : (0 : Int) ≤ (nR : Int) := by omega
      have q4 : (nR : Int) ≤ 8 := by omega
      have hrow : TeamsAt wz (some ⟨H, k * 8, none⟩) (rowLs nR (cnt L TS DS n k)) := fun j hj => by
        rw [rowLs_length] at hj
        refine ⟨H, k * 8, rfl, ?_⟩
        have hcc := HRZ.out (k * 8 + j) (.int .i64 (cnt L TS DS n k j : Int)) (by rw [← HCS.out]; exact cntL_get _ _ _ _ _ _ (by omega) (by omega))
        rw [Nat.zero_add] at hcc
        rw [rowLs_get _ _ _ hj]; exact hcc
      have HROW := Lib.hid hrow
      have HXD := Lib.hid HXZ.out
      clear hM hb hrow hSw HXZ
      go_upto_region 8 with fail
      refine region_factsC (by kernel_rfl) (GLd S H C k nR c3 r u10 rows (cnt L TS DS n k) (cnt L TS DS n)) (BLd S wz nR k u10 rows (cnt L TS DS n)) (by kernel_rfl) (by kernel_rfl) ?h0 ?hstep ?hend
      case h0 => exact ⟨below_drewN HBE.out 1, HSWR.out, fun _ => HM.out.step (below_drewN (Below.refl _ _) 1)⟩
      case hstep =>
        intro i oo l a W ho hat K hK
        have hi : i < 11 := (Array.getElem?_eq_some_iff.1 ho).1
        obtain rfl | rfl | rfl | rfl | rfl | rfl | rfl | rfl | rfl | rfl | rfl : i = 0 ∨ i = 1 ∨ i = 2 ∨ i = 3 ∨ i = 4 ∨ i = 5 ∨ i = 6 ∨ i = 7 ∨ i = 8 ∨ i = 9 ∨ i = 10 := by omega
        all_goals
          have ho := Option.some.inj (show some _ = some oo from ho)
          subst ho
        · have e0 : a.tmps[10]?.getD undef = u10 := hat.old 10 10 (by kernel_rfl) (hat.later 10 (by kernel_rfl))
          have HF1 := Lib.hid (hK (u10) W rfl (fun k u _ h => h.mono 0) ⟨hat.base.1, hat.base.2.1, fun hl => hat.base.2.2 (set_false hl)⟩)
          clear hat hK
          go_simp
          exact HF1.out
        · have e0 : a.tmps[11]?.getD undef = .int .i64 (k : Int) := hat.out 11 (by kernel_rfl)
          have HF1 := Lib.hid (hK (.int .i64 (k : Int)) W rfl (fun k u _ h => h.mono 1) ⟨hat.base.1, hat.base.2.1, fun hl => hat.base.2.2 (set_false hl)⟩)
          clear hat hK
          go_simp
          exact HF1.out
        · have e0 : a.tmps[8]?.getD undef = .pointer (some ⟨H, 0, none⟩) := hat.out 8 (by kernel_rfl)
          have e1 : a.tmps[29]?.getD undef = .int .i64 (k : Int) := hat.have_ 1 29 (by kernel_rfl) (hat.dep 1 (by kernel_rfl))
          have HF1 := Lib.hid (hK (.pointer (some ⟨H, k * 8, none⟩)) W rfl (fun k u _ h => h.mono 2) ⟨hat.base.1, hat.base.2.1, fun hl => hat.base.2.2 (set_false hl)⟩)
          clear hat hK
          go_simp
          exact HF1.out
        · have e0 : a.tmps[3]?.getD undef = .pointer (some ⟨C, 0, none⟩) := hat.out 3 (by kernel_rfl)
          have HF1 := Lib.hid (hK (.pointer (some ⟨C, 2, none⟩)) W rfl (fun k u _ h => h.mono 3) ⟨hat.base.1, hat.base.2.1, fun hl => hat.base.2.2 (set_false hl)⟩)
          clear hat hK
          go_simp
          exact HF1.out
        · have e0 : a.tmps[31]?.getD undef = .pointer (some ⟨C, 2, none⟩) := hat.have_ 3 31 (by kernel_rfl) (hat.dep 3 (by kernel_rfl))
          obtain ⟨x0, x1, x2⟩ := HXD.out.step (by rw [HSW.out]; exact hat.base.1)
          have HF1 := Lib.hid (hK (.slice r nR c3) W rfl (fun k u _ h => h.mono 4) ⟨hat.base.1, hat.base.2.1, fun hl => hat.base.2.2 (set_false hl)⟩)
          clear hat hK
          go_simp
          exact HF1.out
        · have e0 : a.tmps[32]?.getD undef = .slice r nR c3 := hat.have_ 4 32 (by kernel_rfl) (hat.dep 4 (by kernel_rfl))
          have HF1 := Lib.hid (hK (.int .i64 (nR : Int)) W rfl (fun k u _ h => h.mono 5) ⟨hat.base.1, hat.base.2.1, fun hl => hat.base.2.2 (set_false hl)⟩)
          clear hat hK
          go_simp
          exact HF1.out
        · have e0 : a.tmps[30]?.getD undef = .pointer (some ⟨H, k * 8, none⟩) := hat.have_ 2 30 (by kernel_rfl) (hat.dep 2 (by kernel_rfl))
          have e1 : a.tmps[33]?.getD undef = .int .i64 (nR : Int) := hat.have_ 5 33 (by kernel_rfl) (hat.dep 5 (by kernel_rfl))
          have HF1 := Lib.hid (hK (.slice (some ⟨H, k * 8, none⟩) nR 8) W rfl (fun k u _ h => h.mono 6) ⟨hat.base.1, hat.base.2.1, fun hl => hat.base.2.2 (set_false hl)⟩)
          clear hat hK
          go_simp
          exact HF1.out
        · have e0 : a.tmps[34]?.getD undef = .slice (some ⟨H, k * 8, none⟩) nR 8 := hat.have_ 6 34 (by kernel_rfl) (hat.dep 6 (by kernel_rfl))
          have CC := Lib.hid (cloneI_any H (k * 8) 8 (rowLs nR (cnt L TS DS n k)) W (by rw [rowLs_length]; omega) (by rw [rowLs_length]; omega) (HROW.out.step (by rw [HSW.out]; exact hat.base.1)))
          rw [rowLs_length] at CC
          have HH := Lib.hid (And.intro hat hK)
          clear hat hK
          go_simp
          refine (CC.out).mono ?_
          rintro e w' ⟨q2, cc2, cs2, rfl, hq2, hcs2, hbx⟩
          obtain ⟨hat, hK⟩ := HH.out
          exact hK _ _ (fun _ => ⟨q2, cc2, cs2, rfl, hq2, hcs2⟩) (fun k u hk h => h.step 7 (fun b hb => hbx.block b hb) (fun e => by rcases e with rfl | rfl <;> (first | (rw [hat.later 9 (by kernel_rfl)] at hk; cases hk) | (rw [hat.later 10 (by kernel_rfl)] at hk; cases hk)))) ⟨hat.base.1.trans (hbx.mono hat.base.2.1), Nat.le_trans hat.base.2.1 hbx.size, fun hl => (hat.base.2.2 (set_false hl)).step hbx⟩
        · obtain ⟨q2, cc2, cs2, e0, hq2, hcs2⟩ := hat.have_ 7 35 (by kernel_rfl) (hat.dep 7 (by kernel_rfl)) (hat.later 9 (by kernel_rfl))
          have HF1 := Lib.hid (hK (.slice (some ⟨W.heap.size, 0, none⟩) 1 1) (W.alloc (.cells #[.slice (some ⟨q2, 0, none⟩) nR cc2] 22)) (fun _ => ⟨W.heap.size, q2, cc2, cs2, rfl, heap_alloc_new _ _, (heap_alloc_old _ _ (lt_of_heap hq2)).trans hq2, hcs2⟩) (fun k u hk h => h.step 8 (fun b hb => heap_alloc_old _ _ hb) (fun e => by rcases e with rfl | rfl <;> (first | (rw [hat.later 9 (by kernel_rfl)] at hk; cases hk) | (rw [hat.later 10 (by kernel_rfl)] at hk; cases hk)))) ⟨hat.base.1.alloc hat.base.2.1 _, by simp; have := hat.base.2.1; omega, fun hl => (hat.base.2.2 (set_false hl)).step ((Below.refl _ _).alloc (Nat.le_refl _) _)⟩)
          clear hat hK
          go_simp
          exact HF1.out
        · have hold := hat.base.2.2 hat.open_
          have e1 : a.tmps[28]?.getD undef = u10 := hat.have_ 0 28 (by kernel_rfl) (hat.dep 0 (by kernel_rfl))
          obtain ⟨bb, q2, cc2, cs2, e2, hh, hq2, hcs2⟩ := hat.have_ 8 36 (by kernel_rfl) (hat.dep 8 (by kernel_rfl)) hat.open_
          have hz := hat.size
          refine step_append_lies W rfl (.tmp 28) (.tmp 36) 46 rfl S 22 i0 (.slice none 0 0) 1 24 (by kernel_rfl) hi0 hz0 hz1 hz2 rfl (by decide) u10 k (rows.map (slD nR)) ((Array.getD_eq_getD_getElem? ..).trans e1) hold.own ⟨bb, 0, none⟩ 1 1 [.slice (some ⟨q2, 0, none⟩) nR cc2] ((Array.getD_eq_getD_getElem? ..).trans e2) rfl (World.news_of_block (cs := #[.slice (some ⟨q2, 0, none⟩) nR cc2]) hh) (fun u hu => by simp at hu; subst hu; rfl) (by decide) (by unfold maxLen; omega) (by omega) hat.base.2.1 W.heap.size rfl ?_
          intro g cap w' ho hg hq hglt
          refine hK _ _ ⟨_, hold.snoc ho hg hq2 (fun j hj => by rw [hcs2 j hj, rowLs_get _ _ _ hj])⟩ (fun k u hk h => h.appd 9 (set_same (by rw [hz]; decide)) (fun e => by rcases e with rfl | rfl <;> (first | (rw [hat.open_] at hk; cases hk) | (rw [hat.later 10 (by kernel_rfl)] at hk; cases hk)))) ⟨below_grown hat.base.1 hg (fun k e => (hold.own.lt k e).1) hat.base.2.1, Nat.le_trans hat.base.2.1 hg.size, fun hl => by rw [set_same (by rw [hz]; decide)] at hl; cases hl⟩
        · have h12 := hat.have_ 9 37 (by kernel_rfl) (hat.dep 9 (by kernel_rfl))
          generalize hv : a.tmps[37]?.getD undef = v at h12
          have HF1 := Lib.hid (hK v W h12 (fun k u _ h => h.mono 10) ⟨hat.base.1, hat.base.2.1, fun hl => hat.base.2.2 (set_false hl)⟩)
          clear hat hK
          go_simp
          exact HF1.out
      case hend =>
        intro l u wc hall hG hB
        obtain ⟨rows', hM'⟩ : ∃ rows', LdT S wc (u 10) rows' nR (k + 1) (cnt L TS DS n) := hG 10 10 (by kernel_rfl)
        have HM2 := Lib.hid hM'; have HB2 := Lib.hid hB.1
        clear hG hB hall hM'
        simp only [putAll, Act.put, List.setIfInBounds_toArray, List.set_cons_zero, List.set_cons_succ, Nat.zero_add, Nat.reduceAdd]
        generalize u 10 = v10 at *
        generalize u 0 = y0; generalize u 1 = y1; generalize u 2 = y2; generalize u 3 = y3; generalize u 4 = y4; generalize u 5 = y5; generalize u 6 = y6; generalize u 7 = y7; generalize u 8 = y8; generalize u 9 = y9
        go_wp2_with fail
        go_roundw
        case rel => exact ⟨k + 1, rows', by go_num, by omega, HM2.out, HB2.out⟩
        case measure => simp [intOf]; omega
    · have hkN : k = nL := by omega
      subst hkN
      have hdd : decide (k < k) = false := by simp
      have hni : ¬ (k : Int) < (k : Int) := by omega
      clear hM hb
      go_wp2_with fail
      have hs : C ≤ S := by have := HB1.out.size; have := HBZ.out.size; have := HC.out; have := HSZ.out; have := HSW.out; have := HH0.out; omega
      refine bodyPost_ret (v := .tuple #[u10, .int .i64 0]) (by simp [results, Try.results19, go_sem]) rfl ⟨u10, rows, rfl, ⟨HM.out.len, ?_, HM.out.row⟩, ?_⟩
      · rw [HC.out]
        obtain ⟨h1, h2⟩ := HM.out.own
        refine ⟨h1, ?_⟩
        rcases h2 with h | ⟨q', cap, cur, hv, hb, hr⟩
        · exact .inl h
        · exact .inr ⟨q', cap, cur, hv, Nat.le_trans hs hb, hr⟩
      · rw [HC.out]
        exact HB0.out.trans ((HB1.out.mono (by have := HSZ.out; omega)).trans ((HBZ.out.mono (by have := HB1.out.size; have := HH0.out; have := HSZ.out; omega)).trans (HBE.out.mono hs)))
end Go.Proofs.Ytnconhbambhhgaa
