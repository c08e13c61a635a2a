/- ref30.load of changes that may be made. -/
import Derived.Test.YtnconhbambhhgaaRfC
import Derived.Test.YtnconhbambhhgaaFlD
import Derived.Deep.OwnRows
import Derived.Deep.AppendLies
namespace Go.Proofs.Ytnconhbambhhgaa
open Go.RowKit
set_option linter.all false

theorem info22 : (Try.prog.info? 22).map (fun i => (i.zero, i.size, i.bytes)) = some (some (.slice none 0 0), 1, 24) := by kernel_rfl
def rowC (n : Nat) (f : Nat → Nat) : Array Value := ((List.range n).map fun j => .int .i64 (f j : Int)).toArray
theorem rowC_get (n : Nat) (f : Nat → Nat) (j : Nat) (hj : j < n) : (rowC n f)[j]? = some (.int .i64 (f j : Int)) := by
  unfold rowC
  rw [List.getElem?_toArray, List.getElem?_map, List.getElem?_range hj]; rfl
theorem rowC_zero (n : Nat) : madeCells #[Value.int .i64 0] n = rowC n (fun _ => 0) := by
  unfold rowC madeCells
  apply Array.ext
  · simp
  · intro k h1 h2
    simp at h1 h2 ⊢
    rw [Nat.mod_one]; rfl
theorem make_ints (n : Nat) (hn : n ≤ 1000) (w : World) : (Instr.makeSlice 22 (.int .i64 (n : Int)) (.int .i64 (n : Int))).run Try.prog w = .ok (.slice (some ⟨w.heap.size, 0, none⟩) n n) (w.alloc (.cells (rowC n fun _ => 0) 3)) := by
  rw [← rowC_zero]
  exact run_make_row' 22 3 (.int .i64 0) 8 (by kernel_rfl) info3 rfl .i64 .i64 n (by omega) (by omega) w
theorem rowC_set (n : Nat) (f g : Nat → Nat) (t : Nat) (ht : t < n) (h : ∀ j, j < n → g j = if j = t then f t + 1 else f j) : (rowC n f).setIfInBounds t (.int .i64 ((f t : Int) + 1)) = rowC n g := by
  apply Array.ext
  · simp [rowC]
  · intro k h1 h2
    have hk : k < n := by simpa [rowC] using h2
    by_cases e : t = k
    · subst e
      simp [rowC, h t hk]
    · have e' : ¬ k = t := fun h => e h.symm
      simp [rowC, Array.getElem_setIfInBounds, e, h k hk, e']
theorem rowC_congr (n : Nat) (f g : Nat → Nat) (h : ∀ j, j < n → g j = f j) : rowC n f = rowC n g := by
  unfold rowC
  congr 1
  apply List.map_congr_left
  intro k hk
  rw [h k (List.mem_range.1 hk)]
/-- A table of nL rows of nR numbers in memory. -/
structure TabAt (S : Nat) (W : World) (q : Nat) (bs : List Nat) (nL nR : Nat) (M : Nat → Nat → Nat) : Prop where
  asc : ∀ i j, i < j → j < nL → bs.getD i 0 < bs.getD j 0
  low : ∀ i, i < nL → S ≤ bs.getD i 0
  own : ∃ cur, W.heap[q]? = some (.cells cur 22 (0, 0)) ∧ ∀ i, i < nL → cur[i]? = some (.slice (some ⟨bs.getD i 0, 0, none⟩) nR nR)
  rows : ∀ i, i < nL → W.heap[bs.getD i 0]? = some (.cells (rowC nR (M i)) 3 (0, 0))
section
variable {S : Nat} {W W' : World} {q : Nat} {bs : List Nat} {nL nR : Nat} {M : Nat → Nat → Nat}
theorem TabAt.cellq (h : TabAt S W q bs nL nR M) (i : Nat) (hi : i < nL) : W.cell? ⟨q, i, none⟩ = some (.slice (some ⟨bs.getD i 0, 0, none⟩) nR nR) := by
  obtain ⟨cur, hc, hr⟩ := h.own
  rw [cell_of_row _ q i _ _ _ hc, hr i hi]
theorem TabAt.cellr (h : TabAt S W q bs nL nR M) (i j : Nat) (hi : i < nL) (hj : j < nR) : W.cell? ⟨bs.getD i 0, j, none⟩ = some (.int .i64 (M i j : Int)) := by
  rw [cell_of_row _ _ j _ _ _ (h.rows i hi), rowC_get _ _ _ hj]
theorem TabAt.free (h : TabAt S W q bs nL nR M) (i j : Nat) (hi : i < nL) : W.frozen? ⟨bs.getD i 0, j, none⟩ = false := by
  have e := h.rows i hi
  generalize bs.getD i 0 = b at *
  simp [World.frozen?, e]
theorem TabAt.ne (h : TabAt S W q bs nL nR M) (i : Nat) (hi : i < nL) : q ≠ bs.getD i 0 := by
  intro e
  obtain ⟨cur, hc, _⟩ := h.own
  have := h.rows i hi
  rw [← e, hc] at this
  injection this with h1
  injection h1 with _ h2
  cases h2
theorem TabAt.step (h : TabAt S W q bs nL nR M) (hb : Below W.heap.size W W') : TabAt S W' q bs nL nR M := by
  refine ⟨h.asc, h.low, ?_, fun i hi => (hb.block _ (lt_of_heap (h.rows i hi))).trans (h.rows i hi)⟩
  obtain ⟨cur, hc, hr⟩ := h.own
  exact ⟨cur, (hb.block _ (lt_of_heap hc)).trans hc, hr⟩
theorem TabAt.add (h : TabAt S W q bs nL nR M) (i t : Nat) (hi : i < nL) (ht : t < nR) (M' : Nat → Nat → Nat) (hM : ∀ a b, M' a b = if a = i ∧ b = t then M i t + 1 else M a b) : TabAt S (W.setCell ⟨bs.getD i 0, t, none⟩ (.int .i64 ((M i t : Int) + 1))) q bs nL nR M' := by
  refine ⟨h.asc, h.low, ?_, fun k hk => ?_⟩
  · obtain ⟨cur, hc, hr⟩ := h.own
    exact ⟨cur, (heap_setCell_other W ⟨bs.getD i 0, t, none⟩ q _ (h.ne i hi)).trans hc, hr⟩
  · by_cases e : k = i
    · subst e
      rw [heap_setCell_same W _ t _ _ _ (h.rows k hk), rowC_set _ _ (M' k) _ ht (fun j hj => by rw [hM]; simp)]
    · rw [← rowC_congr nR (M k) (M' k) (fun j _ => by rw [hM, if_neg (fun h => e h.1)])]
      refine (heap_setCell_other W ⟨bs.getD i 0, t, none⟩ _ _ ?_).trans (h.rows k hk)
      show bs.getD k 0 ≠ bs.getD i 0
      rcases Nat.lt_or_gt_of_ne e with h1 | h1
      · have := h.asc k i h1 hi; omega
      · have := h.asc i k h1 hk; omega
theorem TabAt.below (h : TabAt S W q bs nL nR M) {w : World} (hb : Below S w W) (i j : Nat) (hi : i < nL) (v : Value) : Below S w (W.setCell ⟨bs.getD i 0, j, none⟩ v) :=
  hb.setCell (h.low i hi) v
end
def slC (n : Nat) (b : Nat) : Value := .slice (some ⟨b, 0, none⟩) n n
/-- A table that is being made: k rows are there. -/
structure TabMk (S : Nat) (W : World) (v : Value) (bs : List Nat) (n k : Nat) : Prop where
  len : bs.length = k
  asc : ∀ i j, i < j → j < k → bs.getD i 0 < bs.getD j 0
  low : ∀ i, i < k → S ≤ bs.getD i 0
  own : W.ownsRow S 22 1 v k (bs.map (slC n))
  rows : ∀ i, i < k → W.heap[bs.getD i 0]? = some (.cells (rowC n fun _ => 0) 3 (0, 0))
theorem TabMk.done {S : Nat} {W : World} {v : Value} {bs : List Nat} {n k : Nat} (h : TabMk S W v bs n k) (hn : 0 < k) : ∃ q c, v = .slice (some ⟨q, 0, none⟩) k c ∧ k ≤ c ∧ TabAt S W q bs k n (fun _ _ => 0) := by
  obtain ⟨hlen, h2⟩ := h.own
  rcases h2 with ⟨_, h0⟩ | ⟨q, cap, cur, hv, hbq, hh, hc, hc2, hs, ht⟩
  · omega
  · refine ⟨q, cap, hv, hc, h.asc, h.low, ⟨cur, hh, fun i hi => ?_⟩, h.rows⟩
    have e1 : (cur.toList.take (k * 1))[i]? = (bs.map (slC n))[i]? := by rw [ht]
    rw [List.getElem?_take, if_pos (by omega), List.getElem?_map, Array.getElem?_toList] at e1
    rw [e1, List.getD, List.getElem?_eq_getElem (by rw [h.len]; exact hi)]; rfl
theorem TabMk.snoc {S : Nat} {W W5 : World} {v : Value} {bs : List Nat} {n k g cap : Nat} {Wa : World} (h : TabMk S W v bs n k) (hWa : Wa.heap[W.heap.size]? = some (.cells (rowC n fun _ => 0) 3 (0, 0))) (hba : Below W.heap.size W Wa) (hS : S ≤ W.heap.size)
    (ho : W5.ownsRow S 22 1 (.slice (some ⟨g, 0, none⟩) (k + 1) cap) (k + 1) (bs.map (slC n) ++ [slC n W.heap.size])) (hg : Wa.grownBy W5 v.ownBlock) : TabMk S W5 (.slice (some ⟨g, 0, none⟩) (k + 1) cap) (bs ++ [W.heap.size]) n (k + 1) := by
  have hne : ∀ i, i < k → v.ownBlock ≠ some (bs.getD i 0) := by
    intro i hi e
    obtain ⟨_, h2⟩ := h.own
    rcases h2 with ⟨hv, _⟩ | ⟨q, cap, cur, hv, hbq, hh, hc, hc2, hs, ht⟩
    · rw [hv] at e; cases e
    · rw [hv] at e
      simp only [Value.ownBlock, Option.some.injEq] at e
      have := h.rows i hi
      rw [← e, hh] at this
      injection this with h1
      injection h1 with _ h2
      cases h2
  have hnew : v.ownBlock ≠ some W.heap.size := fun e => by have := (h.own.lt _ e).2; omega
  have gd1 : ∀ i, i < k → (bs ++ [W.heap.size]).getD i 0 = bs.getD i 0 := fun i hi => getD_snoc_lt _ _ _ (by rw [h.len]; exact hi)
  have gd2 : (bs ++ [W.heap.size]).getD k 0 = W.heap.size := getD_snoc_eq _ _ _ (by rw [h.len])
  refine ⟨by rw [List.length_append, h.len]; rfl, fun i j hij hj => ?_, fun i hi => ?_, by rw [List.map_append]; exact ho, fun i hi => ?_⟩
  · by_cases e : j = k
    · subst e
      rw [gd1 i hij, gd2]; exact lt_of_heap (h.rows i hij)
    · rw [gd1 i (by omega), gd1 j (by omega)]; exact h.asc i j hij (by omega)
  · by_cases e : i = k
    · subst e; rw [gd2]; exact hS
    · rw [gd1 i (by omega)]; exact h.low i (by omega)
  · by_cases e : i = k
    · subst e
      rw [gd2, hg.block _ (lt_of_heap hWa) (fun e => hnew e.symm)]; exact hWa
    · have h1 := h.rows i (by omega)
      have h2 := lt_of_heap h1
      rw [gd1 i (by omega), hg.block _ (by have := hba.size; omega) (fun e => hne i (by omega) e.symm), hba.block _ h2]; exact h1

def GD (C qq cq : Nat) (p q r : Option Addr) (nL c1 nQ c2 nR c3 N c5 b2 o2 k bi t f c : Nat) (d : Int) (_ : Array Bool) (i : Nat) (v : Value) (_ : World) : Prop := match i with
  | 0 => v = .slice (some ⟨qq, 0, none⟩) nL cq
  | 1 => v = .agg #[.slice p nL c1, .slice q nQ c2, .slice r nR c3]
  | 2 => v = .slice (some ⟨b2, o2, none⟩) N c5
  | 3 => v = .int .i64 (k : Int)
  | 4 => v = .pointer (some ⟨b2, o2 + k, none⟩)
  | 5 => v = .int .i64 d
  | 6 => v = .int .i64 (f : Int)
  | 7 => v = .pointer (some ⟨qq, f, none⟩)
  | 8 => v = .slice (some ⟨bi, 0, none⟩) nR nR
  | 9 => v = .int .i64 (t : Int)
  | 10 => v = .pointer (some ⟨bi, t, none⟩)
  | 11 => v = .int .i64 (c : Int)
  | 12 => v = .int .i64 ((c : Int) + 1)
  | 13 => v = .pointer (some ⟨bi, t, none⟩)
  | _ => True
def BD (w2 : World) (bi t c : Nat) (l : Array Bool) (W : World) : Prop :=
  (l.getD 14 false = false → Below w2.heap.size w2 W) ∧ (l.getD 14 false = true → ∃ W1, Below w2.heap.size w2 W1 ∧ W = W1.setCell ⟨bi, t, none⟩ (.int .i64 ((c : Int) + 1)))
def LoadP (L : List Win) (TS DS : List Int) (nR : Nat) (w : World) (e : Ending) (w' : World) : Prop := ∃ qq cq bs, e = .returned (.slice (some ⟨qq, 0, none⟩) L.length cq) ∧ L.length ≤ cq ∧ TabAt w.heap.size w' qq bs L.length nR (cnt L TS DS TS.length) ∧ Below w.heap.size w w'

set_option maxRecDepth 100000 in
set_option maxHeartbeats 8000000 in
theorem rload_good (p q r ta da : Option Addr) (L : List Win) (T : Nat → List Int) (Q R TS DS : List Int) (c1 c2 c3 c4 c5 : Nat) (w : World) (h : GoodCal w p q r L T Q R) (hL1 : 1 ≤ L.length)
    (hTS : TeamsAt w ta TS) (hDS : TeamsAt w da DS) (hlen : DS.length = TS.length) (h24 : TS.length ≤ 24) (hts : TS.all (isT R.length) = true)
    (hfi : ∀ j, j < TS.length → fi (DS.getD j 0) L < L.length) :
    Calls Try.prog 44 #[.agg #[.slice p L.length c1, .slice q Q.length c2, .slice r R.length c3], .slice ta TS.length c4, .slice da DS.length c5] w (LoadP L TS DS R.length w) := by
  obtain ⟨i0, hi0, hz0, hz1, hz2⟩ := info_parts info22
  have hb0 := (Below.refl w.heap.size w).alloc (Nat.le_refl _) (.cells #[.slice p L.length c1, .slice q Q.length c2, .slice r R.length c3] 38)
  have hx : CalBox w.heap.size p q r L.length c1 Q.length c2 R.length c3 (w.alloc (.cells #[.slice p L.length c1, .slice q Q.length c2, .slice r R.length c3] 38)) := ⟨by simp, by simp, by simp⟩
  have hsz : (w.alloc (.cells #[.slice p L.length c1, .slice q Q.length c2, .slice r R.length c3] 38)).heap.size = w.heap.size + 1 := by simp
  have hg := h.step hb0
  have l1 := h.l1; have l3 := h.l3
  have CA := Lib.hid (fun d W (hW : Below (w.alloc (.cells #[.slice p L.length c1, .slice q Q.length c2, .slice r R.length c3] 38)).heap.size (w.alloc (.cells #[.slice p L.length c1, .slice q Q.length c2, .slice r R.length c3] 38)) W) => rat_any p q r c1 Q.length c2 R.length c3 L d W (by omega) (hg.wins.step hW))
  have HT := Lib.hid (hTS.step hb0); have HD := Lib.hid (hDS.step hb0)
  have HX := Lib.hid hx; have HB0 := Lib.hid hb0; have HSZ := Lib.hid hsz; have HTS := Lib.hid hts; have HFIA := Lib.hid hfi
  obtain ⟨x0, x1, x2⟩ := hx
  clear h hg hb0 hsz hTS hDS hts hfi
  rw [hlen]
  have HLEN := Lib.hid hlen
  obtain ⟨nL, hL⟩ : ∃ N, L.length = N := ⟨_, rfl⟩
  obtain ⟨nQ, hQ⟩ : ∃ N, Q.length = N := ⟨_, rfl⟩
  obtain ⟨nR, hR⟩ : ∃ N, R.length = N := ⟨_, rfl⟩
  obtain ⟨N, hN⟩ : ∃ N, TS.length = N := ⟨_, rfl⟩
  have HNT := Lib.hid hN; have HNL := Lib.hid hL
  rw [hL, hQ, hR] at HX HB0 HSZ CA x0 x1 x2
  rw [hL, hQ, hR] at HT HD
  rw [hR] at HTS l3
  rw [hL] at l1 hL1
  rw [hN] at h24
  rw [hL, hQ, hR, hN]
  clear hlen hL hQ hR hN
  go_enter Try.func44, Try.ntmps44
  go_wp2_with fail
  generalize (w.alloc (.cells #[.slice p nL c1, .slice q nQ c2, .slice r nR c3] 38)) = W0 at *
  obtain ⟨C, hC⟩ : ∃ C, w.heap.size = C := ⟨_, rfl⟩
  rw [hC] at HX HSZ x0 x1 x2
  simp only [hC]
  have HC := Lib.hid hC
  clear hC
  obtain ⟨S, hS⟩ : ∃ S, W0.heap.size = S := ⟨_, rfl⟩
  have HS := Lib.hid hS
  clear x0 x1 x2
  have hnR0 : ¬ (nR : Int) < 0 := by omega
  go_loopw [7, 13] (fun v kv wr => ∃ (k : Nat) (bs : List Nat), kv = .int .i64 (k : Int) ∧ k ≤ nL ∧ TabMk S wr v bs nR k ∧ Below S W0 wr) (fun _ kv _ => nL - (intOf kv).toNat)
  case atStart => exact ⟨0, [], rfl, Nat.zero_le _, ⟨rfl, fun _ _ _ h => by omega, fun _ h => by omega, World.ownsRow_nil _ _ _ _, fun _ h => by omega⟩, Below.refl _ _⟩
  case round =>
    obtain ⟨k, bs, rfl, hk, hM, hb⟩ := hrel
    have HM := Lib.hid hM; have HBE := Lib.hid hb
    have hSw : S ≤ wr.heap.size := by have := hb.size; omega
    by_cases hlt : k < nL
    · have hi2 : (k : Int) < (nL : Int) := by omega
      have hdd : decide (k < nL) = true := decide_eq_true hlt
      obtain ⟨x0, x1, x2⟩ := HX.out.step (by rw [HS.out]; exact hb)
      have hmk := make_ints nR (by omega) wr
      have hba := ((Below.refl wr.heap.size wr).alloc (Nat.le_refl _) (.cells (rowC nR fun _ => 0) 3)).alloc (by simp) (.cells #[slC nR wr.heap.size] 22)
      have hh0 : ((wr.alloc (.cells (rowC nR fun _ => 0) 3)).alloc (.cells #[slC nR wr.heap.size] 22)).heap[wr.heap.size]? = some (.cells (rowC nR fun _ => 0) 3 (0, 0)) := by
        rw [heap_alloc_old _ _ (by simp)]; exact heap_alloc_new _ _
      have hh1 : ((wr.alloc (.cells (rowC nR fun _ => 0) 3)).alloc (.cells #[slC nR wr.heap.size] 22)).heap[wr.heap.size + 1]? = some (.cells #[slC nR wr.heap.size] 22 (0, 0)) := by
        have := heap_alloc_new (wr.alloc (.cells (rowC nR fun _ => 0) 3)) (.cells #[slC nR wr.heap.size] 22)
        simpa using this
      have hbase : S ≤ ((wr.alloc (.cells (rowC nR fun _ => 0) 3)).alloc (.cells #[slC nR wr.heap.size] 22)).heap.size := by simp; omega
      have hown := ((HM.out.own.alloc (.cells (rowC nR fun _ => 0) 3)).alloc (.cells #[slC nR wr.heap.size] 22))
      have HA := Lib.hid (And.intro hba (And.intro hh0 (And.intro hh1 (And.intro hbase hown))))
      clear hba hh0 hh1 hbase hown hM hb hS
      have tok1 : True := trivial
      go_wp2_with (first | (at_builtin; have _t := tok1; go_loud (refine wpList_append_lies _ rfl (.tmp 15) (.tmp 20) 46 rfl S 22 i0 (.slice none 0 0) 1 24 (by kernel_rfl) hi0 hz0 hz1 hz2 rfl (by decide) u7 k (bs.map (slC nR)) rfl HA.out.2.2.2.2 ⟨wr.heap.size + 1, 0, none⟩ 1 1 [slC nR wr.heap.size] rfl rfl (World.news_of_block (cs := #[slC nR wr.heap.size]) HA.out.2.2.1) (fun u hu => by simp at hu; subst hu; rfl) (by decide) (by unfold maxLen; omega) (by omega) HA.out.2.2.2.1 (wr.heap.size + 2) (by simp) ?_); intro g cap w5 ho hg hq hglt; have HM2 := Lib.hid (HM.out.snoc HA.out.2.1 HA.out.1 hSw ho hg); have HB2 := Lib.hid (below_grown (HBE.out.trans (HA.out.1.mono hSw)) hg (fun k e => (HM.out.own.lt k e).1) HA.out.2.2.2.1); clear ho hg hq hglt tok1))
      go_roundw
      case rel => exact ⟨k + 1, bs ++ [wr.heap.size], by go_num, by omega, HM2.out, HB2.out⟩
      case measure => simp [intOf]; omega
    · have hkn : k = nL := by omega
      have hdd : decide (k < nL) = false := decide_eq_false hlt
      have hni : ¬ (k : Int) < (nL : Int) := by omega
      rw [hkn] at hM
      obtain ⟨qq, cq, hv, hcq, hTab⟩ := hM.done (by omega)
      subst hv
      have hz : TabAt S wr qq bs nL nR (cnt L TS DS 0) := hTab
      have HTB := Lib.hid hz
      clear hM hb hTab hz HM hkn hS
      go_wp2_with fail
      go_loopw [25] (fun kv wr => ∃ k : Nat, kv = .int .i64 (k : Int) ∧ k ≤ N ∧ TabAt S wr qq bs nL nR (cnt L TS DS k) ∧ Below S W0 wr) (fun kv _ => N - (intOf kv).toNat)
      case atStart => exact ⟨0, rfl, Nat.zero_le _, HTB.out, HBE.out⟩
      case round =>
        clear HTB HBE
        obtain ⟨k, rfl, hk, hM, hb⟩ := hrel
        by_cases hlt : k < N
        · have hb' : Below W0.heap.size W0 wr := by rw [HS.out]; exact hb
          obtain ⟨b, o, hp, hc⟩ := (HT.out.step hb') k (by rw [HNT.out]; exact hlt)
          obtain ⟨b2, o2, hp2, hcd⟩ := (HD.out.step hb') k (by rw [HLEN.out, HNT.out]; exact hlt)
          obtain ⟨g1, g2⟩ := isT_of_all HTS.out (j := k) (by rw [HNT.out]; exact hlt)
          have hfl := HFIA.out k (by rw [HNT.out]; exact hlt)
          have hcs := cnt_succ L TS DS k
          subst hp; subst hp2
          obtain ⟨t0, ht⟩ : ∃ t, TS.getD k 0 = t := ⟨_, rfl⟩
          obtain ⟨d, hd⟩ : ∃ d, DS.getD k 0 = d := ⟨_, rfl⟩
          rw [ht] at hc g1 g2
          rw [hd] at hcd hfl
          obtain ⟨t, rfl⟩ := Int.eq_ofNat_of_zero_le g1
          obtain ⟨f, hf⟩ : ∃ f, fi d L = f := ⟨_, rfl⟩
          have hflt : f < nL := by rw [← hf, ← HNL.out]; exact hfl
          have htlt : t < nR := by omega
          obtain ⟨c, hcc⟩ : ∃ c, cnt L TS DS k f t = c := ⟨_, rfl⟩
          have hcle := cnt_le L TS DS k f t
          have hi0' : (0 : Int) ≤ (k : Int) := by omega
          have hi2 : (k : Int) < (N : Int) := by omega
          have hdd : decide (k < N) = true := decide_eq_true hlt
          have q0 : (0 : Int) ≤ (f : Int) := by omega
          have q1 : (f : Int) < (nL : Int) := by omega
          have q2 : (0 : Int) ≤ (t : Int) := by omega
          have q3 : (t : Int) < (nR : Int) := by omega
          have q4 : IntKind.i64.wrap ((c : Int) + 1) = (c : Int) + 1 := IntWalk.i64_in _ (by omega)
          have hSw' : S ≤ wr.heap.size := by have := hb.size; have := HS.out; omega
          obtain ⟨bi, hbi⟩ : ∃ b, bs.getD f 0 = b := ⟨_, rfl⟩
          have HXD := Lib.hid ((HX.out.step hb')); have HCD := Lib.hid hcd; have HBR := Lib.hid hb'; have HFL := Lib.hid hflt; have HFI := Lib.hid hf
          have HQF := Lib.hid (show wr.cell? ⟨qq, f, none⟩ = some (.slice (some ⟨bi, 0, none⟩) nR nR) by rw [hM.cellq f hflt, hbi])
          have HCC := Lib.hid (show wr.cell? ⟨bi, t, none⟩ = some (.int .i64 (c : Int)) by rw [← hbi, ← hcc]; exact hM.cellr f t hflt htlt)
          have HFZ := Lib.hid (show wr.frozen? ⟨bi, t, none⟩ = false by rw [← hbi]; exact hM.free f t hflt)
          have HRB := Lib.hid (show wr.heap[bi]? = some (.cells (rowC nR (cnt L TS DS k f)) 3 (0, 0)) by rw [← hbi]; exact hM.rows f hflt)
          have HMT := Lib.hid hM; have HBS := Lib.hid hb; have HBI := Lib.hid hbi; have HCT := Lib.hid hcc
          have HCS := Lib.hid (show ∀ a b, cnt L TS DS (k + 1) a b = if a = f ∧ b = t then cnt L TS DS k f t + 1 else cnt L TS DS k a b by
            intro a' b'
            rw [hcs a' b', hd, hf, ht]
            by_cases e : a' = f ∧ b' = t
            · obtain ⟨rfl, rfl⟩ := e
              simp
            · rw [if_neg e, if_neg (fun h => e ⟨h.1.symm, by have := h.2; omega⟩)]; rfl)
          clear hcd hb hb' hM hfl hf ht hd hcs hcc hbi g1 g2 hcle
          go_upto_region 9 with fail
          clear hc
          refine region_factsC (by kernel_rfl) (GD C qq cq p q r nL c1 nQ c2 nR c3 N c5 b2 o2 k bi t f c d) (BD wr bi t c) (by kernel_rfl) (by kernel_rfl) ?h0 ?hstep ?hend
          case h0 => exact ⟨fun _ => below_drewN (Below.refl _ _) 1, fun h => by simp at h⟩
          case hstep =>
            intro i oo l a W ho hat K hK
            have hi : i < 15 := (Array.getElem?_eq_some_iff.1 ho).1
            obtain rfl | rfl | rfl | rfl | rfl | rfl | rfl | rfl | rfl | rfl | rfl | rfl | rfl | rfl | rfl : i = 0 ∨ i = 1 ∨ i = 2 ∨ i = 3 ∨ i = 4 ∨ i = 5 ∨ i = 6 ∨ i = 7 ∨ i = 8 ∨ i = 9 ∨ i = 10 ∨ i = 11 ∨ i = 12 ∨ i = 13 ∨ i = 14 := by omega
            all_goals
              have ho := Option.some.inj (show some _ = some oo from ho)
              subst ho
            · have e0 : a.tmps[7]?.getD undef = .slice (some ⟨qq, 0, none⟩) nL cq := hat.out 7 (by kernel_rfl)
              have HF1 := Lib.hid (hK (.slice (some ⟨qq, 0, none⟩) nL cq) W rfl (fun _ _ _ h => h) (by have hb0 := hat.base; exact ⟨fun hl => hb0.1 (set_false hl), fun hl => hb0.2 (by rwa [getD_set_ne false (by decide)] at hl)⟩))
              clear hat hK
              go_simp
              exact HF1.out
            · have e0 : a.tmps[3]?.getD undef = .pointer (some ⟨C, 0, none⟩) := hat.out 3 (by kernel_rfl)
              obtain ⟨x0, x1, x2⟩ := HXD.out.step (hat.base.1 (hat.later 14 (by kernel_rfl)))
              have HF1 := Lib.hid (hK (.agg #[.slice p nL c1, .slice q nQ c2, .slice r nR c3]) W rfl (fun _ _ _ h => h) (by have hb0 := hat.base; exact ⟨fun hl => hb0.1 (set_false hl), fun hl => hb0.2 (by rwa [getD_set_ne false (by decide)] at hl)⟩))
              clear hat hK
              go_simp
              exact HF1.out
            · have e0 : a.tmps[2]?.getD undef = .slice (some ⟨b2, o2, none⟩) N c5 := hat.out 2 (by kernel_rfl)
              have HF1 := Lib.hid (hK (.slice (some ⟨b2, o2, none⟩) N c5) W rfl (fun _ _ _ h => h) (by have hb0 := hat.base; exact ⟨fun hl => hb0.1 (set_false hl), fun hl => hb0.2 (by rwa [getD_set_ne false (by decide)] at hl)⟩))
              clear hat hK
              go_simp
              exact HF1.out
            · have e0 : a.tmps[8]?.getD undef = .int .i64 (k : Int) := hat.out 8 (by kernel_rfl)
              have HF1 := Lib.hid (hK (.int .i64 (k : Int)) W rfl (fun _ _ _ h => h) (by have hb0 := hat.base; exact ⟨fun hl => hb0.1 (set_false hl), fun hl => hb0.2 (by rwa [getD_set_ne false (by decide)] at hl)⟩))
              clear hat hK
              go_simp
              exact HF1.out
            · have e0 : a.tmps[32]?.getD undef = .slice (some ⟨b2, o2, none⟩) N c5 := hat.have_ 2 32 (by kernel_rfl) (hat.dep 2 (by kernel_rfl))
              have e1 : a.tmps[33]?.getD undef = .int .i64 (k : Int) := hat.have_ 3 33 (by kernel_rfl) (hat.dep 3 (by kernel_rfl))
              have HF1 := Lib.hid (hK (.pointer (some ⟨b2, o2 + k, none⟩)) W rfl (fun _ _ _ h => h) (by have hb0 := hat.base; exact ⟨fun hl => hb0.1 (set_false hl), fun hl => hb0.2 (by rwa [getD_set_ne false (by decide)] at hl)⟩))
              clear hat hK
              go_simp
              exact HF1.out
            · have e0 : a.tmps[34]?.getD undef = .pointer (some ⟨b2, o2 + k, none⟩) := hat.have_ 4 34 (by kernel_rfl) (hat.dep 4 (by kernel_rfl))
              have cd := cell_later' (hat.base.1 (hat.later 14 (by kernel_rfl))) HCD.out
              have HF1 := Lib.hid (hK (.int .i64 d) W rfl (fun _ _ _ h => h) (by have hb0 := hat.base; exact ⟨fun hl => hb0.1 (set_false hl), fun hl => hb0.2 (by rwa [getD_set_ne false (by decide)] at hl)⟩))
              clear hat hK
              go_simp
              exact HF1.out
            · have e0 : a.tmps[31]?.getD undef = .agg #[.slice p nL c1, .slice q nQ c2, .slice r nR c3] := hat.have_ 1 31 (by kernel_rfl) (hat.dep 1 (by kernel_rfl))
              have e2 : a.tmps[35]?.getD undef = .int .i64 d := hat.have_ 5 35 (by kernel_rfl) (hat.dep 5 (by kernel_rfl))
              have hbw := (hat.base.1 (hat.later 14 (by kernel_rfl)))
              have CAW := Lib.hid (CA.out d W (HBR.out.trans (hbw.mono HBR.out.size)))
              have HH := Lib.hid (And.intro hat hK)
              clear hat hK hbw
              go_simp
              refine (CAW.out).mono ?_
              rintro e w' ⟨x, rfl, hx, hbx⟩
              obtain ⟨hat, hK⟩ := HH.out
              have hxf : x = (f : Int) := by
                rcases findR_fi hx with ⟨_, hf⟩ | ⟨hf, _⟩
                · have := HFL.out; rw [HFI.out, HNL.out] at hf; omega
                · rw [hf, HFI.out]
              rw [hxf]
              have hbw := (hat.base.1 (hat.later 14 (by kernel_rfl)))
              exact hK _ _ rfl (fun _ _ _ h => h) ⟨fun _ => hbw.trans (hbx.mono hbw.size), fun h14 => by rw [getD_set_ne false (by decide), hat.later 14 (by kernel_rfl)] at h14; cases h14⟩
            · have e0 : a.tmps[30]?.getD undef = .slice (some ⟨qq, 0, none⟩) nL cq := hat.have_ 0 30 (by kernel_rfl) (hat.dep 0 (by kernel_rfl))
              have e1 : a.tmps[36]?.getD undef = .int .i64 (f : Int) := hat.have_ 6 36 (by kernel_rfl) (hat.dep 6 (by kernel_rfl))
              have HF1 := Lib.hid (hK (.pointer (some ⟨qq, f, none⟩)) W rfl (fun _ _ _ h => h) (by have hb0 := hat.base; exact ⟨fun hl => hb0.1 (set_false hl), fun hl => hb0.2 (by rwa [getD_set_ne false (by decide)] at hl)⟩))
              clear hat hK
              go_simp
              exact HF1.out
            · have e0 : a.tmps[37]?.getD undef = .pointer (some ⟨qq, f, none⟩) := hat.have_ 7 37 (by kernel_rfl) (hat.dep 7 (by kernel_rfl))
              have cd := cell_later' (hat.base.1 (hat.later 14 (by kernel_rfl))) HQF.out
              have HF1 := Lib.hid (hK (.slice (some ⟨bi, 0, none⟩) nR nR) W rfl (fun _ _ _ h => h) (by have hb0 := hat.base; exact ⟨fun hl => hb0.1 (set_false hl), fun hl => hb0.2 (by rwa [getD_set_ne false (by decide)] at hl)⟩))
              clear hat hK
              go_simp
              exact HF1.out
            · have e0 : a.tmps[9]?.getD undef = .int .i64 (t : Int) := hat.out 9 (by kernel_rfl)
              have HF1 := Lib.hid (hK (.int .i64 (t : Int)) W rfl (fun _ _ _ h => h) (by have hb0 := hat.base; exact ⟨fun hl => hb0.1 (set_false hl), fun hl => hb0.2 (by rwa [getD_set_ne false (by decide)] at hl)⟩))
              clear hat hK
              go_simp
              exact HF1.out
            · have e0 : a.tmps[38]?.getD undef = .slice (some ⟨bi, 0, none⟩) nR nR := hat.have_ 8 38 (by kernel_rfl) (hat.dep 8 (by kernel_rfl))
              have e1 : a.tmps[39]?.getD undef = .int .i64 (t : Int) := hat.have_ 9 39 (by kernel_rfl) (hat.dep 9 (by kernel_rfl))
              have HF1 := Lib.hid (hK (.pointer (some ⟨bi, t, none⟩)) W rfl (fun _ _ _ h => h) (by have hb0 := hat.base; exact ⟨fun hl => hb0.1 (set_false hl), fun hl => hb0.2 (by rwa [getD_set_ne false (by decide)] at hl)⟩))
              clear hat hK
              go_simp
              exact HF1.out
            · have e0 : a.tmps[40]?.getD undef = .pointer (some ⟨bi, t, none⟩) := hat.have_ 10 40 (by kernel_rfl) (hat.dep 10 (by kernel_rfl))
              have cd := cell_later' (hat.base.1 (hat.later 14 (by kernel_rfl))) HCC.out
              have HF1 := Lib.hid (hK (.int .i64 (c : Int)) W rfl (fun _ _ _ h => h) (by have hb0 := hat.base; exact ⟨fun hl => hb0.1 (set_false hl), fun hl => hb0.2 (by rwa [getD_set_ne false (by decide)] at hl)⟩))
              clear hat hK
              go_simp
              exact HF1.out
            · have e0 : a.tmps[41]?.getD undef = .int .i64 (c : Int) := hat.have_ 11 41 (by kernel_rfl) (hat.dep 11 (by kernel_rfl))
              have HF1 := Lib.hid (hK (.int .i64 ((c : Int) + 1)) W rfl (fun _ _ _ h => h) (by have hb0 := hat.base; exact ⟨fun hl => hb0.1 (set_false hl), fun hl => hb0.2 (by rwa [getD_set_ne false (by decide)] at hl)⟩))
              clear hat hK
              go_simp
              exact HF1.out
            · have e0 : a.tmps[38]?.getD undef = .slice (some ⟨bi, 0, none⟩) nR nR := hat.have_ 8 38 (by kernel_rfl) (hat.dep 8 (by kernel_rfl))
              have e1 : a.tmps[39]?.getD undef = .int .i64 (t : Int) := hat.have_ 9 39 (by kernel_rfl) (hat.dep 9 (by kernel_rfl))
              have HF1 := Lib.hid (hK (.pointer (some ⟨bi, t, none⟩)) W rfl (fun _ _ _ h => h) (by have hb0 := hat.base; exact ⟨fun hl => hb0.1 (set_false hl), fun hl => hb0.2 (by rwa [getD_set_ne false (by decide)] at hl)⟩))
              clear hat hK
              go_simp
              exact HF1.out
            · have e0 : a.tmps[43]?.getD undef = .pointer (some ⟨bi, t, none⟩) := hat.have_ 13 43 (by kernel_rfl) (hat.dep 13 (by kernel_rfl))
              have e1 : a.tmps[42]?.getD undef = .int .i64 ((c : Int) + 1) := hat.have_ 12 42 (by kernel_rfl) (hat.dep 12 (by kernel_rfl))
              have hbw := hat.base.1 hat.open_
              have c0 := cell_later' hbw HCC.out
              have f0 : W.frozen? ⟨bi, t, none⟩ = false := (World.frozen?_of_block (hbw.block bi (lt_of_heap HRB.out))).trans HFZ.out
              have HF1 := Lib.hid (hK undef (W.setCell ⟨bi, t, none⟩ (.int .i64 ((c : Int) + 1))) trivial (fun _ _ _ h => h) ⟨fun hl => (by rw [set_same (by rw [hat.size]; decide)] at hl; cases hl), fun _ => ⟨W, hbw, rfl⟩⟩)
              clear hat hK hbw
              go_simp
              exact HF1.out
          case hend =>
            intro l u wc hall hG hB
            obtain ⟨W1, hb1, hwc⟩ := hB.2 (hall 14 (by decide))
            have hM1 := HMT.out.step hb1
            have hadd := hM1.add f t HFL.out htlt (cnt L TS DS (k + 1)) HCS.out
            have hbel := hM1.below (HBS.out.trans (hb1.mono hSw')) f t HFL.out (.int .i64 ((c : Int) + 1))
            rw [HBI.out, HCT.out, ← hwc] at hadd
            rw [HBI.out, ← hwc] at hbel
            have HADD := Lib.hid hadd; have HBEL := Lib.hid hbel
            clear hG hB hall hb1 hM1 hadd hbel hwc
            simp only [putAll, Act.put, List.setIfInBounds_toArray, List.set_cons_zero, List.set_cons_succ, Nat.zero_add, Nat.reduceAdd]
            generalize u 0 = y0; generalize u 1 = y1; generalize u 2 = y2; generalize u 3 = y3; generalize u 4 = y4; generalize u 5 = y5; generalize u 6 = y6; generalize u 7 = y7; generalize u 8 = y8; generalize u 9 = y9; generalize u 10 = y10; generalize u 11 = y11; generalize u 12 = y12; generalize u 13 = y13
            go_wp2_with fail
            go_roundw
            case rel => exact ⟨k + 1, by go_num, by omega, HADD.out, HBEL.out⟩
            case measure => simp [intOf]; omega
        · have hkN : k = N := by omega
          subst hkN
          have hdd : decide (k < k) = false := by simp
          have hni : ¬ (k : Int) < (k : Int) := by omega
          have HTF := Lib.hid hM; have HBF := Lib.hid hb
          clear hM hb
          go_wp2_with fail
          go_ret
          refine ⟨qq, cq, bs, by rw [HNL.out]; rfl, by rw [HNL.out]; exact hcq, ?_, HB0.out.trans (HBF.out.mono (by have := HSZ.out; have := HS.out; have := HC.out; omega))⟩
          rw [HNL.out, HNT.out]
          have ht := HTF.out
          exact ⟨ht.asc, fun i hi => Nat.le_trans (by have := HSZ.out; have := HS.out; have := HC.out; omega) (ht.low i hi), ht.own, ht.rows⟩
end Go.Proofs.Ytnconhbambhhgaa
