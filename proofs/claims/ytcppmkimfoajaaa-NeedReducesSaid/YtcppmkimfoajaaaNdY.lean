/- ref28.Ways. -/
import Derived.Test.YtcppmkimfoajaaaNdX
import Derived.Test.YtcppmkimfoajaaaRegC
import Derived.Test.YtcppmkimfoajaaaNdS
namespace Go.Proofs.Ytcppmkimfoajaaa
open Go.RowKit
set_option linter.all false

def WaysP (n : Nat) (L : List Rq) (w : World) (e : Ending) (w' : World) : Prop := ∃ q c bs M, e = .returned (.slice (some ⟨q, 0, none⟩) n c) ∧ n ≤ c ∧ MatAt w.heap.size w' q bs n M ∧ (∀ i j, i < n → j < n → (M i j = true ↔ Way L i j)) ∧ Below w.heap.size w w'
/-- The requirements of a list, as a table. -/
def edgM (L : List Rq) (a b : Nat) : Bool := decide (((a : Int), (b : Int)) ∈ L)
theorem edgM_snoc (L : List Rq) (i j : Nat) : edgM (L ++ [((i : Int), (j : Int))]) = upd (edgM L) i j true := by
  funext a b
  unfold edgM upd
  by_cases e : a = i ∧ b = j
  · obtain ⟨rfl, rfl⟩ := e
    simp
  · rw [if_neg e]
    have : ((a : Int), (b : Int)) ≠ ((i : Int), (j : Int)) := fun h => e (by injection h with h1 h2; omega)
    simp [this]

def G9 (q n cq X bi i j : Nat) (_ : Array Bool) (k : Nat) (v : Value) (_ : World) : Prop := match k with
  | 0 => v = .slice (some ⟨q, 0, none⟩) n cq
  | 1 => v = .pointer (some ⟨X, 0, none⟩)
  | 2 => v = .int .i64 (i : Int)
  | 3 => v = .pointer (some ⟨q, i, none⟩)
  | 4 => v = .slice (some ⟨bi, 0, none⟩) n n
  | 5 => v = .pointer (some ⟨X, 1, none⟩)
  | 6 => v = .int .i64 (j : Int)
  | 7 => v = .pointer (some ⟨bi, j, none⟩)
  | _ => True
def B9 (w0 : World) (bi j : Nat) (l : Array Bool) (W : World) : Prop := (l.getD 8 false = true → W = w0.setCell ⟨bi, j, none⟩ (.bool true)) ∧ (l.getD 8 false = false → W = w0)

set_option maxRecDepth 100000 in
set_option maxHeartbeats 8000000 in
theorem ways_any (a : Option Addr) (c : Nat) (L : List Rq) (n : Nat) (w : World) (h1 : 1 ≤ n) (hn : n ≤ 24) (hin : Inn n L) (hl : L.length ≤ 400) (hL : ReqsAt w a L) :
    Calls Try.prog 19 #[.int .i64 (n : Int), .slice a L.length c] w (WaysP n L w) := by
  obtain ⟨i0, hi0, hz0, hz1, hz2⟩ := info_parts info43
  have HL := Lib.hid hL; have HIN := Lib.hid hin
  obtain ⟨N, hN⟩ : ∃ N, L.length = N := ⟨_, rfl⟩
  have HN := Lib.hid hN
  rw [hN] at hl ⊢
  obtain ⟨S, hS⟩ : ∃ S, w.heap.size = S := ⟨_, rfl⟩
  have HS := Lib.hid hS
  have hn0 : ¬ (n : Int) < 0 := by omega
  clear hL hN hin
  go_enter Try.func19, Try.ntmps19
  go_wp2_with fail
  go_loopw [5, 12] (fun v kv wr => ∃ (k : Nat) (bs : List Nat), kv = .int .i64 (k : Int) ∧ k ≤ n ∧ MatMk S wr v bs n k ∧ Below S w wr) (fun _ kv _ => n - (intOf kv).toNat)
  case atStart => exact ⟨0, [], rfl, Nat.zero_le _, ⟨rfl, fun _ _ _ h => by omega, fun _ h => by omega, World.ownsRow_nil _ _ _ _, fun _ h => by omega⟩, Below.refl _ _⟩
  case round =>
    obtain ⟨k, bs, rfl, hk, hM, hb⟩ := hrel
    have HM := Lib.hid hM; have HBE := Lib.hid hb
    have hSw : S ≤ wr.heap.size := by have := hb.size; omega
    clear hM hb
    by_cases hlt : k < n
    · have hi2 : (k : Int) < (n : Int) := by omega
      have hdd : decide (k < n) = true := decide_eq_true hlt
      have hmk := make_row n (by omega) k wr
      have hba := ((Below.refl wr.heap.size wr).alloc (Nat.le_refl _) (.cells (rowA n (fun _ _ => false) k) 4)).alloc (by simp) (.cells #[slB n wr.heap.size] 43)
      have hh0 : ((wr.alloc (.cells (rowA n (fun _ _ => false) k) 4)).alloc (.cells #[slB n wr.heap.size] 43)).heap[wr.heap.size]? = some (.cells (rowA n (fun _ _ => false) k) 4 (0, 0)) := by
        rw [heap_alloc_old _ _ (by simp)]; exact heap_alloc_new _ _
      have hh1 : ((wr.alloc (.cells (rowA n (fun _ _ => false) k) 4)).alloc (.cells #[slB n wr.heap.size] 43)).heap[wr.heap.size + 1]? = some (.cells #[slB n wr.heap.size] 43 (0, 0)) := by
        have := heap_alloc_new (wr.alloc (.cells (rowA n (fun _ _ => false) k) 4)) (.cells #[slB n wr.heap.size] 43)
        simpa using this
      have hbase : S ≤ ((wr.alloc (.cells (rowA n (fun _ _ => false) k) 4)).alloc (.cells #[slB n wr.heap.size] 43)).heap.size := by simp; omega
      have hown := ((HM.out.own.alloc (.cells (rowA n (fun _ _ => false) k) 4)).alloc (.cells #[slB n wr.heap.size] 43))
      have HA := Lib.hid (And.intro hba (And.intro hh0 (And.intro hh1 (And.intro hbase hown))))
      clear hba hh0 hh1 hbase hown
      have tok1 : True := trivial
      go_wp2_with (first | (at_builtin; have _t := tok1; go_loud (refine wpList_append_lies _ rfl (.tmp 14) (.tmp 17) 39 rfl S 43 i0 (.slice none 0 0) 1 24 (by kernel_rfl) hi0 hz0 hz1 hz2 rfl (by decide) u5 k (bs.map (slB n)) rfl HA.out.2.2.2.2 ⟨wr.heap.size + 1, 0, none⟩ 1 1 [slB n wr.heap.size] rfl rfl (World.news_of_block (cs := #[slB n wr.heap.size]) HA.out.2.2.1) (fun u hu => by simp at hu; subst hu; rfl) (by decide) (by unfold maxLen; omega) (by omega) HA.out.2.2.2.1 (wr.heap.size + 2) (by simp) ?_); intro g cap w5 ho hg hq hglt; have HM2 := Lib.hid (HM.out.snoc HA.out.2.1 HA.out.1 hSw ho hg); have HB2 := Lib.hid (below_grown' (HBE.out.trans (HA.out.1.mono hSw)) hg (fun k e => (HM.out.own.lt k e).1) HA.out.2.2.2.1); clear ho hg hq hglt tok1))
      go_roundw
      case rel => exact ⟨k + 1, bs ++ [wr.heap.size], by go_num, by omega, HM2.out, HB2.out⟩
      case measure => simp [intOf]; omega
    · have hkn : k = n := by omega
      subst hkn
      have hdd : decide (k < k) = false := by simp
      have hni : ¬ (k : Int) < (k : Int) := by omega
      obtain ⟨q, cq, hv, hcq, hMat⟩ := HM.out.done (by omega)
      subst hv
      have HMT := Lib.hid hMat
      clear hMat HM
      generalize hnn : k = n at *
      have HNN := Lib.hid hnn
      clear hnn
      go_wp2_with fail
      go_loopw [22] (fun kv w2 => ∃ m : Nat, kv = .int .i64 (m : Int) ∧ m ≤ N ∧ MatAt S w2 q bs n (edgM (L.take m)) ∧ Below S w w2) (fun kv _ => N - (intOf kv).toNat)
      case atStart => exact ⟨0, rfl, Nat.zero_le _, HMT.out, HBE.out⟩
      case round =>
        clear HMT HBE
        obtain ⟨m, rfl, hm, hM2, hb2⟩ := hrel
        have hSw2 : S ≤ wr.heap.size := by have := hb2.size; omega
        by_cases hltm : m < N
        · obtain ⟨b1, o1, hp1, c0, c1⟩ := HL.out m (by rw [HN.out]; exact hltm)
          subst hp1
          have hb2' : Below w.heap.size w wr := by rw [hS]; exact hb2
          have c0 := cell_later' hb2' c0
          have c1 := cell_later' hb2' c1
          have hmi0 : (0 : Int) ≤ (m : Int) := by omega
          have hmi2 : (m : Int) < (N : Int) := by omega
          have hdd2 : decide (m < N) = true := decide_eq_true hltm
          have hml : m < L.length := by rw [HN.out]; exact hltm
          have htk : L.take (m + 1) = L.take m ++ [L.getD m rq0] := by
            rw [List.take_succ, List.getElem?_eq_getElem hml]
            simp [List.getD, hml]
          have hinx := HIN.out (L.getD m rq0) (by rw [List.getD, List.getElem?_eq_getElem hml]; exact List.getElem_mem hml)
          obtain ⟨x, hx⟩ : ∃ x, L.getD m rq0 = x := ⟨_, rfl⟩
          rw [hx] at c0 c1 htk hinx
          obtain ⟨x1, x2⟩ := x
          dsimp only at c0 c1 hinx
          obtain ⟨i, rfl⟩ := Int.eq_ofNat_of_zero_le hinx.1
          obtain ⟨j, rfl⟩ := Int.eq_ofNat_of_zero_le hinx.2.2.1
          have hi : i < n := by omega
          have hj : j < n := by omega
          have hi0 : (0 : Int) ≤ (i : Int) := by omega
          have hi1 : (i : Int) < (n : Int) := by omega
          have hj0 : (0 : Int) ≤ (j : Int) := by omega
          have hj1 : (j : Int) < (n : Int) := by omega
          obtain ⟨X, hX⟩ : ∃ X, wr.heap.size = X := ⟨_, rfl⟩
          have hM3 : MatAt S (wr.alloc (.cells #[.int .i64 (i : Int), .int .i64 (j : Int)] 87)).drew q bs n (edgM (L.take m)) := (hM2.step ((Below.refl _ _).alloc (Nat.le_refl _) _)).drewN 1
          have hb3 : Below S w (wr.alloc (.cells #[.int .i64 (i : Int), .int .i64 (j : Int)] 87)).drew := below_drewN (hb2.alloc hSw2 _) 1
          have hxh : (wr.alloc (.cells #[.int .i64 (i : Int), .int .i64 (j : Int)] 87)).drew.heap[X]? = some (.cells #[.int .i64 (i : Int), .int .i64 (j : Int)] 87 (0, 0)) := by rw [← hX]; exact heap_alloc_new wr _
          have HX0 := Lib.hid (show (wr.alloc (.cells #[.int .i64 (i : Int), .int .i64 (j : Int)] 87)).drew.cell? ⟨X, 0, none⟩ = some (.int .i64 (i : Int)) by rw [cell_of_row _ _ _ _ _ _ hxh]; rfl)
          have HX1 := Lib.hid (show (wr.alloc (.cells #[.int .i64 (i : Int), .int .i64 (j : Int)] 87)).drew.cell? ⟨X, 1, none⟩ = some (.int .i64 (j : Int)) by rw [cell_of_row _ _ _ _ _ _ hxh]; rfl)
          have HM3 := Lib.hid hM3; have HB3 := Lib.hid hb3; have HTK := Lib.hid htk; have HXX := Lib.hid hX
          obtain ⟨bi, hbi⟩ : ∃ b, bs.getD i 0 = b := ⟨_, rfl⟩
          have HQI := Lib.hid (show (wr.alloc (.cells #[.int .i64 (i : Int), .int .i64 (j : Int)] 87)).drew.cell? ⟨q, i, none⟩ = some (.slice (some ⟨bi, 0, none⟩) n n) by rw [hM3.cellq i hi, hbi])
          have HBI := Lib.hid (show (wr.alloc (.cells #[.int .i64 (i : Int), .int .i64 (j : Int)] 87)).drew.cell? ⟨bi, j, none⟩ = some (.bool (edgM (L.take m) i j)) by rw [← hbi]; exact hM3.cellr i j hi hj)
          have HFZ := Lib.hid (show (wr.alloc (.cells #[.int .i64 (i : Int), .int .i64 (j : Int)] 87)).drew.frozen? ⟨bi, j, none⟩ = false by rw [← hbi]; exact hM3.free i j hi)
          have HBI2 := Lib.hid hbi
          clear hM2 hb2 hb2' hM3 hb3 hxh htk hinx hx hbi
          go_upto_region 9 with fail
          clear hX c0 c1
          generalize (wr.alloc (.cells #[.int .i64 (i : Int), .int .i64 (j : Int)] 87)) = wX at *
          refine region_factsC (by kernel_rfl) (G9 q n cq X bi i j) (B9 wX.drew bi j) (by kernel_rfl) (by kernel_rfl) ?h0 ?hstep ?hend
          case h0 => exact ⟨fun h => by simp at h, fun _ => rfl⟩
          case hstep =>
            intro i oo l a W ho hat K hK
            have hi : i < 9 := (Array.getElem?_eq_some_iff.1 ho).1
            obtain rfl | rfl | rfl | rfl | rfl | rfl | rfl | rfl | rfl : i = 0 ∨ i = 1 ∨ i = 2 ∨ i = 3 ∨ i = 4 ∨ i = 5 ∨ i = 6 ∨ i = 7 ∨ i = 8 := by omega
            all_goals
              have ho := Option.some.inj (show some _ = some oo from ho)
              subst ho
            · have e0 : a.tmps[5]?.getD undef = .slice (some ⟨q, 0, none⟩) n cq := hat.out 5 (by kernel_rfl)
              have HF1 := Lib.hid (hK (.slice (some ⟨q, 0, none⟩) n cq) W rfl (fun _ _ _ h => h) (by have hb0 := hat.base; exact ⟨fun hl => hb0.1 (by rwa [getD_set_ne false (by decide)] at hl), fun hl => hb0.2 (set_false hl)⟩))
              clear hat hK
              go_simp
              exact HF1.out
            · have e0 : a.tmps[7]?.getD undef = .pointer (some ⟨X, 0, none⟩) := hat.out 7 (by kernel_rfl)
              have HF1 := Lib.hid (hK (.pointer (some ⟨X, 0, none⟩)) W rfl (fun _ _ _ h => h) (by have hb0 := hat.base; exact ⟨fun hl => hb0.1 (by rwa [getD_set_ne false (by decide)] at hl), fun hl => hb0.2 (set_false hl)⟩))
              clear hat hK
              go_simp
              exact HF1.out
            · have e0 : a.tmps[27]?.getD undef = .pointer (some ⟨X, 0, none⟩) := hat.have_ 1 27 (by kernel_rfl) (hat.dep 1 (by kernel_rfl))
              have hwe : W = wX.drew := hat.base.2 (hat.later 8 (by kernel_rfl))
              have c0 := HX0.out
              rw [← hwe] at c0
              clear hwe
              have HF1 := Lib.hid (hK (.int .i64 ((i : Nat) : Int)) W rfl (fun _ _ _ h => h) (by have hb0 := hat.base; exact ⟨fun hl => hb0.1 (by rwa [getD_set_ne false (by decide)] at hl), fun hl => hb0.2 (set_false hl)⟩))
              clear hat hK
              go_simp
              exact HF1.out
            · have e0 : a.tmps[26]?.getD undef = .slice (some ⟨q, 0, none⟩) n cq := hat.have_ 0 26 (by kernel_rfl) (hat.dep 0 (by kernel_rfl))
              have e1 : a.tmps[28]?.getD undef = .int .i64 ((i : Nat) : Int) := hat.have_ 2 28 (by kernel_rfl) (hat.dep 2 (by kernel_rfl))
              have HF1 := Lib.hid (hK (.pointer (some ⟨q, i, none⟩)) W rfl (fun _ _ _ h => h) (by have hb0 := hat.base; exact ⟨fun hl => hb0.1 (by rwa [getD_set_ne false (by decide)] at hl), fun hl => hb0.2 (set_false hl)⟩))
              clear hat hK
              go_simp
              exact HF1.out
            · have e0 : a.tmps[29]?.getD undef = .pointer (some ⟨q, i, none⟩) := hat.have_ 3 29 (by kernel_rfl) (hat.dep 3 (by kernel_rfl))
              have hwe : W = wX.drew := hat.base.2 (hat.later 8 (by kernel_rfl))
              have c0 := HQI.out
              rw [← hwe] at c0
              clear hwe
              have HF1 := Lib.hid (hK (.slice (some ⟨bi, 0, none⟩) n n) W rfl (fun _ _ _ h => h) (by have hb0 := hat.base; exact ⟨fun hl => hb0.1 (by rwa [getD_set_ne false (by decide)] at hl), fun hl => hb0.2 (set_false hl)⟩))
              clear hat hK
              go_simp
              exact HF1.out
            · have e0 : a.tmps[7]?.getD undef = .pointer (some ⟨X, 0, none⟩) := hat.out 7 (by kernel_rfl)
              have HF1 := Lib.hid (hK (.pointer (some ⟨X, 1, none⟩)) W rfl (fun _ _ _ h => h) (by have hb0 := hat.base; exact ⟨fun hl => hb0.1 (by rwa [getD_set_ne false (by decide)] at hl), fun hl => hb0.2 (set_false hl)⟩))
              clear hat hK
              go_simp
              exact HF1.out
            · have e0 : a.tmps[31]?.getD undef = .pointer (some ⟨X, 1, none⟩) := hat.have_ 5 31 (by kernel_rfl) (hat.dep 5 (by kernel_rfl))
              have hwe : W = wX.drew := hat.base.2 (hat.later 8 (by kernel_rfl))
              have c0 := HX1.out
              rw [← hwe] at c0
              clear hwe
              have HF1 := Lib.hid (hK (.int .i64 ((j : Nat) : Int)) W rfl (fun _ _ _ h => h) (by have hb0 := hat.base; exact ⟨fun hl => hb0.1 (by rwa [getD_set_ne false (by decide)] at hl), fun hl => hb0.2 (set_false hl)⟩))
              clear hat hK
              go_simp
              exact HF1.out
            · have e0 : a.tmps[30]?.getD undef = .slice (some ⟨bi, 0, none⟩) n n := hat.have_ 4 30 (by kernel_rfl) (hat.dep 4 (by kernel_rfl))
              have e1 : a.tmps[32]?.getD undef = .int .i64 ((j : Nat) : Int) := hat.have_ 6 32 (by kernel_rfl) (hat.dep 6 (by kernel_rfl))
              have HF1 := Lib.hid (hK (.pointer (some ⟨bi, j, none⟩)) W rfl (fun _ _ _ h => h) (by have hb0 := hat.base; exact ⟨fun hl => hb0.1 (by rwa [getD_set_ne false (by decide)] at hl), fun hl => hb0.2 (set_false hl)⟩))
              clear hat hK
              go_simp
              exact HF1.out
            · have e0 : a.tmps[33]?.getD undef = .pointer (some ⟨bi, j, none⟩) := hat.have_ 7 33 (by kernel_rfl) (hat.dep 7 (by kernel_rfl))
              have hwe : W = wX.drew := hat.base.2 hat.open_
              subst hwe
              have c0 := HBI.out
              have f0 := HFZ.out
              have HF1 := Lib.hid (hK undef (wX.drew.setCell ⟨bi, j, none⟩ (.bool true)) trivial (fun _ _ _ h => h) ⟨fun _ => rfl, fun hl => by rw [set_same (by rw [hat.size]; decide)] at hl; cases hl⟩)
              clear hat hK
              go_simp
              exact HF1.out
          case hend =>
            intro l u wc hall hG hB
            have hwc := hB.1 (hall 8 (by decide))
            subst hwc
            have hM4 := HM3.out.set i j hi hj true
            have hb4 := HM3.out.below HB3.out i j hi (.bool true)
            rw [HBI2.out] at hM4 hb4
            rw [← edgM_snoc, ← HTK.out] at hM4
            have HM4 := Lib.hid hM4; have HB4 := Lib.hid hb4
            clear hG hB hall hM4 hb4
            generalize wX.drew.setCell ⟨bi, j, none⟩ (.bool true) = wc at *
            simp only [putAll, Act.put, List.setIfInBounds_toArray, List.set_cons_zero, List.set_cons_succ, Nat.zero_add, Nat.reduceAdd]
            generalize u 0 = y0; generalize u 1 = y1; generalize u 2 = y2; generalize u 3 = y3; generalize u 4 = y4; generalize u 5 = y5; generalize u 6 = y6; generalize u 7 = y7
            go_wp2_with fail
            go_roundw
            case rel => exact ⟨m + 1, by go_num, by omega, HM4.out, HB4.out⟩
            case measure => simp [intOf]; omega
        · have hmN : m = N := by omega
          subst hmN
          have hdd2 : decide (m < m) = false := by simp
          have hni2 : ¬ (m : Int) < (m : Int) := by omega
          have hstart : Stg L n 0 0 0 (edgM L) := Stg.start fun a b _ _ => by unfold edgM; exact decide_eq_true_iff
          rw [List.take_of_length_le (by rw [HN.out]; exact Nat.le_refl _)] at hM2
          have HM5 := Lib.hid hM2; have HB5 := Lib.hid hb2; have HST := Lib.hid hstart
          clear hM2 hb2 hstart
          go_wp2_with fail
          go_loopw [36] (fun kv w3 => ∃ (k : Nat) (M : Nat → Nat → Bool), kv = .int .i64 (k : Int) ∧ k ≤ n ∧ MatAt S w3 q bs n M ∧ Stg L n k 0 0 M ∧ Below S w w3) (fun kv _ => n - (intOf kv).toNat)
          case atStart => exact ⟨0, _, rfl, Nat.zero_le _, HM5.out, HST.out, HB5.out⟩
          case round =>
            clear HM5 HB5 HST
            obtain ⟨k, M, rfl, hk, hM, hst, hb⟩ := hrel
            have HM := Lib.hid hM; have HST := Lib.hid hst; have HB := Lib.hid hb
            clear hM hst hb
            by_cases hltk : k < n
            · have hk0 : (0 : Int) ≤ (k : Int) := by omega
              have hk1 : (k : Int) < (n : Int) := by omega
              have hdk : decide (k < n) = true := decide_eq_true hltk
              have hdk' : decide ((k : Int) < (n : Int)) = true := decide_eq_true hk1
              go_wp2_with fail
              go_loopw [40] (fun iv w4 => ∃ (i : Nat) (M : Nat → Nat → Bool), iv = .int .i64 (i : Int) ∧ i ≤ n ∧ MatAt S w4 q bs n M ∧ Stg L n k i 0 M ∧ Below S w w4) (fun iv _ => n - (intOf iv).toNat)
              case atStart => exact ⟨0, M, rfl, Nat.zero_le _, HM.out, HST.out, HB.out⟩
              case round =>
                clear HM HST HB
                obtain ⟨i, M, rfl, hi, hM, hst, hb⟩ := hrel
                have HM := Lib.hid hM; have HST := Lib.hid hst; have HB := Lib.hid hb
                clear hM hst hb
                by_cases hlti : i < n
                · have hi0 : (0 : Int) ≤ (i : Int) := by omega
                  have hi1 : (i : Int) < (n : Int) := by omega
                  have hdi : decide (i < n) = true := decide_eq_true hlti
                  have hdi' : decide ((i : Int) < (n : Int)) = true := decide_eq_true hi1
                  go_wp2_with fail
                  go_loopw [44] (fun jv w5 => ∃ (j : Nat) (M : Nat → Nat → Bool), jv = .int .i64 (j : Int) ∧ j ≤ n ∧ MatAt S w5 q bs n M ∧ Stg L n k i j M ∧ Below S w w5) (fun jv _ => n - (intOf jv).toNat)
                  case atStart => exact ⟨0, M, rfl, Nat.zero_le _, HM.out, HST.out, HB.out⟩
                  case round =>
                    clear HM HST HB
                    obtain ⟨j, M, rfl, hj, hM, hst, hb⟩ := hrel
                    by_cases hltj : j < n
                    · have hj0 : (0 : Int) ≤ (j : Int) := by omega
                      have hj1 : (j : Int) < (n : Int) := by omega
                      have hdj : decide (j < n) = true := decide_eq_true hltj
                      have c0 := hM.cellq i hlti
                      have c1 := hM.cellr i k hlti hltk
                      have c2 := hM.cellq k hltk
                      have c3 := hM.cellr k j hltk hltj
                      have c4 := hM.cellr i j hlti hltj
                      have f4 := hM.free i j hlti
                      have hy := hst.step_yes hltk hlti hltj
                      have hno := hst.step_no hltk hltj
                      have hms := hM.set i j hlti hltj true
                      have hbs := hM.below hb i j hlti (.bool true)
                      have HY := Lib.hid hy; have HNO := Lib.hid hno; have HMS := Lib.hid hms; have HBS := Lib.hid hbs; have HM := Lib.hid hM; have HB := Lib.hid hb
                      clear hy hno hms hbs hM hst hb
                      generalize bs.getD i 0 = bi at *
                      generalize bs.getD k 0 = bk at *
                      generalize M i j = z4 at *
                      cases e1 : M i k with
                      | false =>
                        rw [e1] at c1
                        have HE1 := Lib.hid e1
                        clear e1
                        go_wp2_with fail
                        go_roundw
                        case rel => exact ⟨j + 1, M, by go_num, by omega, HM.out, HNO.out (fun e => by rw [HE1.out] at e; cases e.1), HB.out⟩
                        case measure => simp [intOf]; omega
                      | true =>
                        rw [e1] at c1
                        cases e2 : M k j with
                        | false =>
                          rw [e2] at c3
                          have HE2 := Lib.hid e2
                          clear e1 e2
                          go_wp2_with fail
                          go_roundw
                          case rel => exact ⟨j + 1, M, by go_num, by omega, HM.out, HNO.out (fun e => by rw [HE2.out] at e; cases e.2), HB.out⟩
                          case measure => simp [intOf]; omega
                        | true =>
                          rw [e2] at c3
                          have HE1 := Lib.hid (HY.out e1 e2)
                          clear e1 e2
                          go_wp2_with fail
                          go_roundw
                          case rel => exact ⟨j + 1, _, by go_num, by omega, HMS.out, HE1.out, HBS.out⟩
                          case measure => simp [intOf]; omega
                    · have hjn : j = n := by omega
                      subst hjn
                      have hdj : decide (j < j) = false := by simp
                      have hnj : ¬ (j : Int) < (j : Int) := by omega
                      have HM := Lib.hid hM; have HST := Lib.hid hst.row; have HB := Lib.hid hb
                      clear hM hst hb
                      go_wp2_with fail
                      go_roundw
                      case rel => exact ⟨i + 1, M, by go_num, by omega, HM.out, HST.out, HB.out⟩
                      case measure => simp [intOf]; omega
                · have hin' : i = n := by omega
                  subst hin'
                  have hdi : decide (i < i) = false := by simp
                  have hni : ¬ (i : Int) < (i : Int) := by omega
                  have HST2 := Lib.hid HST.out.next
                  go_wp2_with fail
                  go_roundw
                  case rel => exact ⟨k + 1, M, by go_num, by omega, HM.out, HST2.out, HB.out⟩
                  case measure => simp [intOf]; omega
            · have hkn' : k = n := by omega
              subst hkn'
              have hdk : decide (k < k) = false := by simp
              have hnk : ¬ (k : Int) < (k : Int) := by omega
              go_wp2_with fail
              go_ret
              exact ⟨q, cq, bs, M, rfl, hcq, by rw [HS.out]; exact HM.out, fun i j hi hj => HST.out.done HIN.out i j hi hj, by rw [HS.out]; exact HB.out⟩
end Go.Proofs.Ytcppmkimfoajaaa
