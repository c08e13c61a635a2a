/- graph.Behind. -/
import Derived.Test.YtgeldpkopolnfaaDoorRdB
namespace Go.Proofs.YtgeldpkopolnfaaDoor
open Go.RowKit
set_option linter.all false

/-- The requirements of a list, as a table. -/
def edgM (L : List Rq) (a b : Nat) : Bool := decide (((a : Int), (b : Int)) ∈ L)
theorem edgM_snoc (L : List Rq) (i j : Nat) : edgM (L ++ [((i : Int), (j : Int))]) = upd (edgM L) i j true := by
  funext a b
  unfold edgM upd
  by_cases e : a = i ∧ b = j
  · obtain ⟨rfl, rfl⟩ := e
    simp
  · rw [if_neg e]
    have : ((a : Int), (b : Int)) ≠ ((i : Int), (j : Int)) := fun h => e (by injection h with h1 h2; omega)
    simp [this]

def BehindP (n : Nat) (L : List Rq) (w : World) (e : Ending) (w' : World) : Prop := ∃ b B, e = .returned (.slice (some ⟨b, 0, none⟩) n n) ∧ BitsAt w.heap.size w' b n B ∧ (∀ i j, i < n → j < n → (bitM B i j = true ↔ Way L i j)) ∧ Below w.heap.size w w'

def GB5 (b n X i j z t : Nat) (_ : Array Bool) (k : Nat) (v : Value) (_ : World) : Prop := match k with
  | 0 => v = .slice (some ⟨b, 0, none⟩) n n
  | 1 => v = .pointer (some ⟨X, 0, none⟩)
  | 2 => v = .int .i64 (i : Int)
  | 3 => v = .pointer (some ⟨b, i, none⟩)
  | 4 => v = .int .u32 (z : Int)
  | 5 => v = .pointer (some ⟨X, 1, none⟩)
  | 6 => v = .int .i64 (j : Int)
  | 7 => v = .int .u32 (t : Int)
  | 8 => v = .int .u32 ((z ||| t : Nat) : Int)
  | 9 => v = .pointer (some ⟨b, i, none⟩)
  | _ => True
def GB14 (b n i k z t : Nat) (_ : Array Bool) (q : Nat) (v : Value) (_ : World) : Prop := match q with
  | 0 => v = .slice (some ⟨b, 0, none⟩) n n
  | 1 => v = .int .i64 (i : Int)
  | 2 => v = .pointer (some ⟨b, i, none⟩)
  | 3 => v = .int .u32 (z : Int)
  | 4 => v = .slice (some ⟨b, 0, none⟩) n n
  | 5 => v = .int .i64 (k : Int)
  | 6 => v = .pointer (some ⟨b, k, none⟩)
  | 7 => v = .int .u32 (t : Int)
  | 8 => v = .int .u32 ((z ||| t : Nat) : Int)
  | 9 => v = .pointer (some ⟨b, i, none⟩)
  | _ => True
def BB (w0 : World) (b i x : Nat) (l : Array Bool) (W : World) : Prop := (l.getD 10 false = true → W = w0.setCell ⟨b, i, none⟩ (.int .u32 (x : Int))) ∧ (l.getD 10 false = false → W = w0)

set_option maxRecDepth 100000 in
set_option maxHeartbeats 8000000 in
theorem behind_any (a : Option Addr) (c : Nat) (L : List Rq) (n : Nat) (w : World) (h1 : 1 ≤ n) (hn : n ≤ 24) (hin : Inn n L) (hl : L.length ≤ 900) (hL : ReqsAt w a L) :
    Calls Tryd.prog 35 #[.int .i64 (n : Int), .slice a L.length c] w (BehindP n L w) := by
  have HL := Lib.hid hL; have HIN := Lib.hid hin
  obtain ⟨N, hN⟩ : ∃ N, L.length = N := ⟨_, rfl⟩
  have HN := Lib.hid hN
  rw [hN] at hl ⊢
  obtain ⟨S, hS⟩ : ∃ S, w.heap.size = S := ⟨_, rfl⟩
  have HS := Lib.hid hS
  have hmk := make_bits n (by omega) w
  have hb0 := (Below.refl w.heap.size w).alloc (Nat.le_refl _) (.cells (rowU n fun _ => 0) 56)
  have hB0 : BitsAt S (w.alloc (.cells (rowU n fun _ => 0) 56)) S n (fun _ => 0) := ⟨by rw [← hS]; exact heap_alloc_new _ _, Nat.le_refl _, fun _ _ => by omega⟩
  rw [hS] at hmk hb0
  have HB0 := Lib.hid hB0; have HBE := Lib.hid hb0
  clear hL hN hin hB0 hb0
  go_enter Tryd.func35, Tryd.ntmps35
  go_wp2_with fail
  generalize w.alloc (.cells (rowU n fun _ => 0) 56) = W0 at *
  clear hmk
  go_loopw [14] (fun kv wr => ∃ (m : Nat) (B : Nat → Nat), kv = .int .i64 (m : Int) ∧ m ≤ N ∧ BitsAt S wr S n B ∧ (∀ i j, i < n → j < n → bitM B i j = edgM (L.take m) i j) ∧ Below S w wr) (fun kv _ => N - (intOf kv).toNat)
  case atStart => exact ⟨0, _, rfl, Nat.zero_le _, HB0.out, fun i j _ _ => by unfold bitM edgM; simp, HBE.out⟩
  case round =>
    clear HB0 HBE
    obtain ⟨m, B, rfl, hm, hB, hE, hb⟩ := hrel
    have hSw : S ≤ wr.heap.size := by have := hb.size; omega
    by_cases hltm : m < N
    · obtain ⟨b1, o1, hp1, c0, c1⟩ := HL.out m (by rw [HN.out]; exact hltm)
      subst hp1
      have hb' : Below w.heap.size w wr := by rw [hS]; exact hb
      have c0 := cell_later' hb' c0
      have c1 := cell_later' hb' c1
      have hmi0 : (0 : Int) ≤ (m : Int) := by omega
      have hmi2 : (m : Int) < (N : Int) := by omega
      have hdd2 : decide (m < N) = true := decide_eq_true hltm
      have hml : m < L.length := by rw [HN.out]; exact hltm
      have htk : L.take (m + 1) = L.take m ++ [L.getD m rq0] := by
        rw [List.take_succ, List.getElem?_eq_getElem hml]
        simp [List.getD, hml]
      have hinx := HIN.out (L.getD m rq0) (by rw [List.getD, List.getElem?_eq_getElem hml]; exact List.getElem_mem hml)
      obtain ⟨x, hx⟩ : ∃ x, L.getD m rq0 = x := ⟨_, rfl⟩
      rw [hx] at c0 c1 htk hinx
      obtain ⟨x1, x2⟩ := x
      dsimp only at c0 c1 hinx
      obtain ⟨i, rfl⟩ := Int.eq_ofNat_of_zero_le hinx.1
      obtain ⟨j, rfl⟩ := Int.eq_ofNat_of_zero_le hinx.2.2.1
      have hi : i < n := by omega
      have hj : j < n := by omega
      have hi0 : (0 : Int) ≤ (i : Int) := by omega
      have hi1 : (i : Int) < (n : Int) := by omega
      have hj0 : (0 : Int) ≤ (j : Int) := by omega
      have hj1 : (j : Int) < (n : Int) := by omega
      obtain ⟨X, hX⟩ : ∃ X, wr.heap.size = X := ⟨_, rfl⟩
      have hB3 : BitsAt S (wr.alloc (.cells #[.int .i64 (i : Int), .int .i64 (j : Int)] 47)).drew S n B := (hB.step ((Below.refl _ _).alloc (Nat.le_refl _) _)).drewN 1
      have hb3 : Below S w (wr.alloc (.cells #[.int .i64 (i : Int), .int .i64 (j : Int)] 47)).drew := below_drewN (hb.alloc hSw _) 1
      have hxh : (wr.alloc (.cells #[.int .i64 (i : Int), .int .i64 (j : Int)] 47)).drew.heap[X]? = some (.cells #[.int .i64 (i : Int), .int .i64 (j : Int)] 47 (0, 0)) := by rw [← hX]; exact heap_alloc_new wr _
      have HX0 := Lib.hid (show (wr.alloc (.cells #[.int .i64 (i : Int), .int .i64 (j : Int)] 47)).drew.cell? ⟨X, 0, none⟩ = some (.int .i64 (i : Int)) by rw [cell_of_row _ _ _ _ _ _ hxh]; rfl)
      have HX1 := Lib.hid (show (wr.alloc (.cells #[.int .i64 (i : Int), .int .i64 (j : Int)] 47)).drew.cell? ⟨X, 1, none⟩ = some (.int .i64 (j : Int)) by rw [cell_of_row _ _ _ _ _ _ hxh]; rfl)
      obtain ⟨z, hz⟩ : ∃ z, B i = z := ⟨_, rfl⟩
      obtain ⟨t, ht⟩ : ∃ t, 2 ^ j = t := ⟨_, rfl⟩
      have hzs : z < 16777216 := by rw [← hz]; exact hB.small i hi
      have hts : t < 16777216 := by rw [← ht]; exact pow_small (by omega)
      have HC0 := Lib.hid (show (wr.alloc (.cells #[.int .i64 (i : Int), .int .i64 (j : Int)] 47)).drew.cell? ⟨S, i, none⟩ = some (.int .u32 (z : Int)) by rw [← hz]; exact hB3.cell i hi)
      have HFZ := Lib.hid (show (wr.alloc (.cells #[.int .i64 (i : Int), .int .i64 (j : Int)] 47)).drew.frozen? ⟨S, i, none⟩ = false from hB3.free i)
      have HOR := Lib.hid (u32_or_nat z t hzs hts)
      have HSH := Lib.hid (show IntKind.u32.wrap ((2 : Int) ^ j) = (t : Int) by rw [← ht, show (2 : Int) ^ j = ((2 ^ j : Nat) : Int) by simp]; exact u32_wrap _ (pow_small (by omega)))
      have HB3 := Lib.hid hB3; have HBE3 := Lib.hid hb3; have HTK := Lib.hid htk; have HE := Lib.hid hE
      have HZ := Lib.hid hz; have HT := Lib.hid ht; have HOS := Lib.hid (or_small hzs hts)
      clear hB hb hb' hB3 hb3 hxh htk hinx hx hz ht hE
      go_upto_region 5 with fail
      clear hX c0 c1
      generalize (wr.alloc (.cells #[.int .i64 (i : Int), .int .i64 (j : Int)] 47)) = wX at *
      refine region_factsC (by kernel_rfl) (GB5 S n X i j z t) (BB wX.drew S i (z ||| t)) (by kernel_rfl) (by kernel_rfl) ?h0 ?hstep ?hend
      case h0 => exact ⟨fun h => by simp at h, fun _ => rfl⟩
      case hstep =>
          intro i oo l a W ho hat K hK
          have hi : i < 11 := (Array.getElem?_eq_some_iff.1 ho).1
          obtain rfl | rfl | rfl | rfl | rfl | rfl | rfl | rfl | rfl | rfl | rfl : i = 0 ∨ i = 1 ∨ i = 2 ∨ i = 3 ∨ i = 4 ∨ i = 5 ∨ i = 6 ∨ i = 7 ∨ i = 8 ∨ i = 9 ∨ i = 10 := by omega
          all_goals
            have ho := Option.some.inj (show some _ = some oo from ho)
            subst ho
          · have e0 : a.tmps[5]?.getD undef = .slice (some ⟨S, 0, none⟩) n n := hat.out 5 (by kernel_rfl)
            have HF1 := Lib.hid (hK (.slice (some ⟨S, 0, none⟩) n n) W rfl (fun _ _ _ h => h) (by have hb0 := hat.base; exact ⟨fun hl => hb0.1 (by rwa [getD_set_ne false (by decide)] at hl), fun hl => hb0.2 (set_false hl)⟩))
            clear hat hK
            go_simp
            exact HF1.out
          · have e0 : a.tmps[7]?.getD undef = .pointer (some ⟨X, 0, none⟩) := hat.out 7 (by kernel_rfl)
            have HF1 := Lib.hid (hK (.pointer (some ⟨X, 0, none⟩)) W rfl (fun _ _ _ h => h) (by have hb0 := hat.base; exact ⟨fun hl => hb0.1 (by rwa [getD_set_ne false (by decide)] at hl), fun hl => hb0.2 (set_false hl)⟩))
            clear hat hK
            go_simp
            exact HF1.out
          · have e0 : a.tmps[19]?.getD undef = .pointer (some ⟨X, 0, none⟩) := hat.have_ 1 19 (by kernel_rfl) (hat.dep 1 (by kernel_rfl))
            have hwe : W = wX.drew := hat.base.2 (hat.later 10 (by kernel_rfl))
            have c0 := HX0.out
            rw [← hwe] at c0
            clear hwe
            have HF1 := Lib.hid (hK (.int .i64 ((i : Nat) : Int)) W rfl (fun _ _ _ h => h) (by have hb0 := hat.base; exact ⟨fun hl => hb0.1 (by rwa [getD_set_ne false (by decide)] at hl), fun hl => hb0.2 (set_false hl)⟩))
            clear hat hK
            go_simp
            exact HF1.out
          · have e0 : a.tmps[18]?.getD undef = .slice (some ⟨S, 0, none⟩) n n := hat.have_ 0 18 (by kernel_rfl) (hat.dep 0 (by kernel_rfl))
            have e1 : a.tmps[20]?.getD undef = .int .i64 ((i : Nat) : Int) := hat.have_ 2 20 (by kernel_rfl) (hat.dep 2 (by kernel_rfl))
            have HF1 := Lib.hid (hK (.pointer (some ⟨S, i, none⟩)) W rfl (fun _ _ _ h => h) (by have hb0 := hat.base; exact ⟨fun hl => hb0.1 (by rwa [getD_set_ne false (by decide)] at hl), fun hl => hb0.2 (set_false hl)⟩))
            clear hat hK
            go_simp
            exact HF1.out
          · have e0 : a.tmps[21]?.getD undef = .pointer (some ⟨S, i, none⟩) := hat.have_ 3 21 (by kernel_rfl) (hat.dep 3 (by kernel_rfl))
            have hwe : W = wX.drew := hat.base.2 (hat.later 10 (by kernel_rfl))
            have c0 := HC0.out
            rw [← hwe] at c0
            clear hwe
            have HF1 := Lib.hid (hK (.int .u32 ((z : Nat) : Int)) W rfl (fun _ _ _ h => h) (by have hb0 := hat.base; exact ⟨fun hl => hb0.1 (by rwa [getD_set_ne false (by decide)] at hl), fun hl => hb0.2 (set_false hl)⟩))
            clear hat hK
            go_simp
            exact HF1.out
          · have e0 : a.tmps[7]?.getD undef = .pointer (some ⟨X, 0, none⟩) := hat.out 7 (by kernel_rfl)
            have HF1 := Lib.hid (hK (.pointer (some ⟨X, 1, none⟩)) W rfl (fun _ _ _ h => h) (by have hb0 := hat.base; exact ⟨fun hl => hb0.1 (by rwa [getD_set_ne false (by decide)] at hl), fun hl => hb0.2 (set_false hl)⟩))
            clear hat hK
            go_simp
            exact HF1.out
          · have e0 : a.tmps[23]?.getD undef = .pointer (some ⟨X, 1, none⟩) := hat.have_ 5 23 (by kernel_rfl) (hat.dep 5 (by kernel_rfl))
            have hwe : W = wX.drew := hat.base.2 (hat.later 10 (by kernel_rfl))
            have c0 := HX1.out
            rw [← hwe] at c0
            clear hwe
            have HF1 := Lib.hid (hK (.int .i64 ((j : Nat) : Int)) W rfl (fun _ _ _ h => h) (by have hb0 := hat.base; exact ⟨fun hl => hb0.1 (by rwa [getD_set_ne false (by decide)] at hl), fun hl => hb0.2 (set_false hl)⟩))
            clear hat hK
            go_simp
            exact HF1.out
          · have e0 : a.tmps[24]?.getD undef = .int .i64 ((j : Nat) : Int) := hat.have_ 6 24 (by kernel_rfl) (hat.dep 6 (by kernel_rfl))
            have hsh := HSH.out
            have HF1 := Lib.hid (hK (.int .u32 ((t : Nat) : Int)) W rfl (fun _ _ _ h => h) (by have hb0 := hat.base; exact ⟨fun hl => hb0.1 (by rwa [getD_set_ne false (by decide)] at hl), fun hl => hb0.2 (set_false hl)⟩))
            clear hat hK
            go_simp
            exact HF1.out
          · have e0 : a.tmps[22]?.getD undef = .int .u32 ((z : Nat) : Int) := hat.have_ 4 22 (by kernel_rfl) (hat.dep 4 (by kernel_rfl))
            have e1 : a.tmps[25]?.getD undef = .int .u32 ((t : Nat) : Int) := hat.have_ 7 25 (by kernel_rfl) (hat.dep 7 (by kernel_rfl))
            have hor := HOR.out
            have HF1 := Lib.hid (hK (.int .u32 ((z ||| t : Nat) : Int)) W rfl (fun _ _ _ h => h) (by have hb0 := hat.base; exact ⟨fun hl => hb0.1 (by rwa [getD_set_ne false (by decide)] at hl), fun hl => hb0.2 (set_false hl)⟩))
            clear hat hK
            go_simp
            exact HF1.out
          · have e0 : a.tmps[18]?.getD undef = .slice (some ⟨S, 0, none⟩) n n := hat.have_ 0 18 (by kernel_rfl) (hat.dep 0 (by kernel_rfl))
            have e1 : a.tmps[20]?.getD undef = .int .i64 ((i : Nat) : Int) := hat.have_ 2 20 (by kernel_rfl) (hat.dep 2 (by kernel_rfl))
            have HF1 := Lib.hid (hK (.pointer (some ⟨S, i, none⟩)) W rfl (fun _ _ _ h => h) (by have hb0 := hat.base; exact ⟨fun hl => hb0.1 (by rwa [getD_set_ne false (by decide)] at hl), fun hl => hb0.2 (set_false hl)⟩))
            clear hat hK
            go_simp
            exact HF1.out
          · have e0 : a.tmps[27]?.getD undef = .pointer (some ⟨S, i, none⟩) := hat.have_ 9 27 (by kernel_rfl) (hat.dep 9 (by kernel_rfl))
            have e1 : a.tmps[26]?.getD undef = .int .u32 ((z ||| t : Nat) : Int) := hat.have_ 8 26 (by kernel_rfl) (hat.dep 8 (by kernel_rfl))
            have hwe : W = wX.drew := hat.base.2 hat.open_
            subst hwe
            have c0 := HC0.out
            have f0 := HFZ.out
            have HF1 := Lib.hid (hK undef (wX.drew.setCell ⟨S, i, none⟩ (.int .u32 ((z ||| t : Nat) : Int))) trivial (fun _ _ _ h => h) ⟨fun _ => rfl, fun hl => by rw [set_same (by rw [hat.size]; decide)] at hl; cases hl⟩)
            clear hat hK
            go_simp
            exact HF1.out
      case hend =>
        intro l u wc hall hG hB
        have hwc := hB.1 (hall 10 (by decide))
        subst hwc
        have hB4 := HB3.out.set i (z ||| t) hi HOS.out
        have hb4 := HB3.out.below HBE3.out i (.int .u32 ((z ||| t : Nat) : Int))
        have hE4 : ∀ i' j', i' < n → j' < n → bitM (upd1 B i (z ||| t)) i' j' = edgM (L.take (m + 1)) i' j' := fun i' j' hi' hj' => by
          rw [← HZ.out, ← HT.out, bitM_edge, HTK.out, edgM_snoc]
          unfold upd
          split
          · rfl
          · exact HE.out i' j' hi' hj'
        have HB4 := Lib.hid hB4; have HBE4 := Lib.hid hb4; have HE4 := Lib.hid hE4
        clear hG hB hall hB4 hb4 hE4
        generalize wX.drew.setCell ⟨S, i, none⟩ (.int .u32 ((z ||| t : Nat) : Int)) = wc at *
        simp only [putAll, Act.put, List.setIfInBounds_toArray, List.set_cons_zero, List.set_cons_succ, Nat.zero_add, Nat.reduceAdd]
        generalize u 0 = y0; generalize u 1 = y1; generalize u 2 = y2; generalize u 3 = y3; generalize u 4 = y4; generalize u 5 = y5; generalize u 6 = y6; generalize u 7 = y7; generalize u 8 = y8; generalize u 9 = y9
        go_wp2_with fail
        go_roundw
        case rel => exact ⟨m + 1, _, by go_num, by omega, HB4.out, HE4.out, HBE4.out⟩
        case measure => simp [intOf]; omega
    · have hmN : m = N := by omega
      subst hmN
      have hdd2 : decide (m < m) = false := by simp
      have hni2 : ¬ (m : Int) < (m : Int) := by omega
      rw [List.take_of_length_le (by rw [HN.out]; exact Nat.le_refl _)] at hE
      have hstart : Stg L n 0 0 0 (bitM B) := Stg.start fun a b ha hb => by rw [hE a b ha hb]; unfold edgM; exact decide_eq_true_iff
      have HB5 := Lib.hid hB; have HBE5 := Lib.hid hb; have HST := Lib.hid hstart
      clear hB hb hE hstart
      go_wp2_with fail
      go_loopw [30] (fun kv wr => ∃ (k : Nat) (B : Nat → Nat), kv = .int .i64 (k : Int) ∧ k ≤ n ∧ BitsAt S wr S n B ∧ Stg L n k 0 0 (bitM B) ∧ Below S w wr) (fun kv _ => n - (intOf kv).toNat)
      case atStart => exact ⟨0, _, rfl, Nat.zero_le _, HB5.out, HST.out, HBE5.out⟩
      case round =>
        clear HB5 HBE5 HST
        obtain ⟨k, B, rfl, hk, hB, hst, hb⟩ := hrel
        have HB := Lib.hid hB; have HST := Lib.hid hst; have HBE := Lib.hid hb
        clear hB hst hb
        by_cases hltk : k < n
        · have hk0 : (0 : Int) ≤ (k : Int) := by omega
          have hk1 : (k : Int) < (n : Int) := by omega
          have hdk : decide (k < n) = true := decide_eq_true hltk
          have hdk' : decide ((k : Int) < (n : Int)) = true := decide_eq_true hk1
          go_wp2_with fail
          go_loopw [34] (fun iv wr => ∃ (i : Nat) (B : Nat → Nat), iv = .int .i64 (i : Int) ∧ i ≤ n ∧ BitsAt S wr S n B ∧ Stg L n k i 0 (bitM B) ∧ Below S w wr) (fun iv _ => n - (intOf iv).toNat)
          case atStart => exact ⟨0, B, rfl, Nat.zero_le _, HB.out, HST.out, HBE.out⟩
          case round =>
            clear HB HST HBE
            obtain ⟨i, B, rfl, hi, hB, hst, hb⟩ := hrel
            by_cases hlti : i < n
            · have hi0 : (0 : Int) ≤ (i : Int) := by omega
              have hi1 : (i : Int) < (n : Int) := by omega
              have hdi : decide (i < n) = true := decide_eq_true hlti
              have hdi' : decide ((i : Int) < (n : Int)) = true := decide_eq_true hi1
              have c0 := hB.cell i hlti
              have hbit : bitM B i k = decide (B i / 2 ^ k % 2 = 1) := testBit_div _ _
              have hor := hst.or_row (N := bitM (upd1 B i (B i ||| B k))) hltk hlti
              have hskip := hst.skip_row hltk
              have hzs := hB.small i hlti
              have hts := hB.small k hltk
              have hSet := hB.set i (B i ||| B k) hlti (or_small hzs hts)
              have hSetb := hB.below hb i (.int .u32 ((B i ||| B k : Nat) : Int))
              have hB1 : BitsAt S wr.drew S n B := hB.drewN 1
              have hb1 : Below S w wr.drew := below_drewN hb 1
              have hSet1 : BitsAt S (wr.drew.setCell ⟨S, i, none⟩ (.int .u32 ((B i ||| B k : Nat) : Int))) S n (upd1 B i (B i ||| B k)) := hB1.set i (B i ||| B k) hlti (or_small hzs hts)
              have hSetb1 := hB1.below hb1 i (.int .u32 ((B i ||| B k : Nat) : Int))
              have HC0 := Lib.hid (hB1.cell i hlti); have HC1 := Lib.hid (hB1.cell k hltk); have HFZ := Lib.hid (hB1.free i)
              have HBN := Lib.hid (fun a b' => bitM_or B i k a b')
              have HBIT := Lib.hid hbit; have HOR2 := Lib.hid hor; have HSKIP := Lib.hid hskip; have HSET := Lib.hid hSet1; have HSETB := Lib.hid hSetb1; have HB := Lib.hid hB; have HBE := Lib.hid hb
              have hdz : B i / 2 ^ k < 16777216 := Nat.lt_of_le_of_lt (Nat.div_le_self _ _) hzs
              have hand := u32_and_one (B i / 2 ^ k) hdz
              have HOR := Lib.hid (u32_or_nat (B i) (B k) hzs hts)
              clear hbit hor hskip hSet hSetb hB1 hb1 hSet1 hSetb1 hB hst hb
              generalize hz : B i = z at *
              generalize ht : B k = t at *
              generalize hd : z / 2 ^ k = d at *
              have hsr : (z : Int).fdiv ((2 : Int) ^ k) = (d : Int) := by
                rw [← hd, show (2 : Int) ^ k = ((2 ^ k : Nat) : Int) by simp]; exact Int.fdiv_eq_ediv_of_nonneg _ (Int.natCast_nonneg _)
              have HDZ := Lib.hid hd; have HZZ := Lib.hid hz; have HTT := Lib.hid ht
              have hsr2 : (z : Int) / ((2 : Int) ^ k) = (d : Int) := by
                rw [← hd, show (2 : Int) ^ k = ((2 ^ k : Nat) : Int) by simp]; rfl
              clear hz ht hd
              by_cases hodd : d % 2 = 1
              · rw [hodd] at hand
                go_wp2_with fail
                refine region_factsC (by kernel_rfl) (GB14 S n i k z t) (BB wr.drew S i (z ||| t)) (by kernel_rfl) (by kernel_rfl) ?h0 ?hstep ?hend
                case h0 => exact ⟨fun h => by simp at h, fun _ => rfl⟩
                case hstep =>
                  intro i oo l a W ho hat K hK
                  have hi : i < 11 := (Array.getElem?_eq_some_iff.1 ho).1
                  obtain rfl | rfl | rfl | rfl | rfl | rfl | rfl | rfl | rfl | rfl | rfl : i = 0 ∨ i = 1 ∨ i = 2 ∨ i = 3 ∨ i = 4 ∨ i = 5 ∨ i = 6 ∨ i = 7 ∨ i = 8 ∨ i = 9 ∨ i = 10 := by omega
                  all_goals
                    have ho := Option.some.inj (show some _ = some oo from ho)
                    subst ho
                  · have e0 : a.tmps[5]?.getD undef = .slice (some ⟨S, 0, none⟩) n n := hat.out 5 (by kernel_rfl)
                    have HF1 := Lib.hid (hK (.slice (some ⟨S, 0, none⟩) n n) W rfl (fun _ _ _ h => h) (by have hb0 := hat.base; exact ⟨fun hl => hb0.1 (by rwa [getD_set_ne false (by decide)] at hl), fun hl => hb0.2 (set_false hl)⟩))
                    clear hat hK
                    go_simp
                    exact HF1.out
                  · have e0 : a.tmps[9]?.getD undef = .int .i64 (i : Int) := hat.out 9 (by kernel_rfl)
                    have HF1 := Lib.hid (hK (.int .i64 (i : Int)) W rfl (fun _ _ _ h => h) (by have hb0 := hat.base; exact ⟨fun hl => hb0.1 (by rwa [getD_set_ne false (by decide)] at hl), fun hl => hb0.2 (set_false hl)⟩))
                    clear hat hK
                    go_simp
                    exact HF1.out
                  · have e0 : a.tmps[45]?.getD undef = .slice (some ⟨S, 0, none⟩) n n := hat.have_ 0 45 (by kernel_rfl) (hat.dep 0 (by kernel_rfl))
                    have e1 : a.tmps[46]?.getD undef = .int .i64 (i : Int) := hat.have_ 1 46 (by kernel_rfl) (hat.dep 1 (by kernel_rfl))
                    have HF1 := Lib.hid (hK (.pointer (some ⟨S, i, none⟩)) W rfl (fun _ _ _ h => h) (by have hb0 := hat.base; exact ⟨fun hl => hb0.1 (by rwa [getD_set_ne false (by decide)] at hl), fun hl => hb0.2 (set_false hl)⟩))
                    clear hat hK
                    go_simp
                    exact HF1.out
                  · have e0 : a.tmps[47]?.getD undef = .pointer (some ⟨S, i, none⟩) := hat.have_ 2 47 (by kernel_rfl) (hat.dep 2 (by kernel_rfl))
                    have hwe : W = wr.drew := hat.base.2 (hat.later 10 (by kernel_rfl))
                    have c0 := HC0.out
                    rw [← hwe] at c0
                    clear hwe
                    have HF1 := Lib.hid (hK (.int .u32 ((z : Nat) : Int)) W rfl (fun _ _ _ h => h) (by have hb0 := hat.base; exact ⟨fun hl => hb0.1 (by rwa [getD_set_ne false (by decide)] at hl), fun hl => hb0.2 (set_false hl)⟩))
                    clear hat hK
                    go_simp
                    exact HF1.out
                  · have e0 : a.tmps[5]?.getD undef = .slice (some ⟨S, 0, none⟩) n n := hat.out 5 (by kernel_rfl)
                    have HF1 := Lib.hid (hK (.slice (some ⟨S, 0, none⟩) n n) W rfl (fun _ _ _ h => h) (by have hb0 := hat.base; exact ⟨fun hl => hb0.1 (by rwa [getD_set_ne false (by decide)] at hl), fun hl => hb0.2 (set_false hl)⟩))
                    clear hat hK
                    go_simp
                    exact HF1.out
                  · have e0 : a.tmps[8]?.getD undef = .int .i64 (k : Int) := hat.out 8 (by kernel_rfl)
                    have HF1 := Lib.hid (hK (.int .i64 (k : Int)) W rfl (fun _ _ _ h => h) (by have hb0 := hat.base; exact ⟨fun hl => hb0.1 (by rwa [getD_set_ne false (by decide)] at hl), fun hl => hb0.2 (set_false hl)⟩))
                    clear hat hK
                    go_simp
                    exact HF1.out
                  · have e0 : a.tmps[49]?.getD undef = .slice (some ⟨S, 0, none⟩) n n := hat.have_ 4 49 (by kernel_rfl) (hat.dep 4 (by kernel_rfl))
                    have e1 : a.tmps[50]?.getD undef = .int .i64 (k : Int) := hat.have_ 5 50 (by kernel_rfl) (hat.dep 5 (by kernel_rfl))
                    have HF1 := Lib.hid (hK (.pointer (some ⟨S, k, none⟩)) W rfl (fun _ _ _ h => h) (by have hb0 := hat.base; exact ⟨fun hl => hb0.1 (by rwa [getD_set_ne false (by decide)] at hl), fun hl => hb0.2 (set_false hl)⟩))
                    clear hat hK
                    go_simp
                    exact HF1.out
                  · have e0 : a.tmps[51]?.getD undef = .pointer (some ⟨S, k, none⟩) := hat.have_ 6 51 (by kernel_rfl) (hat.dep 6 (by kernel_rfl))
                    have hwe : W = wr.drew := hat.base.2 (hat.later 10 (by kernel_rfl))
                    have c0 := HC1.out
                    rw [← hwe] at c0
                    clear hwe
                    have HF1 := Lib.hid (hK (.int .u32 ((t : Nat) : Int)) W rfl (fun _ _ _ h => h) (by have hb0 := hat.base; exact ⟨fun hl => hb0.1 (by rwa [getD_set_ne false (by decide)] at hl), fun hl => hb0.2 (set_false hl)⟩))
                    clear hat hK
                    go_simp
                    exact HF1.out
                  · have e0 : a.tmps[48]?.getD undef = .int .u32 ((z : Nat) : Int) := hat.have_ 3 48 (by kernel_rfl) (hat.dep 3 (by kernel_rfl))
                    have e1 : a.tmps[52]?.getD undef = .int .u32 ((t : Nat) : Int) := hat.have_ 7 52 (by kernel_rfl) (hat.dep 7 (by kernel_rfl))
                    have hor := HOR.out
                    have HF1 := Lib.hid (hK (.int .u32 ((z ||| t : Nat) : Int)) W rfl (fun _ _ _ h => h) (by have hb0 := hat.base; exact ⟨fun hl => hb0.1 (by rwa [getD_set_ne false (by decide)] at hl), fun hl => hb0.2 (set_false hl)⟩))
                    clear hat hK
                    go_simp
                    exact HF1.out
                  · have e0 : a.tmps[45]?.getD undef = .slice (some ⟨S, 0, none⟩) n n := hat.have_ 0 45 (by kernel_rfl) (hat.dep 0 (by kernel_rfl))
                    have e1 : a.tmps[46]?.getD undef = .int .i64 (i : Int) := hat.have_ 1 46 (by kernel_rfl) (hat.dep 1 (by kernel_rfl))
                    have HF1 := Lib.hid (hK (.pointer (some ⟨S, i, none⟩)) W rfl (fun _ _ _ h => h) (by have hb0 := hat.base; exact ⟨fun hl => hb0.1 (by rwa [getD_set_ne false (by decide)] at hl), fun hl => hb0.2 (set_false hl)⟩))
                    clear hat hK
                    go_simp
                    exact HF1.out
                  · have e0 : a.tmps[54]?.getD undef = .pointer (some ⟨S, i, none⟩) := hat.have_ 9 54 (by kernel_rfl) (hat.dep 9 (by kernel_rfl))
                    have e1 : a.tmps[53]?.getD undef = .int .u32 ((z ||| t : Nat) : Int) := hat.have_ 8 53 (by kernel_rfl) (hat.dep 8 (by kernel_rfl))
                    have hwe : W = wr.drew := hat.base.2 hat.open_
                    subst hwe
                    have c0 := HC0.out
                    have f0 := HFZ.out
                    have HF1 := Lib.hid (hK undef (wr.drew.setCell ⟨S, i, none⟩ (.int .u32 ((z ||| t : Nat) : Int))) trivial (fun _ _ _ h => h) ⟨fun _ => rfl, fun hl => by rw [set_same (by rw [hat.size]; decide)] at hl; cases hl⟩)
                    clear hat hK
                    go_simp
                    exact HF1.out
                case hend =>
                  intro l u wc hall hG hB
                  have hwc := hB.1 (hall 10 (by decide))
                  subst hwc
                  have hst4 := HOR2.out (by rw [HBIT.out]; exact decide_eq_true hodd) (fun a b' _ _ => by
                    exact HBN.out a b')
                  have HST4 := Lib.hid hst4
                  clear hG hB hall hst4
                  generalize wr.drew.setCell ⟨S, i, none⟩ (.int .u32 ((z ||| t : Nat) : Int)) = wc at *
                  simp only [putAll, Act.put, List.setIfInBounds_toArray, List.set_cons_zero, List.set_cons_succ, Nat.zero_add, Nat.reduceAdd]
                  generalize u 0 = y0; generalize u 1 = y1; generalize u 2 = y2; generalize u 3 = y3; generalize u 4 = y4; generalize u 5 = y5; generalize u 6 = y6; generalize u 7 = y7; generalize u 8 = y8; generalize u 9 = y9
                  go_wp2_with fail
                  go_roundw
                  case rel => exact ⟨i + 1, _, by go_num, by omega, HSET.out, HST4.out, HSETB.out⟩
                  case measure => simp [intOf]; omega
              · have hev : d % 2 = 0 := by omega
                rw [hev] at hand
                go_wp2_with fail
                go_roundw
                case rel => exact ⟨i + 1, B, by go_num, by omega, HB.out, HSKIP.out (fun e => by rw [HBIT.out] at e; exact hodd (of_decide_eq_true e)), HBE.out⟩
                case measure => simp [intOf]; omega
            · have hin' : i = n := by omega
              subst hin'
              have hdi : decide (i < i) = false := by simp
              have hni : ¬ (i : Int) < (i : Int) := by omega
              have HB := Lib.hid hB; have HST2 := Lib.hid hst.next; have HBE := Lib.hid hb
              clear hB hst hb
              go_wp2_with fail
              go_roundw
              case rel => exact ⟨k + 1, B, by go_num, by omega, HB.out, HST2.out, HBE.out⟩
              case measure => simp [intOf]; omega
        · have hkn' : k = n := by omega
          subst hkn'
          have hdk : decide (k < k) = false := by simp
          have hnk : ¬ (k : Int) < (k : Int) := by omega
          go_wp2_with fail
          go_ret
          exact ⟨S, B, rfl, by rw [HS.out]; exact HB.out, fun i j hi hj => HST.out.done HIN.out i j hi hj, by rw [HS.out]; exact HBE.out⟩
end Go.Proofs.YtgeldpkopolnfaaDoor
