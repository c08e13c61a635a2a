/- need.Chain: its loop. -/
import Derived.Test.YtcppmkimfoajaaaNdF
import Derived.Test.YtcppmkimfoajaaaRegC
namespace Go.Proofs.Ytcppmkimfoajaaa
open Go.RowKit
set_option linter.all false

theorem below_grown' {n : Nat} {a w w' : World} {row : Option Nat} (h : Below n a w) (hg : w.grownBy w' row) (hr : ∀ k, row = some k → n ≤ k) (hn : n ≤ w.heap.size) : Below n a w' :=
  ⟨hg.os.trans h.os, hg.tape.trans h.tape, hg.output.trans h.output, Nat.le_trans h.size hg.size, fun k hk => (hg.block k (by omega) (fun e => by have := hr k e.symm; omega)).trans (h.block k hk)⟩
/-- The steps of an order, the first k numbers of it. -/
def chainL (Z : List Int) : Nat → List Rq
  | 0 => []
  | 1 => []
  | k + 2 => chainL Z (k + 1) ++ [(Z.getD k 0, Z.getD (k + 1) 0)]
theorem chainL_length (Z : List Int) (k : Nat) : (chainL Z (k + 1)).length = k := by
  induction k with
  | zero => rfl
  | succ k ih => show (chainL Z (k + 1) ++ _).length = _; rw [List.length_append, ih]; rfl

def GC (S : Nat) (vv : Value) (b o N c k : Nat) (x1 x2 : Int) (L : List Rq) (l : Array Bool) (i : Nat) (v : Value) (W : World) : Prop := match i with
  | 0 => v = vv
  | 1 => v = .slice (some ⟨b, o, none⟩) N c
  | 2 => v = .int .i64 (k : Int)
  | 3 => v = .int .i64 ((k - 1 : Nat) : Int)
  | 4 => v = .pointer (some ⟨b, o + (k - 1), none⟩)
  | 5 => v = .int .i64 x1
  | 6 => v = .slice (some ⟨b, o, none⟩) N c
  | 7 => v = .int .i64 (k : Int)
  | 8 => v = .pointer (some ⟨b, o + k, none⟩)
  | 9 => v = .int .i64 x2
  | 10 => v = .agg #[.int .i64 x1, .int .i64 x2]
  | 11 => l.getD 12 false = false → ∃ b', v = .slice (some ⟨b', 0, none⟩) 1 1 ∧ W.heap[b']? = some (.cells #[.int .i64 x1, .int .i64 x2] 87 (0, 0))
  | 12 => W.ownsRow S 87 2 v (L.length + 1) (flatR L ++ [.int .i64 x1, .int .i64 x2])
  | 13 => W.ownsRow S 87 2 v (L.length + 1) (flatR L ++ [.int .i64 x1, .int .i64 x2])
  | _ => True
def BC (S : Nat) (w : World) (vv : Value) (L : List Rq) (l : Array Bool) (W : World) : Prop :=
  Below S w W ∧ S ≤ W.heap.size ∧ (l.getD 12 false = false → W.ownsRow S 87 2 vv L.length (flatR L))
section
variable {S : Nat} {vv : Value} {b o N c k : Nat} {x1 x2 : Int} {L : List Rq} {l : Array Bool} {W W' : World}
theorem GC.mono {j : Nat} {u : Value} (h : GC S vv b o N c k x1 x2 L l j u W) (i : Nat) : GC S vv b o N c k x1 x2 L (l.setIfInBounds i true) j u W := by
  match j with
  | 0 => exact h
  | 1 => exact h
  | 2 => exact h
  | 3 => exact h
  | 4 => exact h
  | 5 => exact h
  | 6 => exact h
  | 7 => exact h
  | 8 => exact h
  | 9 => exact h
  | 10 => exact h
  | 11 => exact fun hl => h (set_false hl)
  | 12 => exact h
  | 13 => exact h
  | _ + 14 => exact h
theorem GC.other {j : Nat} {u : Value} (h : GC S vv b o N c k x1 x2 L l j u W) (i : Nat) (h11 : j = 11 → GC S vv b o N c k x1 x2 L (l.setIfInBounds i true) 11 u W') (h12 : j = 12 ∨ j = 13 → False) : GC S vv b o N c k x1 x2 L (l.setIfInBounds i true) j u W' := by
  match j with
  | 0 => exact h
  | 1 => exact h
  | 2 => exact h
  | 3 => exact h
  | 4 => exact h
  | 5 => exact h
  | 6 => exact h
  | 7 => exact h
  | 8 => exact h
  | 9 => exact h
  | 10 => exact h
  | 11 => exact h11 rfl
  | 12 => exact (h12 (.inl rfl)).elim
  | 13 => exact (h12 (.inr rfl)).elim
  | _ + 14 => exact h
end

set_option maxRecDepth 100000 in
set_option maxHeartbeats 4000000 in
theorem chain_any (a : Option Addr) (c : Nat) (Z : List Int) (w : World) (hl : Z.length ≤ 400) (hZ : TeamsAt w a Z) (CS : ∀ (a' : Option Addr) (c' : Nat) (L : List Rq) (w' : World), L.length ≤ 900 → ReqsAt w' a' L → Calls Try.prog 41 #[.slice a' L.length c'] w' (LstP (unionL L []) w')) :
    Calls Try.prog 21 #[.slice a Z.length c] w (LstP (unionL (chainL Z Z.length) []) w) := by
  obtain ⟨i0, hi0, hz0, hz1, hz2⟩ := info_parts info87
  have HZ := Lib.hid hZ; have HCS := Lib.hid CS
  obtain ⟨N, hN⟩ : ∃ N, Z.length = N := ⟨_, rfl⟩
  have HN := Lib.hid hN
  rw [hN] at hl ⊢
  obtain ⟨S, hS⟩ : ∃ S, w.heap.size = S := ⟨_, rfl⟩
  have HS := Lib.hid hS
  clear hZ hN CS
  go_enter Try.func21, Try.ntmps21
  go_wp2_with fail
  go_loopw [3, 4] (fun vv kv wr => ∃ k : Nat, kv = .int .i64 (k : Int) ∧ 1 ≤ k ∧ (k ≤ N ∨ k = 1) ∧ wr.ownsRow S 87 2 vv (k - 1) (flatR (chainL Z k)) ∧ Below S w wr) (fun _ kv _ => N - (intOf kv).toNat)
  case atStart => exact ⟨1, rfl, Nat.le_refl _, .inr rfl, World.ownsRow_nil _ _ _ _, Below.refl _ _⟩
  case round =>
    obtain ⟨k, rfl, h1k, hk, hO, hb⟩ := hrel
    by_cases hlt : k < N
    · obtain ⟨b, o, hp, c0⟩ := HZ.out (k - 1) (by rw [HN.out]; omega)
      obtain ⟨b2, o2, hp2, c1⟩ := HZ.out k (by rw [HN.out]; exact hlt)
      subst hp
      injection hp2 with hp2
      injection hp2 with e1 e2
      subst e1; subst e2
      have hbS : b < S := by rw [← hS]; exact block_lt_of_cell c0
      have hch : chainL Z (k + 1) = chainL Z k ++ [(Z.getD (k - 1) 0, Z.getD k 0)] := by
        obtain ⟨m, rfl⟩ : ∃ m, k = m + 1 := ⟨k - 1, by omega⟩
        rfl
      have hcl : (chainL Z k).length = k - 1 := by
        obtain ⟨m, rfl⟩ : ∃ m, k = m + 1 := ⟨k - 1, by omega⟩
        exact chainL_length Z m
      obtain ⟨x1, hx1⟩ : ∃ x, Z.getD (k - 1) 0 = x := ⟨_, rfl⟩
      obtain ⟨x2, hx2⟩ : ∃ x, Z.getD k 0 = x := ⟨_, rfl⟩
      rw [hx1] at c0 hch
      rw [hx2] at c1 hch
      obtain ⟨L, hL⟩ : ∃ L, chainL Z k = L := ⟨_, rfl⟩
      rw [hL] at hch hcl hO
      rw [← hcl] at hO
      have HC0 := Lib.hid c0; have HC1 := Lib.hid c1; have HCH := Lib.hid hch; have HO := Lib.hid hO; have HBE := Lib.hid hb; have HCL := Lib.hid hcl
      have i0' : (0 : Int) ≤ ((k - 1 : Nat) : Int) := by omega
      have i1' : ((k - 1 : Nat) : Int) < (N : Int) := by omega
      have i2' : (0 : Int) ≤ (k : Int) := by omega
      have i3' : (k : Int) < (N : Int) := by omega
      have sw : IntKind.i64.wrap ((k : Int) - 1) = ((k - 1 : Nat) : Int) := by rw [IntWalk.i64_in _ (by omega)]; omega
      have hdd : decide (k < N) = true := decide_eq_true hlt
      have hll : L.length ≤ 400 := by omega
      clear c0 c1 hch hO hb hx1 hx2 hL hcl
      go_upto_region 5 with fail
      refine region_factsC (by kernel_rfl) (GC S u3 b o N c k x1 x2 L) (BC S w u3 L) (by kernel_rfl) (by kernel_rfl) ?h0 ?hstep ?hend
      case h0 => exact ⟨below_drewN HBE.out 1, by have := HBE.out.size; rw [hS] at this; exact this, fun _ => HO.out⟩
      case hstep =>
        intro i oo l a W ho hat K hK
        have hi : i < 14 := (Array.getElem?_eq_some_iff.1 ho).1
        obtain rfl | rfl | rfl | rfl | rfl | rfl | rfl | rfl | rfl | rfl | rfl | rfl | rfl | rfl : i = 0 ∨ i = 1 ∨ i = 2 ∨ i = 3 ∨ i = 4 ∨ i = 5 ∨ i = 6 ∨ i = 7 ∨ i = 8 ∨ i = 9 ∨ i = 10 ∨ i = 11 ∨ i = 12 ∨ i = 13 := by omega
        all_goals
          have ho := Option.some.inj (show some _ = some oo from ho)
          subst ho
        · have e0 : a.tmps[3]?.getD undef = u3 := hat.old 13 3 (by kernel_rfl) (hat.later 13 (by kernel_rfl))
          have HF1 := Lib.hid (hK (u3) W rfl (fun k u _ h => h.mono 0) ⟨hat.base.1, hat.base.2.1, fun hl => hat.base.2.2 (set_false hl)⟩)
          clear hat hK
          go_simp
          exact HF1.out
        · have e0 : a.tmps[0]?.getD undef = .slice (some ⟨b, o, none⟩) N c := hat.out 0 (by kernel_rfl)
          have HF1 := Lib.hid (hK (.slice (some ⟨b, o, none⟩) N c) W rfl (fun k u _ h => h.mono 1) ⟨hat.base.1, hat.base.2.1, fun hl => hat.base.2.2 (set_false hl)⟩)
          clear hat hK
          go_simp
          exact HF1.out
        · have e0 : a.tmps[4]?.getD undef = .int .i64 (k : Int) := hat.out 4 (by kernel_rfl)
          have HF1 := Lib.hid (hK (.int .i64 (k : Int)) W rfl (fun k u _ h => h.mono 2) ⟨hat.base.1, hat.base.2.1, fun hl => hat.base.2.2 (set_false hl)⟩)
          clear hat hK
          go_simp
          exact HF1.out
        · have e0 : a.tmps[13]?.getD undef = .int .i64 (k : Int) := hat.have_ 2 13 (by kernel_rfl) (hat.dep 2 (by kernel_rfl))
          have HF1 := Lib.hid (hK (.int .i64 ((k - 1 : Nat) : Int)) W rfl (fun k u _ h => h.mono 3) ⟨hat.base.1, hat.base.2.1, fun hl => hat.base.2.2 (set_false hl)⟩)
          clear hat hK
          go_simp
          exact HF1.out
        · have e0 : a.tmps[12]?.getD undef = .slice (some ⟨b, o, none⟩) N c := hat.have_ 1 12 (by kernel_rfl) (hat.dep 1 (by kernel_rfl))
          have e1 : a.tmps[14]?.getD undef = .int .i64 ((k - 1 : Nat) : Int) := hat.have_ 3 14 (by kernel_rfl) (hat.dep 3 (by kernel_rfl))
          have HF1 := Lib.hid (hK (.pointer (some ⟨b, o + (k - 1), none⟩)) W rfl (fun k u _ h => h.mono 4) ⟨hat.base.1, hat.base.2.1, fun hl => hat.base.2.2 (set_false hl)⟩)
          clear hat hK
          go_simp
          exact HF1.out
        · have e0 : a.tmps[15]?.getD undef = .pointer (some ⟨b, o + (k - 1), none⟩) := hat.have_ 4 15 (by kernel_rfl) (hat.dep 4 (by kernel_rfl))
          have c0 := hat.base.1.cell (p := ⟨b, o + (k - 1), none⟩) hbS
          rw [HC0.out] at c0
          have HF1 := Lib.hid (hK (.int .i64 x1) W rfl (fun k u _ h => h.mono 5) ⟨hat.base.1, hat.base.2.1, fun hl => hat.base.2.2 (set_false hl)⟩)
          clear hat hK
          go_simp
          exact HF1.out
        · have e0 : a.tmps[0]?.getD undef = .slice (some ⟨b, o, none⟩) N c := hat.out 0 (by kernel_rfl)
          have HF1 := Lib.hid (hK (.slice (some ⟨b, o, none⟩) N c) W rfl (fun k u _ h => h.mono 6) ⟨hat.base.1, hat.base.2.1, fun hl => hat.base.2.2 (set_false hl)⟩)
          clear hat hK
          go_simp
          exact HF1.out
        · have e0 : a.tmps[4]?.getD undef = .int .i64 (k : Int) := hat.out 4 (by kernel_rfl)
          have HF1 := Lib.hid (hK (.int .i64 (k : Int)) W rfl (fun k u _ h => h.mono 7) ⟨hat.base.1, hat.base.2.1, fun hl => hat.base.2.2 (set_false hl)⟩)
          clear hat hK
          go_simp
          exact HF1.out
        · have e0 : a.tmps[17]?.getD undef = .slice (some ⟨b, o, none⟩) N c := hat.have_ 6 17 (by kernel_rfl) (hat.dep 6 (by kernel_rfl))
          have e1 : a.tmps[18]?.getD undef = .int .i64 (k : Int) := hat.have_ 7 18 (by kernel_rfl) (hat.dep 7 (by kernel_rfl))
          have HF1 := Lib.hid (hK (.pointer (some ⟨b, o + k, none⟩)) W rfl (fun k u _ h => h.mono 8) ⟨hat.base.1, hat.base.2.1, fun hl => hat.base.2.2 (set_false hl)⟩)
          clear hat hK
          go_simp
          exact HF1.out
        · have e0 : a.tmps[19]?.getD undef = .pointer (some ⟨b, o + k, none⟩) := hat.have_ 8 19 (by kernel_rfl) (hat.dep 8 (by kernel_rfl))
          have c0 := hat.base.1.cell (p := ⟨b, o + k, none⟩) hbS
          rw [HC1.out] at c0
          have HF1 := Lib.hid (hK (.int .i64 x2) W rfl (fun k u _ h => h.mono 9) ⟨hat.base.1, hat.base.2.1, fun hl => hat.base.2.2 (set_false hl)⟩)
          clear hat hK
          go_simp
          exact HF1.out
        · have e0 : a.tmps[16]?.getD undef = .int .i64 x1 := hat.have_ 5 16 (by kernel_rfl) (hat.dep 5 (by kernel_rfl))
          have e1 : a.tmps[20]?.getD undef = .int .i64 x2 := hat.have_ 9 20 (by kernel_rfl) (hat.dep 9 (by kernel_rfl))
          have HF1 := Lib.hid (hK (.agg #[.int .i64 x1, .int .i64 x2]) W rfl (fun k u _ h => h.mono 10) ⟨hat.base.1, hat.base.2.1, fun hl => hat.base.2.2 (set_false hl)⟩)
          clear hat hK
          go_simp
          exact HF1.out
        · have e0 : a.tmps[21]?.getD undef = .agg #[.int .i64 x1, .int .i64 x2] := hat.have_ 10 21 (by kernel_rfl) (hat.dep 10 (by kernel_rfl))
          have HF1 := Lib.hid (hK (.slice (some ⟨W.heap.size, 0, none⟩) 1 1) (W.alloc (.cells #[.int .i64 x1, .int .i64 x2] 87)) (fun _ => ⟨W.heap.size, rfl, heap_alloc_new _ _⟩) (fun kk u hk h => h.other 11 (fun e => by subst e; rw [hat.open_] at hk; cases hk) (fun e => by rcases e with rfl | rfl <;> (first | (rw [hat.later 12 (by kernel_rfl)] at hk; cases hk) | (rw [hat.later 13 (by kernel_rfl)] at hk; cases hk)))) ⟨hat.base.1.alloc hat.base.2.1 _, by simp; have := hat.base.2.1; omega, fun hl => (hat.base.2.2 (set_false hl)).alloc _⟩)
          clear hat hK
          go_simp
          exact HF1.out
        · have hown := hat.base.2.2 hat.open_
          have e1 : a.tmps[11]?.getD undef = u3 := hat.have_ 0 11 (by kernel_rfl) (hat.dep 0 (by kernel_rfl))
          obtain ⟨bb, e2, hh⟩ := hat.have_ 11 22 (by kernel_rfl) (hat.dep 11 (by kernel_rfl)) hat.open_
          have hz := hat.size
          refine step_append_lies W rfl (.tmp 11) (.tmp 22) 31 rfl S 87 i0 (.agg #[.int .i64 0, .int .i64 0]) 2 16 (by kernel_rfl) hi0 hz0 hz1 hz2 rfl (by decide) u3 L.length (flatR L) ((Array.getD_eq_getD_getElem? ..).trans e1) hown ⟨bb, 0, none⟩ 1 1 [.int .i64 x1, .int .i64 x2] ((Array.getD_eq_getD_getElem? ..).trans e2) rfl (World.news_of_block (cs := #[.int .i64 x1, .int .i64 x2]) hh) (fun u hu => by simp at hu; rcases hu with rfl | rfl <;> rfl) (by decide) (by unfold maxLen; omega) (by omega) hat.base.2.1 W.heap.size rfl ?_
          intro g cap w' ho hg hq hglt
          refine hK _ _ ho (fun kk u hk h => ?_) ⟨below_grown' hat.base.1 hg (fun k e => (hown.lt k e).1) hat.base.2.1, by have := hg.size; have := hat.base.2.1; omega, fun hl => ?_⟩
          · refine h.other 12 (fun e => ?_) (fun e => ?_)
            · exact fun hl => absurd hl (by rw [set_same (by rw [hz]; decide)]; decide)
            · rcases e with rfl | rfl <;> (first | (rw [hat.open_] at hk; cases hk) | (rw [hat.later 13 (by kernel_rfl)] at hk; cases hk))
          · rw [set_same (by rw [hz]; decide)] at hl; cases hl
        · have h12 := hat.have_ 12 23 (by kernel_rfl) (hat.dep 12 (by kernel_rfl))
          generalize hv : a.tmps[23]?.getD undef = v at h12
          have HF1 := Lib.hid (hK v W h12 (fun k u _ h => h.mono 13) ⟨hat.base.1, hat.base.2.1, fun hl => hat.base.2.2 (set_false hl)⟩)
          clear hat hK
          go_simp
          exact HF1.out
      case hend =>
        intro l u wc hall hG hB
        have e13 : wc.ownsRow S 87 2 (u 13) (L.length + 1) (flatR L ++ [.int .i64 x1, .int .i64 x2]) := hG 13 3 (by kernel_rfl)
        have HO2 := Lib.hid e13; have HB2 := Lib.hid hB.1
        clear hG hB hall e13
        simp only [putAll, Act.put, List.setIfInBounds_toArray, List.set_cons_zero, List.set_cons_succ, Nat.zero_add, Nat.reduceAdd]
        generalize u 13 = v13 at *
        generalize u 0 = y0; generalize u 1 = y1; generalize u 2 = y2; generalize u 3 = y3; generalize u 4 = y4; generalize u 5 = y5; generalize u 6 = y6; generalize u 7 = y7; generalize u 8 = y8; generalize u 9 = y9; generalize u 10 = y10; generalize u 11 = y11; generalize u 12 = y12
        go_wp2_with fail
        go_roundw
        case rel =>
          refine ⟨k + 1, by go_num, by omega, .inl (by omega), ?_, HB2.out⟩
          have := HO2.out
          rw [HCH.out, flatR_append, Nat.add_sub_cancel]
          rw [HCL.out, show k - 1 + 1 = k by omega] at this
          exact this
        case measure => simp [intOf]; omega
    · have hdd : decide (k < N) = false := decide_eq_false hlt
      have hni : ¬ (k : Int) < (N : Int) := by omega
      have hcl : (chainL Z k).length = k - 1 := by
        obtain ⟨m, rfl⟩ : ∃ m, k = m + 1 := ⟨k - 1, by omega⟩
        exact chainL_length Z m
      have hcz : chainL Z k = chainL Z N := by
        rcases hk with h | h
        · rw [show k = N by omega]
        · subst h
          have : N = 0 ∨ N = 1 := by omega
          rcases this with rfl | rfl <;> rfl
      obtain ⟨af, cf, ef, hcf, hRf, hbf⟩ := reqs_of_own hO hcl
      subst ef
      have cs := HCS.out af cf (chainL Z k) wr (by omega) hRf
      rw [hcl, hcz] at cs
      have CSO := Lib.hid cs; have HBE := Lib.hid hb
      clear hO hb hcf hRf hbf cs hcz hcl
      go_wp2_with fail
      refine (CSO.out).mono ?_
      rintro e w3 ⟨c3, cc3, rfl, hc3, hr3, hb3, hn3⟩
      have hb4 : Below S w w3 := HBE.out.trans (hb3.mono (by have := HBE.out.size; omega))
      have HB4 := Lib.hid hb4; have HR := Lib.hid hr3; have HC3 := Lib.hid hc3
      have HN3 := Lib.hid (fun b o e => Nat.le_trans (show w.heap.size ≤ wr.heap.size by rw [hS]; have := HBE.out.size; omega) (hn3 b o e))
      clear hb3 hr3 hc3 hn3 hb4 CSO
      generalize hnn : (unionL (chainL Z N) []).length = nn at *
      have HNN := Lib.hid hnn
      clear hnn
      go_wp2_with fail
      go_ret
      exact ⟨c3, cc3, by rw [HNN.out]; rfl, by rw [HNN.out]; exact HC3.out, HR.out, by rw [HS.out]; exact HB4.out, HN3.out⟩
end Go.Proofs.Ytcppmkimfoajaaa
