/- VerdictKeeps. -/
import Derived.Test.YtdhochjcigingaaDoorVkF
namespace Go.Proofs.YtdhochjcigingaaDoor
open Go.RowKit Go.Sort
set_option linter.all false

theorem infoK : (Tryd.prog.info? 73).map (fun i => (i.zero, i.size, i.bytes)) = some (some (.agg #[.int .i64 0, .int .i64 0]), 2, 16) := by kernel_rfl

def kc (L : List (Int × Int)) : List Value := L.flatMap fun x => [.int .i64 x.1, .int .i64 x.2]
theorem kc_get (L : List (Int × Int)) (j : Nat) (h : j < L.length) : (kc L)[j * 2]? = some (.int .i64 (L.getD j (0, 0)).1) ∧ (kc L)[j * 2 + 1]? = some (.int .i64 (L.getD j (0, 0)).2) := by
  have g := flatn_get (fun x : Int × Int => [Value.int .i64 x.1, .int .i64 x.2]) 2 (fun _ => rfl) L j h
  have e : L.getD j (0, 0) = L[j] := by rw [List.getD, List.getElem?_eq_getElem h]; rfl
  rw [e]
  exact ⟨by have := g 0 (by omega); rw [Nat.add_zero] at this; exact this, g 1 (by omega)⟩

/-- A slice of small numbers that came in. -/
def Small (k : IntKind) (hi : Int) (w : World) (a : Option Addr) (n : Nat) : Prop :=
  ∀ j, j < n → ∃ b o, a = some ⟨b, o, none⟩ ∧ b < w.heap.size ∧ ∃ z : Int, w.cell? ⟨b, o + j, none⟩ = some (.int k z) ∧ 0 ≤ z ∧ z ≤ hi

/-- The policy's box and its keeps. -/
structure KW (w : World) (v : Value) (L : List (Int × Int)) (W : World) : Prop where
  box : W.heap[w.heap.size]? = some (.cells #[.slice none 0 0, v] 70 (0, 0))
  own : W.ownsRow (w.heap.size + 1) 73 2 v L.length (kc L)
  below : Below w.heap.size w W
theorem KW.step {w W W' : World} {v : Value} {L : List (Int × Int)} (h : KW w v L W) (hb : Below W.heap.size W W') : KW w v L W' := by
  have : w.heap.size < W.heap.size := (Array.getElem?_eq_some_iff.1 h.box).1
  exact ⟨(hb.block _ this).trans h.box, own_below h.own hb, h.below.trans (hb.mono h.below.size)⟩
theorem KW.cells {w W : World} {v : Value} {L : List (Int × Int)} (h : KW w v L W) : (W.cell? ⟨w.heap.size, 0, none⟩ = some (.slice none 0 0) ∧ W.cell? ⟨w.heap.size, 1, none⟩ = some v) ∧ W.frozen? ⟨w.heap.size, 1, none⟩ = false := by
  exact ⟨⟨by rw [cell_of_row W _ 0 _ _ _ h.box]; rfl, by rw [cell_of_row W _ 1 _ _ _ h.box]; rfl⟩, frozen_of_row W _ 1 _ _ h.box⟩
theorem KW.slice {w W : World} {v : Value} {L : List (Int × Int)} (h : KW w v L W) : ∃ p c, v = .slice p L.length c ∧ KeepsAt W p L := by
  by_cases h0 : 0 < L.length
  · obtain ⟨g, c, rfl, _, _⟩ := h.own.form h0
    refine ⟨_, c, rfl, fun j hj => ⟨g, 0, rfl, ?_, ?_⟩⟩
    · rw [Nat.zero_add, h.own.cellAt (j * 2) (by omega), (kc_get L j hj).1]
    · rw [show 0 + j * 2 + 1 = j * 2 + 1 from by omega, h.own.cellAt (j * 2 + 1) (by omega), (kc_get L j hj).2]
  · have hl : L = [] := List.length_eq_zero_iff.1 (by omega)
    subst hl
    rcases h.own.2 with ⟨e, _⟩ | ⟨g, cap, cur, e, _⟩
    · exact ⟨none, 0, e, fun j hj => by simp at hj⟩
    · exact ⟨some ⟨g, 0, none⟩, cap, e, fun j hj => by simp at hj⟩

theorem KW.own_lt {w W : World} {v : Value} {L : List (Int × Int)} (h : KW w v L W) : ∀ g, v.ownBlock = some g → w.heap.size < g ∧ g < W.heap.size := fun g hg => by
  have := h.own.lt g hg
  omega
theorem kc_snoc (L : List (Int × Int)) (p d : Int) : kc (L ++ [(p, d)]) = kc L ++ [.int .i64 p, .int .i64 d] := by
  simp [kc]

theorem KW.appended {w W W9 : World} {v v' : Value} {L : List (Int × Int)} {p d : Int} (h : KW w v L W) (hg : (W.alloc (.cells #[.int .i64 p, .int .i64 d] 73)).grownBy W9 v.ownBlock)
    (ho : W9.ownsRow (w.heap.size + 1) 73 2 v' (L.length + 1) (kc L ++ [.int .i64 p, .int .i64 d])) :
    ((W9.cell? ⟨w.heap.size, 1, none⟩ = some v ∧ W9.frozen? ⟨w.heap.size, 1, none⟩ = false) ∧ KW w v' (L ++ [(p, d)]) (W9.setCell ⟨w.heap.size, 1, none⟩ v')) ∧
    ∀ S x y, W.heap[S]? = some (.cells #[x, y] 73 (0, 0)) → w.heap.size < S → v.ownBlock ≠ some S → (W9.setCell ⟨w.heap.size, 1, none⟩ v').cell? ⟨S, 0, none⟩ = some x ∧ (W9.setCell ⟨w.heap.size, 1, none⟩ v').cell? ⟨S, 1, none⟩ = some y := by
  have hP : w.heap.size < W.heap.size := (Array.getElem?_eq_some_iff.1 h.box).1
  have hlt := h.own_lt
  have old : ∀ k, k < W.heap.size → v.ownBlock ≠ some k → W9.heap[k]? = W.heap[k]? := fun k hk hne => by
    rw [hg.block k (by simp; omega) (fun e => hne e.symm), (((Below.refl W.heap.size W).alloc (Nat.le_refl _) _).block k hk)]
  have hne : v.ownBlock ≠ some w.heap.size := fun e => by have := hlt _ e; omega
  have b9 : W9.heap[w.heap.size]? = some (.cells #[.slice none 0 0, v] 70 (0, 0)) := (old _ hP hne).trans h.box
  have hb9 : Below w.heap.size w W9 := ⟨hg.os.trans h.below.os, hg.tape.trans h.below.tape, hg.output.trans h.below.output, by have := hg.size; simp at this; omega, fun k hk => by
    rw [old k (by omega) (fun e => by have := hlt _ e; omega), h.below.block k hk]⟩
  refine ⟨⟨⟨by rw [cell_of_row W9 _ 1 _ _ _ b9]; rfl, frozen_of_row W9 _ 1 _ _ b9⟩, ?_, ?_, hb9.setCell (Nat.le_refl _) _⟩, fun S x y hS h1 h2 => ?_⟩
  · have := heap_setCell_same W9 w.heap.size 1 _ _ v' b9
    simpa using this
  · rw [List.length_append, kc_snoc]
    exact ownsRow_setCell_below ho (by simp) v'
  · have hSl : S < W.heap.size := (Array.getElem?_eq_some_iff.1 hS).1
    have e : (W9.setCell ⟨w.heap.size, 1, none⟩ v').heap[S]? = some (.cells #[x, y] 73 (0, 0)) := by
      rw [heap_setCell_other _ _ _ _ (show S ≠ w.heap.size by omega), old S hSl h2, hS]
    exact ⟨by rw [cell_of_row _ S 0 _ _ _ e]; rfl, by rw [cell_of_row _ S 1 _ _ _ e]; rfl⟩

theorem own_sliceK {W : World} {base K : Nat} {v : Value} {xs : List Value} (h : W.ownsRow base 73 2 v (K + 1) xs) : ∃ g c, v = .slice (some ⟨g, 0, none⟩) (K + 1) c := by
  obtain ⟨g, c, h1, _, _⟩ := h.form (by omega)
  exact ⟨g, c, h1⟩

theorem pos_snoc {L : List (Int × Int)} {p d : Int} (h : ∀ x ∈ L, 1 ≤ x.1) (hp : 1 ≤ p) : ∀ x ∈ L ++ [(p, d)], 1 ≤ x.1 := fun x hx => by
  rcases List.mem_append.1 hx with hx | hx
  · exact h x hx
  · rw [List.mem_singleton.1 hx]; exact hp
theorem lastK_zero (L : List (Int × Int)) (h : ∀ x ∈ L, 1 ≤ x.1) : lastK 0 L = 0 := by
  have key : ∀ (L : List (Int × Int)) (d : Int), (∀ x ∈ L, 1 ≤ x.1) → L.foldl (fun d x => if x.1 = 0 then x.2 else d) d = d := by
    intro L
    induction L with
    | nil => intro d _; rfl
    | cons x L ih =>
      intro d h
      rw [List.foldl_cons, if_neg (by have := h x (by simp); omega)]
      exact ih d (fun y hy => h y (by simp [hy]))
  exact key L 0 h

def KLRel (w : World) (n : Int) (N M : Nat) (wv iv : Value) (wr : World) : Prop :=
  ∃ (v : Value) (L : List (Int × Int)), iv = .int .i64 (L.length : Int) ∧ wv = .int .i64 (lastK n L) ∧ L.length ≤ N ∧ L.length ≤ M ∧ (∀ x ∈ L, 1 ≤ x.1) ∧ KW w v L wr

set_option maxRecDepth 100000 in
set_option maxHeartbeats 4000000 in
theorem keeps_any (a a2 : Option Addr) (N M c c2 : Nat) (q : Int) (w : World) (hT : TabA w) (h1 : Small .u8 255 w a N) (h2 : Small .u16 65535 w a2 M) (hq : 0 ≤ q ∧ q ≤ 255) :
    Calls Tryd.prog 10 #[.slice a N c, .slice a2 M c2, .int .u8 q] w (BoolP true w) := by
  have HT := Lib.hid hT; have H1 := Lib.hid h1; have H2 := Lib.hid h2
  clear hT h1 h2
  by_cases hN : N ≤ 60 ∧ M ≤ 60
  · obtain ⟨hN, hM⟩ := hN
    obtain ⟨i0, hi, hz0, hz1, hz2⟩ := info_parts infoK
    have HI := Lib.hid hi; have HZ0 := Lib.hid hz0; have HZ1 := Lib.hid hz1; have HZ2 := Lib.hid hz2
    clear hi hz0 hz1 hz2
    have n1 : ¬ ((60 : Int) < (N : Int)) := by omega
    have n2 : ¬ ((60 : Int) < (M : Int)) := by omega
    have hk0 : KW w (.slice none 0 0) [] (w.alloc (.cells #[.slice none 0 0, .slice none 0 0] 70)) := ⟨heap_alloc_new _ _, World.ownsRow_nil _ _ _ _, (Below.refl _ _).alloc (Nat.le_refl _) _⟩
    have HK0 := Lib.hid hk0; clear hk0
    go_enter Tryd.func10, Tryd.ntmps10
    go_wp2_with fail
    obtain ⟨n, hn⟩ : ∃ n : Int, n = 1 + q % 4 := ⟨_, rfl⟩
    rw [← hn]
    have hn1 : 1 ≤ n ∧ n ≤ 4 := by omega
    clear hn
    go_loopw [8, 10, 11] (fun wv iv _ wr => KLRel w n N M wv iv wr) (fun _ iv _ _ => N - (intOf iv).toNat)
    case atStart => exact ⟨_, [], rfl, rfl, Nat.zero_le _, Nat.zero_le _, (fun x hx => by cases hx), HK0.out⟩
    case round =>
      clear HK0
      obtain ⟨v, L, rfl, rfl, hLN, hLM, hpos, hK⟩ := hrel
      have HPOS := Lib.hid hpos; clear hpos
      by_cases hlt : L.length < N ∧ L.length < M
      · obtain ⟨hlt1, hlt2⟩ := hlt
        obtain ⟨b1, o1, rfl, hb1, z1, hz1, hz1a, hz1b⟩ := H1.out _ hlt1
        obtain ⟨b2, o2, rfl, hb2, z2, hz2, hz2a, hz2b⟩ := H2.out _ hlt2
        have x1 := cell_later' hK.below hz1
        have x2 := cell_later' hK.below hz2
        have hal := ((Below.refl wr.heap.size wr).alloc (Nat.le_refl _) (.cells #[.int .i64 0, .int .i64 0] 73))
        have y1 := cell_later' hal x1
        have y2 := cell_later' hal x2
        have u1 := cell_later' hal.drew x1
        have u2 := cell_later' hal.drew x2
        have HK := Lib.hid hK
        have HNW1 := Lib.hid (vj_one [1 + z1 % 4, z2 % 40001])
        have d1 : decide (L.length < N) = true := decide_eq_true hlt1
        have d2 : decide (L.length < M) = true := decide_eq_true hlt2
        clear hal hz1 hz2 hK
        generalize hlk : lastK n L = lk at *
        have HLK := Lib.hid hlk; clear hlk
        generalize hKK : L.length = K at *
        have HKK := Lib.hid hKK; clear hKK
        have g1 : (K : Int) < (N : Int) := by omega
        have g2 : (K : Int) < (M : Int) := by omega
        have g0 : (0 : Int) ≤ (K : Int) := by omega
        have m1 : 0 ≤ z1 % 4 ∧ z1 % 4 < 4 := by omega
        have m2 : 0 ≤ z2 % 40001 ∧ z2 % 40001 < 40001 := by omega
        go_wp2_with fail
        go_region
        generalize hp : 1 + z1 % 4 = p at *
        generalize z2 % 40001 = d at *
        have hp1 : 1 ≤ p := by omega
        have hb6 := ((Below.refl wr.heap.size wr).alloc (Nat.le_refl _) (.cells #[.int .i64 p, .int .i64 d] 73)).drew
        have hK6 := HK.out.step hb6
        have hS6 : (wr.alloc (.cells #[.int .i64 p, .int .i64 d] 73)).drew.heap[wr.heap.size]? = some (.cells #[.int .i64 p, .int .i64 d] 73 (0, 0)) := heap_alloc_new wr (.cells #[.int .i64 p, .int .i64 d] 73)
        have hSP : w.heap.size < wr.heap.size := (Array.getElem?_eq_some_iff.1 HK.out.box).1
        have hSo : v.ownBlock ≠ some wr.heap.size := fun e => by have := HK.out.own_lt _ e; omega
        clear x1 x2 y1 y2 u1 u2 hb6 m1 m2 hz1a hz1b hz2a hz2b d1 d2 g0 hp
        generalize (wr.alloc (.cells #[.int .i64 p, .int .i64 d] 73)).drew = W6 at *
        generalize wr.heap.size = S at *
        have s0 : W6.cell? ⟨S, 0, none⟩ = some (.int .i64 p) := by rw [cell_of_row W6 S 0 _ _ _ hS6]; rfl
        have s1 : W6.cell? ⟨S, 1, none⟩ = some (.int .i64 d) := by rw [cell_of_row W6 S 1 _ _ _ hS6]; rfl
        obtain ⟨⟨x0, x1⟩, x2⟩ := hK6.cells
        have hown := hK6.own
        rw [HKK.out] at hown
        have HO := Lib.hid (hown.alloc (.cells #[.int .i64 p, .int .i64 d] 73))
        have HNW := Lib.hid (World.news_of_block (cs := #[.int .i64 p, .int .i64 d]) (t := 73) (fr := (0, 0)) (heap_alloc_new W6 (.cells #[.int .i64 p, .int .i64 d] 73)))
        have HL1 := Lib.hid (vj_one [p, d])
        have hsz : w.heap.size + 1 ≤ W6.heap.size := (Array.getElem?_eq_some_iff.1 hK6.box).1
        have HS6 := Lib.hid hS6; have HK6 := Lib.hid hK6; have HSO := Lib.hid hSo
        clear hS6 hK6 hSo hown HK HNW1 hb1 hb2 H1 H2
        have tok1 : True := trivial
        by_cases hpn : p = n
        · subst hpn
          go_wp2_with (at_builtin; have _t := tok1; refine wpList_append_own _ rfl _ _ 68 rfl (w.heap.size + 1) 73 i0 (.agg #[.int .i64 0, .int .i64 0]) 2 16 (by kernel_rfl) HI.out HZ0.out HZ1.out HZ2.out rfl (by decide) _ _ _ rfl HO.out ⟨W6.heap.size, 0, none⟩ 1 1 [.int .i64 p, .int .i64 d] rfl rfl HNW.out HL1.out (by unfold maxLen; omega) (by omega) (by simp; omega) ?_; intro v' W9 hown' hgrow hni; clear hni; obtain ⟨g9, cap9, hv9⟩ := own_sliceK hown'; subst hv9; obtain ⟨⟨⟨t1, t2⟩, hK9⟩, hvar⟩ := HK6.out.appended hgrow (by rw [HKK.out]; exact hown'); obtain ⟨t3, t4⟩ := hvar _ _ _ HS6.out hSP HSO.out; have HK9 := Lib.hid hK9; clear hown' hgrow tok1 hvar hK9)
          go_roundw
          case rel => exact ⟨_, L ++ [(p, d)], by rw [List.length_append, HKK.out]; go_num, by rw [lastK_snoc, HLK.out, if_pos rfl], by rw [List.length_append, HKK.out]; simp; omega, by rw [List.length_append, HKK.out]; simp; omega, pos_snoc HPOS.out hp1, HK9.out⟩
          case measure => simp [intOf]; omega
        · skip
          go_wp2_with (at_builtin; have _t := tok1; refine wpList_append_own _ rfl _ _ 68 rfl (w.heap.size + 1) 73 i0 (.agg #[.int .i64 0, .int .i64 0]) 2 16 (by kernel_rfl) HI.out HZ0.out HZ1.out HZ2.out rfl (by decide) _ _ _ rfl HO.out ⟨W6.heap.size, 0, none⟩ 1 1 [.int .i64 p, .int .i64 d] rfl rfl HNW.out HL1.out (by unfold maxLen; omega) (by omega) (by simp; omega) ?_; intro v' W9 hown' hgrow hni; clear hni; obtain ⟨g9, cap9, hv9⟩ := own_sliceK hown'; subst hv9; obtain ⟨⟨⟨t1, t2⟩, hK9⟩, hvar⟩ := HK6.out.appended hgrow (by rw [HKK.out]; exact hown'); obtain ⟨t3, t4⟩ := hvar _ _ _ HS6.out hSP HSO.out; have HK9 := Lib.hid hK9; clear hown' hgrow tok1 hvar hK9)
          go_roundw
          case rel => exact ⟨_, L ++ [(p, d)], by rw [List.length_append, HKK.out]; go_num, by rw [lastK_snoc, HLK.out, if_neg hpn], by rw [List.length_append, HKK.out]; simp; omega, by rw [List.length_append, HKK.out]; simp; omega, pos_snoc HPOS.out hp1, HK9.out⟩
          case measure => simp [intOf]; omega
      · obtain ⟨p, cc, hv, hka⟩ := hK.slice
        subst hv
        obtain ⟨⟨x0, x1⟩, x2⟩ := hK.cells
        have cK1 := keep_q none 0 0 p cc L n wr (by omega) hka
        generalize lastK n L = lk at *
        have HK := Lib.hid hK; have HKA := Lib.hid hka
        obtain ⟨K, hKK⟩ : ∃ K, L.length = K := ⟨_, rfl⟩
        rw [hKK] at cK1 hlt hLN hLM x1
        rw [hKK]
        have CK1 := Lib.hid cK1
        clear hK hka cK1
        by_cases hlt1 : K < N
        · have d1 : decide (K < N) = true := decide_eq_true hlt1
          have g1 : (K : Int) < (N : Int) := by omega
          have g2 : ¬ ((K : Int) < (M : Int)) := by omega
          have d2 : decide (K < M) = false := decide_eq_false (by omega)
          go_wp2_with fail
          refine (CK1.out).mono ?_
          rintro e w1 ⟨rfl, hb1⟩
          have hK1 := HK.out.step hb1
          obtain ⟨⟨x0, x1⟩, x2⟩ := hK1.cells
          have cK2 := keep_q none 0 0 p cc L 0 w1 (by omega) (HKA.out.step hb1)
          rw [lastK_zero L HPOS.out] at cK2
          rw [hKK] at cK2
          have CK2 := Lib.hid cK2; have HK1 := Lib.hid hK1
          clear hK1 cK2 hb1
          go_wp2_with fail
          refine (CK2.out).mono ?_
          rintro e w2 ⟨rfl, hb2⟩
          have HK2 := Lib.hid (HK1.out.step hb2)
          clear hb2
          go_wp2_with fail
          refine (awake18_any w2 (HT.out.step HK2.out.below)).mono ?_
          rintro e w3 ⟨rfl, hb3⟩
          have HK3 := Lib.hid (HK2.out.step hb3)
          clear hb3
          go_wp2_with fail
          go_ret
          exact ⟨rfl, HK3.out.below⟩
        · have d1 : decide (K < N) = false := decide_eq_false hlt1
          have g1 : ¬ ((K : Int) < (N : Int)) := by omega
          go_wp2_with fail
          refine (CK1.out).mono ?_
          rintro e w1 ⟨rfl, hb1⟩
          have hK1 := HK.out.step hb1
          obtain ⟨⟨x0, x1⟩, x2⟩ := hK1.cells
          have cK2 := keep_q none 0 0 p cc L 0 w1 (by omega) (HKA.out.step hb1)
          rw [lastK_zero L HPOS.out] at cK2
          rw [hKK] at cK2
          have CK2 := Lib.hid cK2; have HK1 := Lib.hid hK1
          clear hK1 cK2 hb1
          go_wp2_with fail
          refine (CK2.out).mono ?_
          rintro e w2 ⟨rfl, hb2⟩
          have HK2 := Lib.hid (HK1.out.step hb2)
          clear hb2
          go_wp2_with fail
          refine (awake18_any w2 (HT.out.step HK2.out.below)).mono ?_
          rintro e w3 ⟨rfl, hb3⟩
          have HK3 := Lib.hid (HK2.out.step hb3)
          clear hb3
          go_wp2_with fail
          go_ret
          exact ⟨rfl, HK3.out.below⟩
  · by_cases hN1 : N ≤ 60
    · have n1 : ¬ ((60 : Int) < (N : Int)) := by omega
      have n2 : (60 : Int) < (M : Int) := by omega
      have d1 : decide (60 < N) = false := decide_eq_false (by omega)
      have d2 : decide (60 < M) = true := decide_eq_true (by omega)
      clear hN
      go_enter Tryd.func10, Tryd.ntmps10
      go_wp2_with fail
      refine (awake18_any w HT.out).mono ?_
      rintro e w3 ⟨rfl, hb3⟩
      go_wp2_with fail
      go_ret
      exact ⟨rfl, hb3⟩
    · have n1 : (60 : Int) < (N : Int) := by omega
      have d1 : decide (60 < N) = true := decide_eq_true (by omega)
      clear hN
      go_enter Tryd.func10, Tryd.ntmps10
      go_wp2_with fail
      refine (awake18_any w HT.out).mono ?_
      rintro e w3 ⟨rfl, hb3⟩
      go_wp2_with fail
      go_ret
      exact ⟨rfl, hb3⟩
end Go.Proofs.YtdhochjcigingaaDoor
