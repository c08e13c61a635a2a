/- packages.Version. -/
import Derived.Test.YtdhochjcigingaaDoorPkS
import Derived.Laws.OwnMore
import Derived.OwnWalk
namespace Go.Proofs.YtdhochjcigingaaDoor
open Go.RowKit
set_option linter.all false

theorem info3 : (Tryd.prog.info? 3).map (fun i => (i.zero, i.size, i.bytes)) = some (some (.int .i64 0), 1, 8) := by kernel_rfl
def vi (l : List Int) : List Value := l.map (Value.int .i64)
theorem vi_one (l : List Int) : ∀ u ∈ vi l, u.oneCell' = true := by
  intro u hu
  obtain ⟨x, _, rfl⟩ := List.mem_map.1 hu
  rfl

theorem own_mono {W : World} {base base' : Nat} {e : TypeId} {size : Nat} {v : Value} {n : Nat} {xs : List Value} (h : W.ownsRow base e size v n xs) (hb : base' ≤ base) : W.ownsRow base' e size v n xs :=
  ⟨h.1, h.2.imp id fun ⟨g, cap, cur, a, b, c⟩ => ⟨g, cap, cur, a, Nat.le_trans hb b, c⟩⟩
theorem vi_snoc (P : List (List UInt8)) (k : Nat) (hk : k < P.length) : vi ((P.take (k + 1)).map numV) = vi ((P.take k).map numV) ++ [.int .i64 (numV (P.getD k []))] := by
  unfold vi
  rw [List.take_succ_eq_append_getElem hk, List.map_append, List.map_append, List.getD, List.getElem?_eq_getElem hk]
  rfl
/-- What Version reads: the numbers, or none. -/
def verOk (l : List UInt8) : Bool := decide (l.count 46 < 4) && (pieces l).all numB5
def verL (l : List UInt8) : List Int := (pieces l).map numV
def VerNo (w : World) (e : Ending) (w' : World) : Prop := e = .returned (.tuple #[.slice none 0 0, .int .i64 22]) ∧ Below w.heap.size w w'
def VerYes (L : List Int) (w : World) (e : Ending) (w' : World) : Prop := ∃ v, e = .returned (.tuple #[v, .int .i64 0]) ∧ w'.ownsRow w.heap.size 3 1 v L.length (vi L) ∧ Below w.heap.size w w'

set_option maxHeartbeats 1000000 in
theorem version_many (l : List UInt8) (hl : l.length ≤ 1000) (h : 4 ≤ l.count 46) (w : World) : Calls Tryd.prog 47 #[.string ⟨l.toArray⟩] w (VerNo w) := by
  have hd : decide ((4 : Int) ≤ ((l.count 46 : Nat) : Int)) = true := by rw [decide_eq_true_eq]; omega
  have cC := count_any l w
  generalize l.count 46 = K at *
  have CC := Lib.hid cC; clear cC
  go_enter Tryd.func47, Tryd.ntmps47
  go_wp2_with fail
  refine (CC.out).mono ?_
  rintro e w' ⟨rfl, rfl⟩
  go_wp2_with fail
  exact bodyPost_ret (v := .tuple #[.slice none 0 0, .int .i64 22]) (by simp [results, Tryd.results47, go_sem]) rfl ⟨rfl, Below.refl _ _⟩

/-- On the way: the pieces' block, the numbers so far. -/
structure VW (m : Int) (w : World) (P : List (List UInt8)) (k : Nat) (v : Value) (W : World) : Prop where
  box : W.heap[w.heap.size]? = some (.cells (P.map fun p => Value.string ⟨p.toArray⟩).toArray 9 (0, 0))
  own : W.ownsRow (w.heap.size + 1) 3 1 v k (vi ((P.take k).map numV))
  tabs : TabP m W
  below : Below w.heap.size w W
  lt : w.heap.size < W.heap.size
theorem VW.step {m : Int} {w : World} {P : List (List UInt8)} {k : Nat} {v : Value} {W W' : World} (h : VW m w P k v W) (hb : Below W.heap.size W W') : VW m w P k v W' :=
  ⟨(hb.block _ h.lt).trans h.box, own_below h.own hb, h.tabs.step hb, h.below.trans (hb.mono h.below.size), Nat.lt_of_lt_of_le h.lt hb.size⟩
theorem VW.piece {m : Int} {w : World} {P : List (List UInt8)} {k : Nat} {v : Value} {W : World} (h : VW m w P k v W) (j : Nat) (hj : j < P.length) : W.cell? ⟨w.heap.size, j, none⟩ = some (.string ⟨(P.getD j []).toArray⟩) := by
  rw [cell_of_row _ _ j _ _ _ h.box]
  simp [List.getD, hj]
theorem VW.grown {m : Int} {w : World} {P : List (List UInt8)} {k : Nat} {v v' : Value} {W W' : World} (h : VW m w P k v W) (h10 : 10 ≤ w.heap.size) (hg : W.grownBy W' v.ownBlock) (ho : W'.ownsRow (w.heap.size + 1) 3 1 v' (k + 1) (vi ((P.take (k + 1)).map numV))) : VW m w P (k + 1) v' W' := by
  have hlt := h.lt
  have hne : ∀ q, q ≤ w.heap.size → some q ≠ v.ownBlock := fun q hq e => by have := (h.own.lt q e.symm).1; omega
  have hb : Below w.heap.size W W' := ⟨hg.os, hg.tape, hg.output, hg.size, fun q hq => hg.block q (by omega) (hne q (by omega))⟩
  exact ⟨(hg.block _ hlt (hne _ (Nat.le_refl _))).trans h.box, ho, h.tabs.below hb h10, h.below.trans hb, Nat.lt_of_lt_of_le hlt hg.size⟩
def VRel (m : Int) (w : World) (P : List (List UInt8)) (vv iv : Value) (wr : World) : Prop := ∃ (k : Nat) (v : Value), v = vv ∧ iv = .int .i64 (k : Int) ∧ k ≤ P.length ∧ (∀ j, j < k → numB5 (P.getD j []) = true) ∧ VW m w P k v wr

def StrE (n : List UInt8) (w : World) (e : Ending) (w' : World) : Prop := e = .returned (.string ⟨n.toArray⟩) ∧ Below w.heap.size w w'
theorem itoa99999 : Lib.itoa 99999 = [57, 57, 57, 57, 57] := by rw [itoa5 _ (by omega) (by omega)]; rfl

set_option maxRecDepth 100000 in
set_option maxHeartbeats 4000000 in
theorem version_few {m : Int} (l : List UInt8) (hl : l.length ≤ 1000) (h : l.count 46 < 4) (w : World) (hT : TabP m w) :
    Calls Tryd.prog 47 #[.string ⟨l.toArray⟩] w (if (pieces l).all numB5 = true then VerYes (verL l) w else VerNo w) := by
  have hd : decide ((4 : Int) ≤ ((l.count 46 : Nat) : Int)) = false := by rw [decide_eq_false_iff_not]; omega
  have cC := count_any l w
  have cS := split_any l hl w hT
  have hpl := pieces_len _ l (Nat.le_refl _)
  have hps := pieces_short l
  unfold verL
  unfold SplP at cS
  obtain ⟨i0, hi, hz0, hz1, hz2⟩ := info_parts info3
  have HI := Lib.hid hi; have HZ0 := Lib.hid hz0; have HZ1 := Lib.hid hz1; have HZ2 := Lib.hid hz2
  clear hi hz0 hz1 hz2
  have hPs : ∀ j, ((pieces l).getD j []).length ≤ 1000 := fun j => by
    by_cases hj : j < (pieces l).length
    · rw [List.getD, List.getElem?_eq_getElem hj]
      have := hps _ (List.getElem_mem hj)
      simp only [Option.getD_some]; omega
    · rw [List.getD, List.getElem?_eq_none (by omega)]; simp
  generalize pieces l = P at *
  have hP4 : P.length ≤ 4 := by omega
  have hV0 : VW m w P 0 (.slice none 0 0) (w.alloc (.cells (P.map fun p => Value.string ⟨p.toArray⟩).toArray 9)) := ⟨heap_alloc_new _ _, World.ownsRow_nil _ _ _ _, hT.alloc _, (Below.refl _ _).alloc (Nat.le_refl _) _, by simp⟩
  obtain ⟨N, hN⟩ : ∃ N, P.length = N := ⟨_, rfl⟩
  rw [hN] at cS
  generalize l.count 46 = K at *
  have CC := Lib.hid cC; have CS := Lib.hid cS; have HN := Lib.hid hN; have HPS := Lib.hid hPs; have HV0 := Lib.hid hV0; have HT := Lib.hid hT
  clear cC cS hN hPs hpl hps hV0 hT
  have HYES := Lib.hid (show ∀ (v : Value) (W : World), (∀ j, j < N → numB5 (P.getD j []) = true) → VW m w P N v W → (if P.all numB5 = true then VerYes (P.map numV) w else VerNo w) (.returned (.tuple #[v, .int .i64 0])) W from fun v W hall hv => by
    rw [if_pos (List.all_eq_true.2 (fun x hx => by
      obtain ⟨j, hj, rfl⟩ := List.getElem_of_mem hx
      have := hall j (by rw [← HN.out]; exact hj)
      simpa [List.getD, hj] using this))]
    have ho := hv.own
    rw [List.take_of_length_le (by rw [HN.out]; exact Nat.le_refl _)] at ho
    refine ⟨v, rfl, ?_, hv.below⟩
    rw [List.length_map, HN.out]
    exact own_mono ho (Nat.le_succ _))
  have HNO := Lib.hid (show ∀ (j : Nat) (W : World), j < N → numB5 (P.getD j []) = false → Below w.heap.size w W → (if P.all numB5 = true then VerYes (P.map numV) w else VerNo w) (.returned (.tuple #[.slice none 0 0, .int .i64 22])) W from fun j W hj hb hw => by
    rw [if_neg (fun hall => by
      have := List.all_eq_true.1 hall (P[j]'(by rw [HN.out]; exact hj)) (List.getElem_mem _)
      simp [List.getD, show j < P.length by rw [HN.out]; exact hj] at hb
      rw [hb] at this; cases this)]
    exact ⟨rfl, hw⟩)
  generalize (if P.all numB5 = true then VerYes (P.map numV) w else VerNo w) = Post at *
  have hN4 : N ≤ 4 := by rw [← HN.out]; exact hP4
  clear hP4
  go_enter Tryd.func47, Tryd.ntmps47
  go_wp2_with fail
  refine (CC.out).mono ?_
  rintro e w' ⟨rfl, rfl⟩
  go_wp2_with fail
  refine (CS.out).mono ?_
  rintro e w1 ⟨rfl, rfl⟩
  go_wp2_with fail
  have h10 := HT.out.size
  go_loopw [4, 6, 7, 8, 15] (fun vv _ _ _ iv wr => VRel m w P vv iv wr) (fun _ _ _ _ iv _ => N - (intOf iv).toNat)
  case atStart => exact ⟨0, _, rfl, rfl, Nat.zero_le _, fun j hj => by omega, HV0.out⟩
  case round =>
    clear HV0 CC CS
    obtain ⟨k, v, rfl, rfl, hk, hall, hV⟩ := hrel
    rw [HN.out] at hk
    have HALL := Lib.hid hall; clear hall
    by_cases hlt : k < N
    · have hi0 : (0 : Int) ≤ (k : Int) := by omega
      have hi1 : (k : Int) < (N : Int) := by omega
      have hdk : decide ((k : Int) < (N : Int)) = true := by rw [decide_eq_true_eq]; omega
      have hc := hV.piece k (by rw [HN.out]; exact hlt)
      have cI := itoa_any 99999 (by omega) (by omega) wr hV.tabs
      rw [itoa99999] at cI
      change Calls Tryd.prog 66 _ wr (StrE [57, 57, 57, 57, 57] wr) at cI
      have cN := fun W (h : TabP m W) => number_any (P.getD k []) (HPS.out k) W h
      have hsn := vi_snoc P k (by rw [HN.out]; exact hlt)
      have hno := HNO.out k
      have hgt : ∀ q, numB5 (P.getD k []) = q → numB5 (P.getD k []) = q := fun _ h => h
      unfold NumP5 at cN
      generalize numV (P.getD k []) = x at *
      obtain ⟨b, hbq⟩ : ∃ b, numB5 (P.getD k []) = b := ⟨_, rfl⟩
      rw [hbq] at cN hno
      have HBQ := Lib.hid hbq
      have HBP := Lib.hid (show ∀ j, j = k → numB5 (P.getD j []) = b from fun j e => by rw [e, hbq])
      generalize P.getD k [] = pc at *
      have CI := Lib.hid cI; have CN := Lib.hid cN; have HSN := Lib.hid hsn; have HNOK := Lib.hid hno; have HV := Lib.hid hV
      clear cI cN hsn hno hgt hbq hV
      cases b
      · have HNF := Lib.hid (fun W hb => HNOK.out W hlt rfl hb)
        clear HNOK
        go_wp2_with fail
        refine (CI.out).mono ?_
        rintro e w1 ⟨rfl, hb1⟩
        have HV1 := Lib.hid (HV.out.step hb1); clear hb1
        go_wp2_with fail
        refine (CN.out _ HV1.out.tabs).mono ?_
        rintro e w2 ⟨he, hb2⟩
        subst he
        have HV2 := Lib.hid (HV1.out.step hb2); clear hb2
        go_wp2_with fail
        exact HNF.out _ HV2.out.below
      · go_wp2_with fail
        refine (CI.out).mono ?_
        rintro e w1 ⟨rfl, hb1⟩
        have HV1 := Lib.hid (HV.out.step hb1); clear hb1
        go_wp2_with fail
        refine (CN.out _ HV1.out.tabs).mono ?_
        rintro e w2 ⟨he, hb2⟩
        subst he
        have HV2 := Lib.hid (HV1.out.step hb2); clear hb2
        have HO3 := Lib.hid (HV2.out.own.alloc (.cells #[.int .i64 x] 3))
        have HB2 := Lib.hid (heap_alloc_new w2 (.cells #[.int .i64 x] 3))
        have HNW := Lib.hid (World.news_of_block (cs := #[.int .i64 x]) (t := 3) (fr := (0, 0)) HB2.out)
        have HA2 := Lib.hid (HV2.out.step ((Below.refl _ _).alloc (Nat.le_refl _) (.cells #[.int .i64 x] 3)))
        have HL1 := Lib.hid (vi_one [x])
        have hsz : w.heap.size < w2.heap.size := HV2.out.lt
        clear CI CN HNO HNOK HYES HV HV1
        have tok1 : True := trivial
        go_wp2_with (at_builtin; have _t := tok1; refine wpList_append_own _ rfl _ _ 40 rfl (w.heap.size + 1) 3 i0 (.int .i64 0) 1 8 (by kernel_rfl) HI.out HZ0.out HZ1.out HZ2.out rfl (by decide) _ _ _ rfl HO3.out ⟨w2.heap.size, 0, none⟩ 1 1 [.int .i64 x] rfl rfl HNW.out HL1.out (by unfold maxLen; omega) (by omega) (by simp; omega) ?_; intro v' W5 hown' hgrow _; have HOW := Lib.hid hown'; have HGR := Lib.hid hgrow; clear hown' hgrow)
        go_roundw
        case rel =>
          refine ⟨k + 1, v', rfl, by go_num, by rw [HN.out]; omega, fun j hj => ?_, ?_⟩
          · rcases Nat.lt_succ_iff_lt_or_eq.1 hj with h | h
            · exact HALL.out j h
            · exact HBP.out j h
          · exact HA2.out.grown h10 HGR.out (by rw [HSN.out]; exact HOW.out)
        case measure => simp [intOf]; omega
    · have hk2 : k = N := by omega
      subst hk2
      have HP := Lib.hid (HYES.out v wr HALL.out hV)
      clear hV
      go_wp2_with fail
      exact HP.out
end Go.Proofs.YtdhochjcigingaaDoor
