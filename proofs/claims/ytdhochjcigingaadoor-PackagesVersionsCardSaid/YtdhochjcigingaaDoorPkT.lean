/- packages.Text. -/
import Derived.Test.YtdhochjcigingaaDoorPkV
namespace Go.Proofs.YtdhochjcigingaaDoor
open Go.RowKit
set_option linter.all false

theorem info9 : (Tryd.prog.info? 9).map (fun i => (i.zero, i.size, i.bytes)) = some (some (.string ⟨#[]⟩), 1, 16) := by kernel_rfl
def decT (n : Int) : List UInt8 := decD 5 n.toNat
def vs (l : List (List UInt8)) : List Value := l.map fun p => Value.string ⟨p.toArray⟩
theorem vs_one (l : List (List UInt8)) : ∀ u ∈ vs l, u.oneCell' = true := by
  intro u hu
  obtain ⟨x, _, rfl⟩ := List.mem_map.1 hu
  rfl
def txt (L : List Int) : List UInt8 := Lib.join (L.map decT) [46]
def TextNo (w : World) (e : Ending) (w' : World) : Prop := e = .returned (.tuple #[.string ⟨#[]⟩, .int .i64 22]) ∧ Below w.heap.size w w'
def TextYes (t : List UInt8) (w : World) (e : Ending) (w' : World) : Prop := e = .returned (.tuple #[.string ⟨t.toArray⟩, .int .i64 0]) ∧ Below w.heap.size w w'

set_option maxHeartbeats 1000000 in
theorem text_no (p : Option Addr) (c : Nat) (L : List Int) (w : World) (hl : L.length ≤ 500) (h : NumsAt w p L) (hv : verB L = false) : Calls Tryd.prog 50 #[.slice p L.length c] w (TextNo w) := by
  have cV := isver_any p c L w hl h
  rw [hv] at cV
  have CV := Lib.hid cV; clear cV h hv
  go_enter Tryd.func50, Tryd.ntmps50
  go_wp2_with fail
  refine (CV.out).mono ?_
  rintro e w' ⟨rfl, rfl⟩
  go_wp2_with fail
  exact bodyPost_ret (v := .tuple #[.string ⟨#[]⟩, .int .i64 22]) (by simp [results, Tryd.results50, go_sem]) rfl ⟨rfl, Below.refl _ _⟩

/-- On the way: the texts so far. -/
structure XW (m : Int) (w : World) (L : List Int) (k : Nat) (v : Value) (W : World) : Prop where
  own : W.ownsRow w.heap.size 9 1 v k (vs ((L.take k).map decT))
  tabs : TabP m W
  below : Below w.heap.size w W
theorem XW.step {m : Int} {w : World} {L : List Int} {k : Nat} {v : Value} {W W' : World} (h : XW m w L k v W) (hb : Below W.heap.size W W') : XW m w L k v W' :=
  ⟨own_below h.own hb, h.tabs.step hb, h.below.trans (hb.mono h.below.size)⟩
theorem XW.grown {m : Int} {w : World} {L : List Int} {k : Nat} {v v' : Value} {W W' : World} (h : XW m w L k v W) (h10 : 10 ≤ w.heap.size) (hg : W.grownBy W' v.ownBlock) (ho : W'.ownsRow w.heap.size 9 1 v' (k + 1) (vs ((L.take (k + 1)).map decT))) : XW m w L (k + 1) v' W' := by
  have hs := h.below.size
  have hne : ∀ q, q < w.heap.size → some q ≠ v.ownBlock := fun q hq e => by have := (h.own.lt q e.symm).1; omega
  have hb : Below w.heap.size W W' := ⟨hg.os, hg.tape, hg.output, hg.size, fun q hq => hg.block q (by omega) (hne q hq)⟩
  exact ⟨ho, h.tabs.below hb h10, h.below.trans hb⟩
def XRel (m : Int) (w : World) (L : List Int) (vv iv : Value) (wr : World) : Prop := ∃ (k : Nat) (v : Value), v = vv ∧ iv = .int .i64 (k : Int) ∧ k ≤ L.length ∧ XW m w L k v wr
theorem vs_snoc (L : List Int) (k : Nat) (hk : k < L.length) : vs ((L.take (k + 1)).map decT) = vs ((L.take k).map decT) ++ [.string ⟨(decT (L.getD k 0)).toArray⟩] := by
  unfold vs
  rw [List.take_succ_eq_append_getElem hk, List.map_append, List.map_append, List.getD, List.getElem?_eq_getElem hk]
  rfl
theorem lens_le : ∀ (l : List (List UInt8)), (∀ p ∈ l, p.length ≤ 5) → Lib.lens l ≤ 5 * l.length
  | [], _ => by simp [Lib.lens]
  | q :: l, h => by
    have h1 := h q List.mem_cons_self
    have h2 := lens_le l (fun p hp => h p (List.mem_cons_of_mem _ hp))
    unfold Lib.lens at *
    simp only [List.map_cons, List.sum_cons, List.length_cons]
    omega
theorem txt_len (L : List Int) : (txt L).length ≤ 6 * L.length := by
  unfold txt
  cases L with
  | nil => simp [Lib.join, List.intercalate]
  | cons n L =>
    rw [List.map_cons, Lib.join_length]
    have := lens_le (decT n :: L.map decT) (fun p hp => by
      rcases List.mem_cons.1 hp with rfl | hp
      · exact decD_len 5 _
      · obtain ⟨x, _, rfl⟩ := List.mem_map.1 hp
        exact decD_len 5 _)
    simp at this ⊢
    omega
theorem join_own {w W : World} {m : Int} {L : List Int} {v : Value} (h0 : 0 < L.length) (h4 : L.length ≤ 4) (h : XW m w L L.length v W) : Calls Tryd.prog 80 #[v, .string ⟨#[46]⟩] W fun e w' => e = .returned (.string ⟨(txt L).toArray⟩) ∧ Below W.heap.size W w' := by
  have ho := h.own
  rw [List.take_of_length_le (Nat.le_refl _)] at ho
  obtain ⟨g, cap, rfl, _, hlt⟩ := ho.form h0
  have hcap : L.length ≤ cap := by
    rcases ho.2 with ⟨e, _⟩ | ⟨g', cap', cur, e, _, _, h1, _⟩
    · cases e
    · injection e with e1 e2 e3; omega
  have hlen := txt_len L
  have e1 : ((L.map decT).map fun p => (⟨p.toArray⟩ : ByteArray)).map (·.data.toList) = L.map decT := by
    rw [List.map_map]
    conv => rhs; rw [← List.map_id (L.map decT)]
    rfl
  have hl1 : ((L.map decT).map fun p => (⟨p.toArray⟩ : ByteArray)).length = L.length := by simp
  have := Tryd.strings_Join g 0 cap ((L.map decT).map fun p => (⟨p.toArray⟩ : ByteArray)) ⟨#[46]⟩ W (fun j x hx => by
    have hj : j < L.length := by
      have := (List.getElem?_eq_some_iff.1 hx).1
      rwa [hl1] at this
    rw [Nat.zero_add, ho.cellAt j (by omega)]
    unfold vs
    rw [List.getElem?_map] at hx ⊢
    cases hq : (L.map decT)[j]? with
    | none => rw [hq] at hx; cases hx
    | some y => rw [hq] at hx; injection hx with hx; rw [← hx]; rfl) hlt (by rw [hl1]; omega) (by rw [hl1]; exact hcap) (by rw [e1]; show (txt L).length ≤ _; omega)
  rw [e1, hl1] at this
  exact this

set_option maxRecDepth 100000 in
set_option maxHeartbeats 4000000 in
theorem text_yes {m : Int} (p : Option Addr) (c : Nat) (L : List Int) (w : World) (hT : TabP m w) (h : NumsAt w p L) (hv : verB L = true) : Calls Tryd.prog 50 #[.slice p L.length c] w (TextYes (txt L) w) := by
  have hv' := hv
  unfold verB at hv'
  simp only [Bool.and_eq_true, decide_eq_true_eq] at hv'
  obtain ⟨hall, hL1, hL4⟩ := hv'
  have cV := isver_any p c L w (by omega) h
  rw [hv] at cV
  have hnum : ∀ j, j < L.length → 0 ≤ L.getD j 0 ∧ L.getD j 0 ≤ 99999 := fun j hj => by
    have := List.all_eq_true.1 hall (L[j]'hj) (List.getElem_mem _)
    have := of_decide_eq_true this
    rw [List.getD, List.getElem?_eq_getElem hj]
    exact this
  have h10 := hT.size
  have hX0 : XW m w L 0 (.slice none 0 0) w := ⟨World.ownsRow_nil _ _ _ _, hT, Below.refl _ _⟩
  have hJ := fun (W : World) (v : Value) (hx : XW m w L L.length v W) => join_own (by omega) hL4 hx
  have hsn := vs_snoc L
  obtain ⟨i0, hi, hz0, hz1, hz2⟩ := info_parts info9
  have HI := Lib.hid hi; have HZ0 := Lib.hid hz0; have HZ1 := Lib.hid hz1; have HZ2 := Lib.hid hz2
  clear hi hz0 hz1 hz2
  obtain ⟨N, hN⟩ : ∃ N, L.length = N := ⟨_, rfl⟩
  obtain ⟨f, hf⟩ : ∃ f : Nat → Int, f = fun j => L.getD j 0 := ⟨_, rfl⟩
  have HA := Lib.hid (show ∀ j, j < N → ∃ b o, p = some ⟨b, o, none⟩ ∧ w.cell? ⟨b, o + j, none⟩ = some (.int .i64 (f j)) from fun j hj => by rw [hf]; exact h j (by omega))
  have HNUM := Lib.hid (show ∀ j, j < N → 0 ≤ f j ∧ f j ≤ 99999 from fun j hj => by rw [hf]; exact hnum j (by omega))
  have HSN := Lib.hid (show ∀ k, k < N → vs ((L.take (k + 1)).map decT) = vs ((L.take k).map decT) ++ [.string ⟨(decT (f k)).toArray⟩] from fun k hk => by rw [hf]; exact hsn k (by omega))
  rw [hN] at cV hJ hL1 hL4
  have HJ := Lib.hid hJ; have CV := Lib.hid cV; have HX0 := Lib.hid hX0; have HN := Lib.hid hN
  generalize txt L = t at *
  rw [hN]
  clear hJ cV hX0 hN hnum hall h hv hsn hf hT
  go_enter Tryd.func50, Tryd.ntmps50
  go_wp2_with fail
  refine (CV.out).mono ?_
  rintro e w' ⟨rfl, rfl⟩
  go_wp2_with fail
  obtain ⟨wo, rfl⟩ : ∃ wo : World, wo = w := ⟨_, rfl⟩
  go_loopw [4, 6, 12] (fun vv _ iv wr => XRel m wo L vv iv wr) (fun _ _ iv _ => N - (intOf iv).toNat)
  case atStart => exact ⟨0, _, rfl, rfl, Nat.zero_le _, HX0.out⟩
  case round =>
    clear HX0 CV
    obtain ⟨k, v, rfl, rfl, hk, hX⟩ := hrel
    rw [HN.out] at hk
    by_cases hlt : k < N
    · obtain ⟨b, o, rfl, hc⟩ := HA.out k hlt
      have hc1 : wr.cell? ⟨b, o + k, none⟩ = some (.int .i64 (f k)) := cell_later' hX.below hc
      have hi0 : (0 : Int) ≤ (k : Int) := by omega
      have hi1 : (k : Int) < (N : Int) := by omega
      have hdk : decide ((k : Int) < (N : Int)) = true := by rw [decide_eq_true_eq]; omega
      obtain ⟨hn0, hn1⟩ := HNUM.out k hlt
      have cI := itoa_any (f k) hn0 hn1 wr hX.tabs
      have hs := HSN.out k hlt
      have he : Lib.itoa (f k) = decT (f k) := itoa5 _ hn0 hn1
      rw [he] at cI
      generalize decT (f k) = y at *
      generalize f k = x at *
      have CI := Lib.hid cI; have HS := Lib.hid hs; have HX := Lib.hid hX
      clear cI hs hX he hc
      go_wp2_with fail
      refine (CI.out).mono ?_
      rintro e w2 ⟨rfl, hb2⟩
      have HX2 := Lib.hid (HX.out.step hb2); clear hb2
      have HO3 := Lib.hid (HX2.out.own.alloc (.cells #[.string ⟨y.toArray⟩] 9))
      have HB2 := Lib.hid (heap_alloc_new w2 (.cells #[.string ⟨y.toArray⟩] 9))
      have HNW := Lib.hid (World.news_of_block (cs := #[.string ⟨y.toArray⟩]) (t := 9) (fr := (0, 0)) HB2.out)
      have HA2 := Lib.hid (HX2.out.step ((Below.refl _ _).alloc (Nat.le_refl _) (.cells #[.string ⟨y.toArray⟩] 9)))
      have HL1 := Lib.hid (vs_one [y])
      have hsz : wo.heap.size ≤ w2.heap.size := HX2.out.below.size
      clear CI HX HJ HA HNUM HSN
      have tok1 : True := trivial
      go_wp2_with (at_builtin; have _t := tok1; refine wpList_append_own _ rfl _ _ 61 rfl wo.heap.size 9 i0 (.string ⟨#[]⟩) 1 16 (by kernel_rfl) HI.out HZ0.out HZ1.out HZ2.out rfl (by decide) _ _ _ rfl HO3.out ⟨w2.heap.size, 0, none⟩ 1 1 [.string ⟨y.toArray⟩] rfl rfl HNW.out HL1.out (by unfold maxLen; omega) (by omega) (by simp; omega) ?_; intro v' W5 hown' hgrow _; have HOW := Lib.hid hown'; have HGR := Lib.hid hgrow; clear hown' hgrow)
      go_roundw
      case rel => exact ⟨k + 1, v', rfl, by go_num, by rw [HN.out]; omega, HA2.out.grown h10 HGR.out (by rw [HS.out]; exact HOW.out)⟩
      case measure => simp [intOf]; omega
    · have hk2 : k = N := by omega
      subst hk2
      have HB := Lib.hid hX.below
      have CJ := Lib.hid (HJ.out wr v hX)
      clear hX HJ HA HNUM HSN
      go_wp2_with fail
      refine (CJ.out).mono ?_
      rintro e w2 ⟨rfl, hb2⟩
      have HB2 := Lib.hid (HB.out.trans (hb2.mono HB.out.size)); clear hb2
      go_wp2_with fail
      exact bodyPost_ret (v := .tuple #[.string ⟨t.toArray⟩, .int .i64 0]) (by simp [results, Tryd.results50, go_sem]) rfl ⟨rfl, HB2.out⟩
end Go.Proofs.YtdhochjcigingaaDoor
