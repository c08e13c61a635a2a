/- journal.Decode. -/
import Derived.Test.YtogcpjkgliijmaaWritten
import Derived.Laws.CopyRow
import Derived.Deep.RegionHeld3
import Derived.Deep.DrawnRows
namespace Go.Proofs.Ytogcpjkgliijmaa
open Go.RowKit
attribute [local go_sem ↓] Go.wp_at_zero Go.wp_at_succ

theorem run_copy_str (W : World) (B : Nat) (l : List UInt8) (hl : l.length = 12) (hB : BBlk W B 84 l) (s : ByteArray) (n : Nat) (hn : Nat.min s.size 12 = n) (ty : TypeId) :
    (Builtin.copy_ #[60, 9] ty #[.slice (some ⟨B, 0, none⟩) 12 12, .string s]).run Try.prog W = .ok (goInt n) (W.setRow B (((s.data.toList.take n) ++ l.drop n).map byteV).toArray) := by
  have hu : Try.prog.underlying 60 = some (.slice 5) := by kernel_rfl
  have hs : (Try.prog.info? 5).map (·.size) = some 1 := by kernel_rfl
  have hsz : s.data.toList.length = s.size := Array.length_toList
  have hnl : n ≤ s.size := by rw [← hn]; exact Nat.min_le_left _ _
  have hn12 : n ≤ 12 := by rw [← hn]; exact Nat.min_le_right _ _
  have hlen : ((s.data.toList.take n).map byteV).length = n := by simp; omega
  have hst := run_storeCells_at Try.prog B 0 84 ((s.data.toList.take n).map byteV) 0 (l.map byteV).toArray W hB (by rw [hlen]; simp [hl]; omega) (by
    intro v hv
    simp only [List.mem_map] at hv
    obtain ⟨b, _, rfl⟩ := hv
    rfl)
  rw [hlen] at hst
  simp only [Nat.add_zero, Nat.zero_add, List.take_zero, List.nil_append] at hst
  have htk : List.take n (List.map (fun b : UInt8 => Value.int IntKind.u8 (b.toNat : Int)) s.data.toList) = (s.data.toList.take n).map byteV := by
    rw [List.map_take]; rfl
  have he : ((s.data.toList.take n).map byteV ++ ((l.map byteV).toArray.toList).drop n).toArray = (((s.data.toList.take n) ++ l.drop n).map byteV).toArray := by
    rw [List.map_append, List.map_drop]
  rw [he] at hst
  cases hq : Try.prog.info? 5 with
  | none => simp [hq] at hs
  | some i =>
    simp [Builtin.copy_, run_underlying hu, Builtin.lenOf, Builtin.firstCells, sizeOf, typeInfo, hq, hn]
    rw [htk, hst]
    simp [Result.andThen]

theorem wpList_copy_run {P : Program} {w : World} {ops : Array Oper} {rest : List Oper} {o : Oper} {a : Act} {Q : Exit → Act → World → Prop} (hgd : o.guard = none) (d s : Operand) (dT sT : TypeId)
    (ho : o.op = .call { callee := .builtin .copy, args := #[d, s], argTypes := #[dT, sT] }) (vd vs : Value) (hd : a.eval d = vd) (hs : a.eval s = vs) {v : Value} {w' : World}
    (hrun : (Builtin.copy_ #[dT, sT] o.type #[vd, vs]).run P w = .ok v w') (h : wpList P ops Q rest (a.put o.dst v) w') : wpList P ops Q (o :: rest) a w := by
  refine wpList_plain hgd fun K hK => ?_
  unfold Oper.wp
  simp [execOp, ho, resolve, invoke, builtin, hd, hs, hrun, Result.andThen]
  exact hK _ _ h

theorem bblk_setRow {W : World} {B : Nat} {t : TypeId} {l l' : List UInt8} (h : BBlk W B t l) : BBlk (W.setRow B ((l'.map byteV).toArray)) B t l' := setRow_heap W B _ _ t _ h

theorem res53_run {W : World} {b : Nat} {d : Dec} {n e : Int} {a : Act} (hh : W.heap[b]? = some (.cells (cells5 d).toArray 27 (0, 0))) (ht : a.tmps.getD 4 undef = .pointer (some ⟨b, 0, none⟩)) (h5 : a.tmps.getD 5 undef = .int .i64 n) (h6 : a.tmps.getD 6 undef = .int .i64 e) :
    (results Try.f53 a.tmps).run Try.prog W = .ok (.tuple #[d.val, .int .i64 n, .int .i64 e]) W := by
  have e0 := cell_of_row _ b 0 _ _ _ hh
  have e1 := cell_of_row _ b 1 _ _ _ hh
  have e2 := cell_of_row _ b 2 _ _ _ hh
  have e3 := cell_of_row _ b 3 _ _ _ hh
  have e4 := cell_of_row _ b 4 _ _ _ hh
  unfold Dec.val
  simp [cells5] at e0 e1 e2 e3 e4 ht h5 h6
  clear hh
  simp [results, Try.results53, go_sem, ht, h5, h6, e0, e1, e2, e3, e4]

/-- On the way through Decode. -/
structure DI (w W : World) (R : Nat) : Prop where
  res : W.heap[R]? = some (.cells #[.int .i64 0, .int .i64 0, .int .i64 0, .int .i64 0, .int .i64 0] 27 (0, 0))
  below : Below w.heap.size w W
  eq : R = w.heap.size

theorem DI.cells {w W : World} {R : Nat} (h : DI w W R) : (W.cell? ⟨R, 0, none⟩ = some (.int .i64 0) ∧ W.cell? ⟨R, 1, none⟩ = some (.int .i64 0) ∧ W.cell? ⟨R, 2, none⟩ = some (.int .i64 0) ∧ W.cell? ⟨R, 3, none⟩ = some (.int .i64 0) ∧ W.cell? ⟨R, 4, none⟩ = some (.int .i64 0)) ∧ ∀ j, W.frozen? ⟨R, j, none⟩ = false := by
  have hr := h.res
  refine ⟨⟨?_, ?_, ?_, ?_, ?_⟩, fun j => by simp [World.frozen?, hr]⟩
  all_goals rw [cell_of_row W R _ _ 27 (0, 0) hr]; rfl

theorem DI.step {w W W' : World} {R : Nat} (h : DI w W R) (hb : Below W.heap.size W W') : DI w W' R :=
  ⟨(hb.block R (lt_of_heap h.res)).trans h.res, below_step h.below hb, h.eq⟩

theorem dec_fin {w W : World} {R : Nat} (d : Dec) {n e : Int} {a : Act} (h : DI w W R) (ht : a.tmps.getD 4 undef = .pointer (some ⟨R, 0, none⟩)) (h5 : a.tmps.getD 5 undef = .int .i64 n) (h6 : a.tmps.getD 6 undef = .int .i64 e) (hd : a.defers = []) :
    bodyPost Try.prog Try.f53 (fun r w' => r = .returned (.tuple #[d.val, .int .i64 n, .int .i64 e]) ∧ Below w.heap.size w w') .ret a (resW W R d.day d.known d.kind d.subj d.value) := by
  refine bodyPost_ret (res53_run (resW_heap d.day d.known d.kind d.subj d.value h.res) ht h5 h6) hd ⟨rfl, ?_⟩
  have he := h.eq
  unfold resW
  exact ((((h.below.setCell (by simp only; omega) _).setCell (by simp only; omega) _).setCell (by simp only; omega) _).setCell (by simp only; omega) _).setCell (by simp only; omega) _

theorem ext_list (s : List UInt8) (i : Nat) : ((⟨s.toArray⟩ : ByteArray).extract i s.length).data.toList = s.drop i := by
  simp [ByteArray.data_extract]
  exact List.take_of_length_le (by simp)

theorem readpart (W : World) (B lo m c : Nat) (b : List UInt8) (hB : BBlk W B 84 b) (hbl : b.length = 12) (h1 : lo + m ≤ 12) (h2 : m ≤ 4) :
    Calls Try.prog 66 #[.slice (some ⟨B, lo, none⟩) m c] W fun e w' => e = .returned (.int .i64 (valS ((b.drop lo).take m) : Nat)) ∧ w' = W :=
  read_any W B lo m c ((b.drop lo).take m) (by rw [List.length_take, List.length_drop, hbl]; omega) h2 (fun j hj => by
    have hj' : lo + j < b.length := by rw [List.length_take, List.length_drop, hbl] at hj; rw [hbl]; omega
    have e : ((b.drop lo).take m)[j] = b[lo + j] := by simp
    rw [e]; exact hB.cell (lo + j) hj')

set_option maxRecDepth 100000 in
set_option maxHeartbeats 8000000 in
theorem decode_walk (s : List UInt8) (i : Nat) (w : World) (hi : i ≤ s.length) (hs : s.length ≤ 100000) {D : Dec} {er n : Int} (hD : Hid (decAt s i = (D, er))) (hn : Hid (n = if er = 0 then (i : Int) + 12 else 0)) :
    Calls Try.prog 53 #[.string ⟨s.toArray⟩, .int .i64 i] w fun e w' => e = .returned (.tuple #[D.val, .int .i64 n, .int .i64 er]) ∧ Below w.heap.size w w' := by
  have f0 : decide ((i : Int) < 0) = false := by rw [decide_eq_false_iff_not]; omega
  have f1 : decide (s.length < i) = false := by rw [decide_eq_false_iff_not]; omega
  obtain ⟨R, hR⟩ : ∃ R, R = w.heap.size := ⟨_, rfl⟩
  have hI : DI w ((w.alloc (.cells #[.int .i64 0, .int .i64 0, .int .i64 0, .int .i64 0, .int .i64 0] 27)).alloc (.cells #[.int .u8 0, .int .u8 0, .int .u8 0, .int .u8 0, .int .u8 0, .int .u8 0, .int .u8 0, .int .u8 0, .int .u8 0, .int .u8 0, .int .u8 0, .int .u8 0] 84)) R := by
    subst hR
    refine ⟨?_, ((Below.refl _ _).alloc (Nat.le_refl _) _).alloc (by simp) _, rfl⟩
    rw [heap_alloc_old _ _ (by simp)]; exact heap_alloc_new _ _
  have hB : BBlk ((w.alloc (.cells #[.int .i64 0, .int .i64 0, .int .i64 0, .int .i64 0, .int .i64 0] 27)).alloc (.cells #[.int .u8 0, .int .u8 0, .int .u8 0, .int .u8 0, .int .u8 0, .int .u8 0, .int .u8 0, .int .u8 0, .int .u8 0, .int .u8 0, .int .u8 0, .int .u8 0] 84)) (R + 1) 84 (List.replicate 12 0) := by
    subst hR
    unfold BBlk
    rw [show w.heap.size + 1 = (w.alloc (.cells #[.int .i64 0, .int .i64 0, .int .i64 0, .int .i64 0, .int .i64 0] 27)).heap.size by simp]
    exact heap_alloc_new _ _
  have HI := Lib.hid hI; have HBB := Lib.hid hB; have HR := Lib.hid hR
  clear hI hB
  go_enter Try.func53, Try.ntmps53
  go_wp2_with fail
  rw [← hR]
  generalize (w.alloc (.cells #[.int .i64 0, .int .i64 0, .int .i64 0, .int .i64 0, .int .i64 0] 27)).alloc (.cells #[.int .u8 0, .int .u8 0, .int .u8 0, .int .u8 0, .int .u8 0, .int .u8 0, .int .u8 0, .int .u8 0, .int .u8 0, .int .u8 0, .int .u8 0, .int .u8 0] 84) = W at *
  clear hR
  refine wp_region_still_tail 4 (by kernel_rfl) (by kernel_rfl) ?_
  change wpStill _ _ W.drew (fun a' => wpList _ _ _ _ a' W.drew) _ _
  simp only [List.take_succ_cons, List.take_zero, List.drop_succ_cons, List.drop_zero]
  repeat still_step
  refine wpStill_nil ?_
  have hx := ext_list s i
  have hxs : ((⟨s.toArray⟩ : ByteArray).extract i s.length).size = s.length - i := by
    have e : ((⟨s.toArray⟩ : ByteArray).extract i s.length).size = ((⟨s.toArray⟩ : ByteArray).extract i s.length).data.toList.length := Array.length_toList.symm
    rw [e, hx]; simp
  generalize (⟨s.toArray⟩ : ByteArray).extract i s.length = x at *
  by_cases hsh : s.length < i + 12
  · have hrun := run_copy_str W.drew (R + 1) (List.replicate 12 0) (by simp) HBB.out x (s.length - i) (by rw [hxs]; exact Nat.min_eq_left (by omega)) 3
    have hd : decAt s i = (dz, 1) := by unfold decAt; rw [if_pos hsh]
    rw [hD.out] at hd
    injection hd with hd1 hd2
    subst hd1; subst hd2
    have hn0 : n = 0 := by rw [hn.out, if_neg (by decide)]
    subst hn0
    refine wpList_copy_run rfl _ _ 60 9 rfl _ _ rfl rfl hrun ?_
    have hDI : DI w (W.drew.setRow (R + 1) ((x.data.toList.take (s.length - i) ++ (List.replicate 12 (0 : UInt8)).drop (s.length - i)).map byteV).toArray) R := by
      have hb := HI.out.below
      refine ⟨(setRow_other _ _ _ _ (by omega)).trans HI.out.res, ⟨hb.os, hb.tape, hb.output, by simpa [World.setRow] using hb.size, fun k hk => (setRow_other _ _ _ _ (by have := HR.out; omega)).trans (hb.block k hk)⟩, HI.out.eq⟩
    generalize W.drew.setRow (R + 1) ((x.data.toList.take (s.length - i) ++ (List.replicate 12 (0 : UInt8)).drop (s.length - i)).map byteV).toArray = W2 at *
    obtain ⟨⟨y0, y1, y2, y3, y4⟩, yf⟩ := hDI.cells
    have HDI := Lib.hid hDI
    have f2 : decide (((s.length - i : Nat) : Int) < 12) = true := by rw [decide_eq_true_eq]; omega
    clear hDI hrun hD
    go_wp2_with fail
    exact dec_fin dz HDI.out rfl rfl rfl rfl
  · have hrun := run_copy_str W.drew (R + 1) (List.replicate 12 0) (by simp) HBB.out x 12 (by rw [hxs]; exact Nat.min_eq_right (by omega)) 3
    obtain ⟨b, hb⟩ : ∃ b, b = (s.drop i).take 12 := ⟨_, rfl⟩
    have hbl : b.length = 12 := by rw [hb]; simp; omega
    have e0 : (List.replicate 12 (0 : UInt8)).drop 12 = [] := rfl
    rw [hx, e0, List.append_nil, ← hb] at hrun
    clear e0
    have hd : decAt s i = dec12 b := by unfold decAt; rw [if_neg hsh, hb]
    rw [hD.out] at hd
    refine wpList_copy_run rfl _ _ 60 9 rfl _ _ rfl rfl hrun ?_
    have hDI : DI w (W.drew.setRow (R + 1) (b.map byteV).toArray) R := by
      have hb := HI.out.below
      refine ⟨(setRow_other _ _ _ _ (by omega)).trans HI.out.res, ⟨hb.os, hb.tape, hb.output, by simpa [World.setRow] using hb.size, fun k hk => (setRow_other _ _ _ _ (by have := HR.out; omega)).trans (hb.block k hk)⟩, HI.out.eq⟩
    have hBB : BBlk (W.drew.setRow (R + 1) (b.map byteV).toArray) (R + 1) 84 b := bblk_setRow (W := W.drew) HBB.out
    generalize W.drew.setRow (R + 1) (b.map byteV).toArray = W2 at *
    have HDI := Lib.hid hDI; have HB2 := Lib.hid hBB; have HBL := Lib.hid hbl; have HDD := Lib.hid hd
    clear hDI hBB hrun hD hb hbl hd hx hxs HBB HI
    go_wp2_with fail
    refine wp_region_still_tail 5 (by kernel_rfl) (by kernel_rfl) ?_
    change wpStill _ _ W2.drew (fun a' => wpList _ _ _ _ a' W2.drew) _ _
    have cR := read_any W2.drew (R + 1) 8 4 4 (b.drop 8) (by rw [List.length_drop, HBL.out]) (by decide) (fun j hj => by
      have hj' : 8 + j < b.length := by rw [List.length_drop, HBL.out] at hj; rw [HBL.out]; omega
      have e : (b.drop 8)[j] = b[8 + j] := by simp
      rw [e]; exact HB2.out.cell (8 + j) hj')
    have xc := conv_blk (P := Try.prog) (w := W2.drew) (k := 8) (c := 12) (show BBlk W2.drew (R + 1) 84 b from HB2.out) (by rw [HBL.out]; decide) 60 5 9 (by kernel_rfl) (by kernel_rfl) (by kernel_rfl)
    have cS := sum_any ⟨(b.take 8).toArray⟩ W2.drew (by rw [ba_size, List.length_take]; unfold maxLen; omega)
    change Calls Try.prog 55 _ _ fun e w' => e = .returned (.int .i64 (sumS (b.take 8) : Nat)) ∧ w' = W2.drew at cS
    simp only [List.take_succ_cons, List.take_zero, List.drop_succ_cons, List.drop_zero]
    repeat still_step
    still_call cR
    repeat still_step
    still_call cS
    repeat still_step
    refine wpStill_nil ?_
    clear xc cR cS
    have hDI3 : DI w W2.drew R := ⟨HDI.out.res, HDI.out.below.drew, HDI.out.eq⟩
    have HDI3 := Lib.hid hDI3
    have HB3 := Lib.hid (show BBlk W2.drew (R + 1) 84 b from HB2.out)
    generalize W2.drew = W3 at HDI3 HB3
    clear hDI3 HDI HB2
    by_cases hsum : valS (b.drop 8) = sumS (b.take 8)
    · have f3 : (((valS (b.drop 8) : Nat) : Int) != ((sumS (b.take 8) : Nat) : Int)) = false := by rw [hsum]; simp
      have hd : dec12 b = if (fieldsS b).ok = true then (fieldsS b, 0) else (dz, 57) := by unfold dec12; rw [if_pos hsum]
      have HD2 := Lib.hid (HDD.out.trans hd)
      clear hd hsum HDD
      go_wp2_with fail
      have hB3 : BBlk W3.drew (R + 1) 84 b := HB3.out
      obtain ⟨F, hF⟩ : ∃ F, F = fieldsS b := ⟨_, rfl⟩
      have e1 : ((valS (b.take 3) : Nat) : Int) = F.day := by rw [hF]; rfl
      have e2 : ((valS ((b.drop 3).take 2) : Nat) : Int) = F.known := by rw [hF]; rfl
      have e3 : ((valS ((b.drop 5).take 1) : Nat) : Int) = F.kind := by rw [hF]; rfl
      have e4 : ((valS ((b.drop 6).take 1) : Nat) : Int) = F.subj := by rw [hF]; rfl
      have e5 : ((valS ((b.drop 7).take 1) : Nat) : Int) = F.value := by rw [hF]; rfl
      rw [← hF] at HD2
      clear hF
      have HE := Lib.hid (And.intro e1 (And.intro e2 (And.intro e3 (And.intro e4 e5))))
      clear e1 e2 e3 e4 e5
      go_region_held3 (fun W => BBlk W (R + 1) 84 b) (first | assumption | exact BBlk.below (by assumption) ((Below.refl _ _).alloc (Nat.le_refl _) _) | exact HB3.out.below ((Below.refl W3.heap.size W3).alloc (Nat.le_refl _) _).drew)
        ((go_at_call 66; refine (readpart _ _ _ _ _ b (by assumption) HBL.out (by decide) (by decide)).mono ?_; rintro e w' ⟨rfl, rfl⟩))
      all_goals
        rw [HE.out.1, HE.out.2.1, HE.out.2.2.1, HE.out.2.2.2.1, HE.out.2.2.2.2]
        have hDI5 : DI w (W3.alloc (.cells #[.int .i64 F.day, .int .i64 F.known, .int .i64 F.kind, .int .i64 F.subj, .int .i64 F.value] 27)).drew R := HDI3.out.step ((Below.refl W3.heap.size W3).alloc (Nat.le_refl _) _).drew
        have q0 : (W3.alloc (.cells #[.int .i64 F.day, .int .i64 F.known, .int .i64 F.kind, .int .i64 F.subj, .int .i64 F.value] 27)).drew.cell? ⟨W3.heap.size, 0, none⟩ = some (.int .i64 F.day) := by simp
        have q1 : (W3.alloc (.cells #[.int .i64 F.day, .int .i64 F.known, .int .i64 F.kind, .int .i64 F.subj, .int .i64 F.value] 27)).drew.cell? ⟨W3.heap.size, 1, none⟩ = some (.int .i64 F.known) := by simp
        have q2 : (W3.alloc (.cells #[.int .i64 F.day, .int .i64 F.known, .int .i64 F.kind, .int .i64 F.subj, .int .i64 F.value] 27)).drew.cell? ⟨W3.heap.size, 2, none⟩ = some (.int .i64 F.kind) := by simp
        have q3 : (W3.alloc (.cells #[.int .i64 F.day, .int .i64 F.known, .int .i64 F.kind, .int .i64 F.subj, .int .i64 F.value] 27)).drew.cell? ⟨W3.heap.size, 3, none⟩ = some (.int .i64 F.subj) := by simp
        have q4 : (W3.alloc (.cells #[.int .i64 F.day, .int .i64 F.known, .int .i64 F.kind, .int .i64 F.subj, .int .i64 F.value] 27)).drew.cell? ⟨W3.heap.size, 4, none⟩ = some (.int .i64 F.value) := by simp
        generalize (W3.alloc (.cells #[.int .i64 F.day, .int .i64 F.known, .int .i64 F.kind, .int .i64 F.subj, .int .i64 F.value] 27)).drew = W5 at *
        generalize W3.heap.size = X at *
        have cV := jvalid_any F W5
        unfold Dec.val at cV
        have HDI5 := Lib.hid hDI5
        clear hDI5 hB3 HB3 HDI3 HE
        cases hok : F.ok
        · rw [hok] at cV
          have CV := Lib.hid cV
          have hd := HD2.out
          rw [hok, if_neg (by decide)] at hd
          injection hd with hd1 hd2
          subst hd1; subst hd2
          have hn0 : n = 0 := by rw [hn.out, if_neg (by decide)]
          subst hn0
          clear hok cV hn HD2
          go_wp2_with fail
          refine CV.out.mono ?_; rintro e W6 ⟨rfl, hb6⟩
          have hDI6 := HDI5.out.step hb6
          obtain ⟨⟨y0, y1, y2, y3, y4⟩, yf⟩ := hDI6.cells
          have HDI6 := Lib.hid hDI6
          clear hDI6 hb6 CV q0 q1 q2 q3 q4
          go_wp2_with fail
          exact dec_fin dz HDI6.out rfl rfl rfl rfl
        · rw [hok] at cV
          have CV := Lib.hid cV
          have hd := HD2.out
          rw [hok, if_pos rfl] at hd
          injection hd with hd1 hd2
          subst hd1; subst hd2
          have hn0 : n = (i : Int) + 12 := by rw [hn.out, if_pos rfl]
          subst hn0
          clear hok cV hn HD2
          go_wp2_with fail
          refine CV.out.mono ?_; rintro e W6 ⟨rfl, hb6⟩
          have hDI6 := HDI5.out.step hb6
          obtain ⟨⟨y0, y1, y2, y3, y4⟩, yf⟩ := hDI6.cells
          have z0 := cell_later hb6 q0
          have z1 := cell_later hb6 q1
          have z2 := cell_later hb6 q2
          have z3 := cell_later hb6 q3
          have z4 := cell_later hb6 q4
          have HDI6 := Lib.hid hDI6
          clear hDI6 hb6 CV q0 q1 q2 q3 q4
          go_wp2_with fail
          exact dec_fin D HDI6.out rfl rfl rfl rfl
    · have f3 : (((valS (b.drop 8) : Nat) : Int) != ((sumS (b.take 8) : Nat) : Int)) = true := by rw [bne_iff_ne]; omega
      have hd : dec12 b = (dz, 58) := by unfold dec12; rw [if_neg hsum]
      have hd2 := HDD.out.trans hd
      injection hd2 with hd1 hd2
      subst hd1; subst hd2
      have hn0 : n = 0 := by rw [hn.out, if_neg (by decide)]
      subst hn0
      obtain ⟨⟨y0, y1, y2, y3, y4⟩, yf⟩ := HDI3.out.cells
      clear hd hsum HDD hn
      go_wp2_with fail
      exact dec_fin dz HDI3.out rfl rfl rfl rfl
end Go.Proofs.Ytogcpjkgliijmaa
