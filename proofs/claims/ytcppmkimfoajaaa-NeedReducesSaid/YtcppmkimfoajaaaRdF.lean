/- need.Reduce: its loop. -/
import Derived.Test.YtcppmkimfoajaaaRdE
namespace Go.Proofs.Ytcppmkimfoajaaa
open Go.RowKit
set_option linter.all false

def redF (B : Nat → Nat) (L : List Rq) : List Rq := L.filter fun r => !(L.any (behP B r))
def redK (B : Nat → Nat) (L : List Rq) (k : Nat) : List Rq := (L.take k).filter fun r => !(L.any (behP B r))
theorem redK_snoc (B : Nat → Nat) (L : List Rq) (k : Nat) (hk : k < L.length) : redK B L (k + 1) = if L.any (behP B (L.getD k rq0)) = true then redK B L k else redK B L k ++ [L.getD k rq0] := by
  unfold redK
  have : L.take (k + 1) = L.take k ++ [L.getD k rq0] := by
    rw [List.take_succ, List.getElem?_eq_getElem hk]
    simp [List.getD, hk]
  rw [this, List.filter_append]
  cases h : L.any (behP B (L.getD k rq0)) with
  | true => simp only [List.filter_cons, h, Bool.not_true, Bool.false_eq_true, if_false, List.filter_nil, List.append_nil, if_true]
  | false => simp only [List.filter_cons, h, Bool.not_false, if_true, List.filter_nil, Bool.false_eq_true, if_false]
theorem redK_length (B : Nat → Nat) (L : List Rq) (k : Nat) : (redK B L k).length ≤ L.length :=
  Nat.le_trans (List.length_filter_le _ _) (by rw [List.length_take]; exact Nat.min_le_right _ _)
def RedP (n : Nat) (L : List Rq) (w : World) (e : Ending) (w' : World) : Prop := ∃ a c B, e = .returned (.tuple #[.slice a (redF B L).length c, .int .i64 0]) ∧ (redF B L).length ≤ c ∧ ReqsAt w' a (redF B L) ∧ Below w.heap.size w w' ∧ (∀ i j, i < n → j < n → (bitM B i j = true ↔ Way L i j))

set_option maxRecDepth 100000 in
set_option maxHeartbeats 8000000 in
theorem reduce_any (a : Option Addr) (c : Nat) (L : List Rq) (n : Nat) (w : World) (h1 : 1 ≤ n) (hn : n ≤ 24) (hin : Inn n L) (hasc : AscR L) (hne : ∀ x ∈ L, x.1 ≠ x.2) (hno : ∀ i, i < n → ¬ Way L i i) (hl : L.length ≤ 900) (hL : ReqsAt w a L) :
    Calls Try.prog 16 #[.int .i64 (n : Int), .slice a L.length c] w (RedP n L w) := by
  obtain ⟨i0, hi0, hz0, hz1, hz2⟩ := info_parts info87
  have CK := Lib.hid (gcheck_any a c L n w h1 hn hin hasc hl hL)
  have CB := Lib.hid (fun W (hW : Below w.heap.size w W) => behind_any a c L n W h1 hn hin hl (hL.step hW))
  have CH := Lib.hid (fun R X b B r W (h : ClR W R X r b n B) (hsm : ∀ i, i < n → B i < 16777216) (hr : 0 ≤ r.2 ∧ r.2 < (n : Int)) (hW : Below w.heap.size w W) => redHas_any R X b n B r a c L W h hn hsm hr hin hl (hL.step hW))
  have HL := Lib.hid hL; have HIN := Lib.hid hin; have HNE := Lib.hid hne; have HNO := Lib.hid hno
  obtain ⟨N, hN⟩ : ∃ N, L.length = N := ⟨_, rfl⟩
  have HN := Lib.hid hN
  rw [hN] at hl CK CB CH ⊢
  obtain ⟨S0, hS0⟩ : ∃ S0, w.heap.size = S0 := ⟨_, rfl⟩
  have HS0 := Lib.hid hS0
  clear hL hN hin hasc hne hno hS0
  go_enter Try.func16, Try.ntmps16
  go_wp2_with fail
  refine (CK.out).mono ?_
  rintro e w1 ⟨r, rfl, hr, hb1⟩
  have hr0 : r = 0 := by
    rcases hr with ⟨⟨x, hx, e⟩, _⟩ | ⟨_, ⟨i, hi, hw⟩, _⟩ | ⟨_, _, h⟩
    · exact absurd e (HNE.out x hx)
    · exact absurd hw (HNO.out i hi)
    · exact h
  subst hr0
  have HB1 := Lib.hid hb1
  have CBX := Lib.hid (CB.out w1 hb1)
  clear hb1 hr CK CB
  go_wp2_with fail
  refine (CBX.out).mono ?_
  rintro e w2 ⟨bb, B, rfl, hBits, hW, hb2⟩
  have hb2' := HB1.out.trans (hb2.mono HB1.out.size)
  obtain ⟨X, hX⟩ : ∃ X, w2.heap.size = X := ⟨_, rfl⟩
  have hbX : Below w.heap.size w (w2.alloc (.cells #[.slice (some ⟨bb, 0, none⟩) n n] 91)) := hb2'.alloc hb2'.size _
  have hxh : (w2.alloc (.cells #[.slice (some ⟨bb, 0, none⟩) n n] 91)).heap[X]? = some (.cells #[.slice (some ⟨bb, 0, none⟩) n n] 91 (0, 0)) := by rw [← hX]; exact heap_alloc_new _ _
  have hrow : (w2.alloc (.cells #[.slice (some ⟨bb, 0, none⟩) n n] 91)).heap[bb]? = some (.cells (rowU n B) 94 (0, 0)) := by
    rw [heap_alloc_old _ _ (lt_of_heap hBits.row)]; exact hBits.row
  have HSM := Lib.hid hBits.small; have HW := Lib.hid hW; have HBX := Lib.hid hbX; have HXH := Lib.hid hxh; have HROW := Lib.hid hrow; have HXX := Lib.hid hX
  clear hb2 hb2' hBits hW hbX hxh hrow CBX
  go_wp2_with fail
  clear hX
  generalize (w2.alloc (.cells #[.slice (some ⟨bb, 0, none⟩) n n] 91)) = wX at *
  obtain ⟨S, hS⟩ : ∃ S, wX.heap.size = S := ⟨_, rfl⟩
  have HS := Lib.hid hS
  go_loopw [8, 23] (fun v kv wr => ∃ k : Nat, kv = .int .i64 (k : Int) ∧ k ≤ N ∧ wr.ownsRow S 87 2 v (redK B L k).length (flatR (redK B L k)) ∧ Below S wX wr) (fun _ kv _ => N - (intOf kv).toNat)
  case atStart => exact ⟨0, rfl, Nat.zero_le _, World.ownsRow_nil _ _ _ _, Below.refl _ _⟩
  case round =>
    obtain ⟨k, rfl, hk, hO, hb⟩ := hrel
    have hSw : S ≤ wr.heap.size := by have := hb.size; omega
    have hbW : Below w.heap.size w wr := HBX.out.trans (hb.mono (by have := HBX.out.size; omega))
    by_cases hlt : k < N
    · have hkl : k < L.length := by rw [HN.out]; exact hlt
      obtain ⟨b1, o1, hp1, c0, c1⟩ := HL.out k hkl
      subst hp1
      have c0 := cell_later' hbW c0
      have c1 := cell_later' hbW c1
      have hi0' : (0 : Int) ≤ (k : Int) := by omega
      have hi2 : (k : Int) < (N : Int) := by omega
      have hdd : decide (k < N) = true := decide_eq_true hlt
      have hsn := redK_snoc B L k hkl
      have hlen := redK_length B L k
      rw [HN.out] at hlen
      have hinx := HIN.out _ (getD_mem' hkl)
      obtain ⟨x, hx⟩ : ∃ x, L.getD k rq0 = x := ⟨_, rfl⟩
      rw [hx] at c0 c1 hsn hinx
      obtain ⟨R, hR⟩ : ∃ R, wr.heap.size = R := ⟨_, rfl⟩
      have hba : Below wr.heap.size wr (wr.alloc (.cells #[.int .i64 x.1, .int .i64 x.2] 87)) := (Below.refl _ _).alloc (Nat.le_refl _) _
      have hcl : ClR (wr.alloc (.cells #[.int .i64 x.1, .int .i64 x.2] 87)) R X x bb n B := by
        refine ⟨by rw [← hR]; exact heap_alloc_new _ _, ?_, ?_⟩
        · rw [hba.block _ (by have := lt_of_heap HXH.out; omega), hb.block _ (by have := lt_of_heap HXH.out; omega)]; exact HXH.out
        · rw [hba.block _ (by have := lt_of_heap HROW.out; omega), hb.block _ (by have := lt_of_heap HROW.out; omega)]; exact HROW.out
      have CHX := Lib.hid (CH.out R X bb B x _ hcl HSM.out ⟨hinx.2.2.1, hinx.2.2.2⟩ (hbW.trans (hba.mono hbW.size)))
      have HCL := Lib.hid hcl
      have HOA := Lib.hid (hO.alloc (.cells #[.int .i64 x.1, .int .i64 x.2] 87))
      have HBA := Lib.hid (hb.alloc hSw (.cells #[.int .i64 x.1, .int .i64 x.2] 87))
      have HSN := Lib.hid hsn; have HRR := Lib.hid hR; have HLEN := Lib.hid hlen
      obtain ⟨y, hy⟩ : ∃ y, L.any (behP B x) = y := ⟨_, rfl⟩
      rw [hy] at CHX HSN
      obtain ⟨x1, x2⟩ := x
      dsimp only at c0 c1 CHX HCL HOA HBA
      obtain ⟨P, hP⟩ : ∃ P, redK B L k = P := ⟨_, rfl⟩
      rw [hP] at HSN HOA HLEN hO
      have HPP := Lib.hid hP
      have hRS : S ≤ R := by omega
      clear hO hb hbW hsn hlen hinx hx hba hcl hy hP
      go_wp2_with fail
      clear hR c0 c1
      have hszA : (wr.alloc (.cells #[.int .i64 x1, .int .i64 x2] 87)).heap.size = R + 1 := by simp [HRR.out]
      generalize (wr.alloc (.cells #[.int .i64 x1, .int .i64 x2] 87)) = wA at *
      refine (CHX.out).mono ?_
      rintro e w3 ⟨rfl, hb3⟩
      have hbs := HBA.out.trans (hb3.mono (by omega))
      have HBS := Lib.hid hbs
      have ho3 : w3.ownsRow S 87 2 u8 P.length (flatR P) := HOA.out.kept (row := none) ⟨hb3.os, hb3.tape, hb3.output, hb3.size, fun k hk _ => hb3.block k hk⟩ (by
        cases hp : u8.ownBlock with
        | none => exact .inl rfl
        | some k => exact .inr fun e => by cases e)
      have HO3 := Lib.hid ho3
      have hrq := (HCL.out.step hb3).rq
      dsimp only at hrq
      have r0 := cell_of_row _ R 0 _ _ _ hrq
      have r1 := cell_of_row _ R 1 _ _ _ hrq
      simp at r0 r1
      have hsz3 : S ≤ w3.heap.size := by have := hb3.size; omega
      clear hb3 hbs ho3 hrq CHX HCL HOA HBA
      cases y with
      | true =>
        go_wp2_with fail
        go_roundw
        case rel => exact ⟨k + 1, by go_num, by omega, by rw [HSN.out, if_pos (by trivial)]; exact HO3.out, HBS.out⟩
        case measure => simp [intOf]; omega
      | false =>
        have hnew : (w3.alloc (.cells #[.int .i64 x1, .int .i64 x2] 87)).heap[w3.heap.size]? = some (.cells #[.int .i64 x1, .int .i64 x2] 87 (0, 0)) := heap_alloc_new _ _
        have HNEW := Lib.hid hnew
        clear hnew
        have tok1 : True := trivial
        go_wp2_with (first | (at_builtin; have _t := tok1; go_loud (refine wpList_apprq rfl (.tmp 32) (.tmp 34) (.inl ⟨_, rfl⟩) ⟨_, rfl⟩ rfl rfl S u8 P.length P [(x1, x2)] rfl (HO3.out.alloc _) (some ⟨w3.heap.size, 0, none⟩) 1 rfl (fun _ => ⟨_, rfl, World.news_of_block (cs := #[.int .i64 x1, .int .i64 x2]) HNEW.out⟩) (by have := HLEN.out; simp; omega) (by simp; omega) ?_); intro v3 w4 ho4 hg4 hb4; have HO4 := Lib.hid ho4; have HB4 := Lib.hid ((HBS.out.alloc hsz3 _).trans hb4); clear ho4 hg4 hb4 tok1))
        go_roundw
        case rel => exact ⟨k + 1, by go_num, by omega, by rw [HSN.out, if_neg (by decide), List.length_append]; exact HO4.out, HB4.out⟩
        case measure => simp [intOf]; omega
    · have hkN : k = N := by omega
      subst hkN
      have hdd : decide (k < k) = false := by simp
      have hni : ¬ (k : Int) < (k : Int) := by omega
      have hred : redK B L k = redF B L := by unfold redK redF; rw [List.take_of_length_le (by rw [HN.out]; exact Nat.le_refl _)]
      rw [hred] at hO
      obtain ⟨af, cf, ef, hcf, hRf, hbf⟩ := reqs_of_own hO rfl
      subst ef
      have HRf := Lib.hid hRf; have HCF := Lib.hid hcf; have HBW := Lib.hid hbW
      clear hO hb hbW hRf hcf hbf hred
      generalize hnn : (redF B L).length = nn at *
      have HNN := Lib.hid hnn
      clear hnn
      go_wp2_with fail
      exact bodyPost_ret (v := .tuple #[.slice af nn cf, .int .i64 0]) (by simp [results, Try.results16, go_sem]) rfl ⟨af, cf, B, by rw [HNN.out], by rw [HNN.out]; exact HCF.out, HRf.out, HBW.out, HW.out⟩
end Go.Proofs.Ytcppmkimfoajaaa
