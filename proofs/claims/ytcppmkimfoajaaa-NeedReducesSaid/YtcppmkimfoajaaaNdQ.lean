/- need.sorted. -/
import Derived.Test.YtcppmkimfoajaaaNdP
import Derived.Test.YtcppmkimfoajaaaNdE
import Derived.Test.YtcppmkimfoajaaaNdR
namespace Go.Proofs.Ytcppmkimfoajaaa
open Go.RowKit
set_option linter.all false

theorem size_sortK_le {q n : Nat} {w w2 : World} {d' : Array Rq} {os : Array Obj} (h : w2 = Go.Proofs.sortWorldK encR 2 w q 0 n d' os) : w.heap.size ≤ w2.heap.size := by
  rw [h]; exact Go.Proofs.size_sortWorldK_c encR 2 w q 0 n d' os
theorem sorted_res {L : List Rq} {d' : Array Rq} (hp : Go.Sort.PermIn 0 L.toArray.size L.toArray d') (hs : Go.Sort.SortedIn lessB 0 d'.size d') : Go.Lib.compactUpTo d' d'.size = unionL L [] := by
  refine asc_ext (upTo_asc d' d'.size hs _ (Nat.le_refl _)) (unionL_asc _ _) fun x => ?_
  rw [upTo_mem, unionL_mem]
  have hper := hp.2.2
  rw [← hp.1] at hper
  have e1 : (d'.extract 0 d'.size).toList = d'.toList := by simp
  have e2 : (L.toArray.extract 0 d'.size).toList = L := by rw [hp.1]; simp
  rw [e1, e2] at hper
  have hm := hper.mem_iff (a := x)
  simp only [List.not_mem_nil, or_false]
  rw [← hm, Array.mem_toList_iff]
  constructor
  · rintro ⟨j, hj, e⟩
    rw [← e, getElem!_pos d' j hj]
    exact Array.getElem_mem hj
  · intro h
    obtain ⟨j, hj, e⟩ := Array.getElem_of_mem h
    exact ⟨j, hj, by rw [getElem!_pos d' j hj, e]⟩
set_option maxRecDepth 100000 in
set_option maxHeartbeats 4000000 in
theorem sorted_some (a : Option Addr) (c : Nat) (L : List Rq) (w : World) (h0 : 0 < L.length) (hl : L.length ≤ 900) (hL : ReqsAt w a L) :
    Calls Try.prog 41 #[.slice a L.length c] w (LstP (unionL L []) w) := by
  have HL := Lib.hid hL
  obtain ⟨N, hN⟩ : ∃ N, L.length = N := ⟨_, rfl⟩
  have HN := Lib.hid hN
  rw [hN] at hl h0 ⊢
  clear hL hN
  go_enter Try.func41, Try.ntmps41
  go_wp2_with fail
  go_loopw [3, 5, 11] (fun v _ kv wr => ∃ k : Nat, kv = .int .i64 (k : Int) ∧ k ≤ N ∧ wr.ownsRow w.heap.size 120 2 v k (flatR (L.take k)) ∧ Below w.heap.size w wr) (fun _ _ kv _ => N - (intOf kv).toNat)
  case atStart => exact ⟨0, rfl, Nat.zero_le _, World.ownsRow_nil _ _ _ _, Below.refl _ _⟩
  case round =>
    obtain ⟨k, rfl, hk, hO, hb⟩ := hrel
    have hwl := hb.size
    by_cases hlt : k < N
    · obtain ⟨b1, o1, hp1, c0, c1⟩ := HL.out k (by rw [HN.out]; exact hlt)
      subst hp1
      have c0 := cell_later' hb c0
      have c1 := cell_later' hb c1
      have hi0 : (0 : Int) ≤ (k : Int) := by omega
      have hi2 : (k : Int) < (N : Int) := by omega
      have hdd : decide (k < N) = true := decide_eq_true hlt
      have htk : L.take (k + 1) = L.take k ++ [L.getD k rq0] := by
        rw [List.take_succ, List.getElem?_eq_getElem (by rw [HN.out]; exact hlt)]
        simp [List.getD, HN.out, hlt]
      obtain ⟨x, hx⟩ : ∃ x, L.getD k rq0 = x := ⟨_, rfl⟩
      rw [hx] at c0 c1 htk
      obtain ⟨x1, x2⟩ := x
      dsimp only at c0 c1
      have HTK := Lib.hid htk; have HO := Lib.hid hO; have HBE := Lib.hid hb
      clear htk hO hb hx
      have hnew : ((wr.alloc (.cells #[.int .i64 x1, .int .i64 x2] 87)).alloc (.cells #[.int .i64 x1, .int .i64 x2] 120)).heap[wr.heap.size + 1]? = some (.cells #[.int .i64 x1, .int .i64 x2] 120) := by
        have := heap_alloc_new (wr.alloc (.cells #[.int .i64 x1, .int .i64 x2] 87)) (.cells #[.int .i64 x1, .int .i64 x2] 120)
        simpa using this
      have HNEW := Lib.hid hnew
      clear hnew
      have tok1 : True := trivial
      go_wp2_with (first | (at_builtin; have _t := tok1; go_loud (refine wpList_apprq' rfl (.tmp 15) (.tmp 17) (.inl ⟨_, rfl⟩) ⟨_, rfl⟩ rfl rfl w.heap.size u3 k (L.take k) [(x1, x2)] rfl ((HO.out.alloc _).alloc _) (some ⟨wr.heap.size + 1, 0, none⟩) 1 rfl (fun _ => ⟨_, rfl, World.news_of_block (cs := #[.int .i64 x1, .int .i64 x2]) HNEW.out⟩) (by simp; omega) (by simp; omega) ?_); intro v3 w3 ho3 hg3 hb3; have HO3 := Lib.hid ho3; have HB3 := Lib.hid (((HBE.out.alloc hwl _).alloc (by simp; omega) _).trans hb3); clear ho3 hg3 hb3 tok1))
      go_roundw
      case rel => exact ⟨k + 1, by go_num, by omega, by have := HO3.out; rw [HTK.out]; exact this, HB3.out⟩
      case measure => simp [intOf]; omega
    · have hkN : k = N := by omega
      subst hkN
      have hdd : decide (k < k) = false := by simp
      have hni : ¬ (k : Int) < (k : Int) := by omega
      rw [List.take_of_length_le (by rw [HN.out]; exact Nat.le_refl _)] at hO
      obtain ⟨q, cq, hv, hcq, hbq, hqs, hR⟩ := rowR_of_own hO HN.out h0
      subst hv
      have hsz : L.toArray.size = k := by rw [List.size_toArray, HN.out]
      have cs := sortFunc_any q cq L.toArray wr hR hqs (by omega)
      rw [hsz] at cs
      have CS := Lib.hid cs; have HBE := Lib.hid hb; have HR0 := Lib.hid hR; have HSZ := Lib.hid hsz; have HBQ := Lib.hid hbq; have HQS := Lib.hid hqs
      clear cs hb hR hO hsz hbq hqs
      go_wp2_with fail
      refine (CS.out).mono ?_
      rintro e w2 ⟨rfl, d', n, os, hp, hso, hw2⟩
      have r2 := rowR_sortK (n := n) (os := os) HR0.out HQS.out hp.1
      have b2 := HBE.out.trans (below_sortK (n := n) (d' := d') (os := os) HBQ.out HQS.out)
      rw [← hw2] at r2 b2
      have hqs2 : q < w2.heap.size := by have := size_sortK_le hw2; have := HQS.out; omega
      have hdz : d'.size = k := hp.1.trans HSZ.out
      have cc := compact_any w.heap.size q cq d' w2 HBQ.out hqs2 (by omega) (by omega) r2
      have hres : Go.Lib.compactUpTo d' d'.size = unionL L [] := sorted_res (by rw [HSZ.out]; exact hp) (by rw [hdz]; exact hso)
      rw [hres, hdz] at cc
      have CC := Lib.hid cc; have HB2 := Lib.hid b2
      clear cc b2 r2 hres hp hso hw2 hqs2 hdz CS HBE HR0 HSZ HQS
      go_wp2_with fail
      refine (CC.out).mono ?_
      rintro e w3 ⟨c3, rfl, hc3, hr3, hb3⟩
      have HB3 := Lib.hid (HB2.out.trans hb3); have HR3 := Lib.hid hr3; have HC3 := Lib.hid hc3
      clear hc3 hr3 hb3
      obtain ⟨U, hU⟩ : ∃ U, unionL L [] = U := ⟨_, rfl⟩
      have hul : U.length ≤ 900 := by
        rw [← hU]
        have h1 := foldP_length (foldP [] L) []
        have h2 := foldP_length [] L
        unfold unionL
        simp at h1 h2
        have := HN.out
        omega
      rw [hU] at HR3 HC3 ⊢
      obtain ⟨M, hM⟩ : ∃ M, U.length = M := ⟨_, rfl⟩
      rw [hM] at hul HC3 ⊢
      have HM := Lib.hid hM; have HU := Lib.hid hU
      clear hM hU
      go_wp2_with fail
      go_loopw [6, 8, 25] (fun v _ kv wr => ∃ j : Nat, kv = .int .i64 (j : Int) ∧ j ≤ M ∧ wr.ownsRow w3.heap.size 87 2 v j (flatR (U.take j)) ∧ Below w3.heap.size w3 wr) (fun _ _ kv _ => M - (intOf kv).toNat)
      case atStart => exact ⟨0, rfl, Nat.zero_le _, World.ownsRow_nil _ _ _ _, Below.refl _ _⟩
      case round =>
        obtain ⟨j, rfl, hj, hO, hb⟩ := hrel
        have hwl := hb.size
        by_cases hlt : j < M
        · obtain ⟨b1, o1, hp1, c0, c1⟩ := HR3.out j (by rw [HM.out]; exact hlt)
          injection hp1 with hp1
          injection hp1 with e1 e2
          subst e1
          subst e2
          have c0 := cell_later' hb c0
          have c1 := cell_later' hb c1
          simp only [Nat.zero_add] at c0 c1
          have hi0 : (0 : Int) ≤ (j : Int) := by omega
          have hi2 : (j : Int) < (M : Int) := by omega
          have hdd : decide (j < M) = true := decide_eq_true hlt
          have htk : U.take (j + 1) = U.take j ++ [U.getD j rq0] := by
            rw [List.take_succ, List.getElem?_eq_getElem (by rw [HM.out]; exact hlt)]
            simp [List.getD, HM.out, hlt]
          obtain ⟨x, hx⟩ : ∃ x, U.getD j rq0 = x := ⟨_, rfl⟩
          rw [hx] at c0 c1 htk
          obtain ⟨x1, x2⟩ := x
          dsimp only at c0 c1
          have HTK := Lib.hid htk; have HO := Lib.hid hO; have HBE := Lib.hid hb
          clear htk hO hb hx
          have hnew : ((wr.alloc (.cells #[.int .i64 x1, .int .i64 x2] 120)).alloc (.cells #[.int .i64 x1, .int .i64 x2] 87)).heap[wr.heap.size + 1]? = some (.cells #[.int .i64 x1, .int .i64 x2] 87) := by
            have := heap_alloc_new (wr.alloc (.cells #[.int .i64 x1, .int .i64 x2] 120)) (.cells #[.int .i64 x1, .int .i64 x2] 87)
            simpa using this
          have HNEW := Lib.hid hnew
          clear hnew
          have tok1 : True := trivial
          go_wp2_with (first | (at_builtin; have _t := tok1; go_loud (refine wpList_apprq rfl (.tmp 29) (.tmp 31) (.inl ⟨_, rfl⟩) ⟨_, rfl⟩ rfl rfl w3.heap.size u6 j (U.take j) [(x1, x2)] rfl ((HO.out.alloc _).alloc _) (some ⟨wr.heap.size + 1, 0, none⟩) 1 rfl (fun _ => ⟨_, rfl, World.news_of_block (cs := #[.int .i64 x1, .int .i64 x2]) HNEW.out⟩) (by simp; omega) (by simp; omega) ?_); intro v4 w4 ho4 hg4 hb4; have HO4 := Lib.hid ho4; have HB4 := Lib.hid (((HBE.out.alloc hwl _).alloc (by simp; omega) _).trans hb4); have HG4 := Lib.hid hg4; clear ho4 hg4 hb4 tok1))
          go_roundw
          case rel => exact ⟨j + 1, by go_num, by omega, by have := HO4.out; rw [HTK.out]; exact this, HB4.out⟩
          case measure => simp [intOf]; omega
        · have hjM : j = M := by omega
          subst hjM
          have hdd : decide (j < j) = false := by simp
          have hni : ¬ (j : Int) < (j : Int) := by omega
          rw [List.take_of_length_le (by rw [HM.out]; exact Nat.le_refl _)] at hO
          obtain ⟨af, cf, ef, hcf, hRf, hbf⟩ := reqs_of_own hO HM.out
          have HRf := Lib.hid hRf; have HCf := Lib.hid hcf; have HBE := Lib.hid hb; have HBF := Lib.hid hbf
          subst ef
          clear hO hb hRf hcf hbf
          go_wp2_with fail
          go_ret
          rw [HU.out]
          exact ⟨af, cf, by rw [HM.out]; rfl, by rw [HM.out]; exact HCf.out, HRf.out, HB3.out.trans (HBE.out.mono HB3.out.size), fun b o e => Nat.le_trans HB3.out.size (HBF.out b o e)⟩
end Go.Proofs.Ytcppmkimfoajaaa
