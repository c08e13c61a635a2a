/- slices.Compact of requirements. -/
import Derived.Test.YtcppmkimfoajaaaNdJ
import Derived.Shelf.SlSortCmp.InsertionK
namespace Go.Proofs.Ytcppmkimfoajaaa
open Go.RowKit Go.Lib
set_option linter.all false

theorem below_setCells {n q : Nat} {w : World} (hn : n ≤ q) : ∀ (vs : List Value) (s : Nat) (W : World), Below n w W → Below n w (W.setCells q s vs)
  | [], _, _, h => h
  | v :: r, s, W, h => by
    rw [World.setCells]
    exact below_setCells hn r (s + 1) _ (h.setCell hn v)
theorem info120 : (Try.prog.info? 120).map (fun i => (i.zero, i.size, i.bytes)) = some (some (.agg #[.int .i64 0, .int .i64 0]), 2, 16) := by kernel_rfl
theorem clear_row {W : World} {q : Nat} {d : Array Rq} (cap : Nat) (h : RowR W q d) {kk : Nat} (hk : kk < d.size) : ∃ vs : List Value, vs.length = (d.size - kk) * 2 ∧ ∀ ty, (Builtin.clear_ #[119] ty #[.slice (some ⟨q, kk * 2, none⟩) (d.size - kk) (cap - kk)]).run Try.prog W = .ok (.tuple #[]) (W.setCells q (kk * 2) vs) := by
  obtain ⟨i0, hi, hz0, hz1, hz2⟩ := info_parts info120
  have hv : ∀ w, (zeroValue 120).run Try.prog w = .ok (.agg #[.int .i64 0, .int .i64 0]) w := fun w => by simp [zeroValue, typeInfo, hi, hz0]
  have hl : (Builtin.zeroCells (Value.agg #[.int .i64 0, .int .i64 0]).cells (d.size - kk)).toList.length = (d.size - kk) * 2 := by
    rw [Array.length_toList, size_zeroCells]; rfl
  refine ⟨_, hl, fun ty => run_clear_cells W 119 120 ty (.agg #[.int .i64 0, .int .i64 0]) (by kernel_rfl) hv q (kk * 2) _ _ (by omega) _ rfl ?_ ?_ ?_⟩
  · intro v hv
    simp only [Builtin.zeroCells, Array.toList_map, List.mem_map] at hv
    obtain ⟨i, _, rfl⟩ := hv
    rcases Nat.mod_two_eq_zero_or_one i with e | e
    · show (#[Value.int .i64 0, .int .i64 0][i % 2]!).oneCell' = true
      rw [e]; rfl
    · show (#[Value.int .i64 0, .int .i64 0][i % 2]!).oneCell' = true
      rw [e]; rfl
  · intro j hj
    rw [hl] at hj
    have := (h (kk * 2 + j) (by rw [Go.Sort.size_flatK]; omega)).1
    rw [Nat.zero_add] at this
    rw [this]; rfl
  · intro j hj
    rw [hl] at hj
    have := (h (kk * 2 + j) (by rw [Go.Sort.size_flatK]; omega)).2
    rw [Nat.zero_add] at this
    exact this

def CpcP (n q : Nat) (L : List Rq) (w : World) (e : Ending) (w' : World) : Prop := ∃ c, e = .returned (.slice (some ⟨q, 0, none⟩) L.length c) ∧ L.length ≤ c ∧ ReqsAt w' (some ⟨q, 0, none⟩) L ∧ Below n w w'

theorem setMany_set (d : Array Rq) (k : Nat) (hk : k < d.size) (x : Rq) : Go.Sort.setMany (Go.Sort.flatK encR 2 d) (k * 2) (encR x) = Go.Sort.flatK encR 2 (d.setIfInBounds k x) := by
  refine Go.Sort.ext_get! (by simp) fun t ht => ?_
  have ht' : t < d.size * 2 := by simpa using ht
  rw [Go.Sort.get_setMany _ _ _ t (by simpa using ht'), Go.Sort.get_flatK _ _ _ t ht', Go.Sort.get_flatK _ _ _ t (by simpa using ht')]
  have hlen : (encR x).length = 2 := rfl
  rw [hlen]
  by_cases a : t / 2 = k
  · have e1 : t - k * 2 = t % 2 := by omega
    rw [if_pos (by omega), a, Go.Sort.getElem!_set_same d k x hk, e1]
  · rw [if_neg (by omega), Go.Sort.getElem!_set_other d k _ x a]
theorem RowR.set {W : World} {q : Nat} {d : Array Rq} (h : RowR W q d) (k : Nat) (hk : k < d.size) (x1 x2 : Int) : RowR ((W.setCell ⟨q, k * 2, none⟩ (.int .i64 x1)).setCell ⟨q, k * 2 + 1, none⟩ (.int .i64 x2)) q (d.setIfInBounds k (x1, x2)) := by
  have := Go.Proofs.holds_setCells_c h (k * 2) (encR (x1, x2)) (by rw [Go.Sort.size_flatK]; show k * 2 + 2 ≤ _; omega)
  rw [setMany_set d k hk] at this
  simp only [Nat.zero_add] at this
  exact this
set_option maxRecDepth 100000 in
set_option maxHeartbeats 4000000 in
theorem compact_any (n q cap : Nat) (d : Array Rq) (w : World) (hn : n ≤ q) (hq : q < w.heap.size) (hl : d.size ≤ 1000) (hc : d.size ≤ cap) (h : RowR w q d) :
    Calls Try.prog 61 #[.slice (some ⟨q, 0, none⟩) d.size cap] w (CpcP n q (compactUpTo d d.size) w) := by
  obtain ⟨N, hN⟩ : ∃ N, d.size = N := ⟨_, rfl⟩
  have HR := Lib.hid h; have HN := Lib.hid hN
  rw [hN] at hl hc ⊢
  clear h hN
  by_cases h2 : N < 2
  · have e : compactUpTo d N = d.toList := by
      rw [← HN.out, compactUpTo_all d _ (fun j hj => keeps_lt_one d j (by have := HN.out; omega)), range_map_get]
    have hle : (compactUpTo d N).length = N := by rw [e]; simp [HN.out]
    have E := Lib.hid e; have HLE := Lib.hid hle
    have hi2 : (N : Int) < 2 := by omega
    clear e hle
    go_enter Try.func61, Try.ntmps61
    go_wp2_with fail
    go_ret
    refine ⟨cap, by rw [HLE.out]; rfl, by rw [HLE.out]; exact hc, ?_, Below.refl _ _⟩
    refine HR.out.reqs (by rw [HLE.out, HN.out]; exact Nat.le_refl _) fun j hj => ?_
    rw [HLE.out] at hj
    rw [E.out]
    simp [HN.out, hj]
  · go_enter Try.func61, Try.ntmps61
    have hi2 : ¬ (N : Int) < 2 := by omega
    go_wp2_with fail
    go_loopw [3] (fun kv wr => ∃ k : Nat, kv = .int .i64 (k : Int) ∧ 1 ≤ k ∧ k ≤ N ∧ RowR wr q d ∧ Below n w wr ∧ ∀ j, j < k → keeps d j = true) (fun kv _ => N - (intOf kv).toNat)
    case atStart => exact ⟨1, rfl, Nat.le_refl _, by omega, HR.out, Below.refl _ _, keeps_lt_one d⟩
    case round =>
      obtain ⟨k, rfl, h1k, hk, hrr, hbb, hall⟩ := hrel
      have HALL := Lib.hid hall; have HRR := Lib.hid hrr; have HBB := Lib.hid hbb
      clear hall hrr hbb
      by_cases hlt : k < N
      · obtain ⟨c0, c1, f0, f1⟩ := HRR.out.c k (by rw [HN.out]; exact hlt)
        obtain ⟨p0, p1, _, _⟩ := HRR.out.c (k - 1) (by rw [HN.out]; omega)
        have sw : IntKind.i64.wrap ((k : Int) - 1) = ((k - 1 : Nat) : Int) := by rw [IntWalk.i64_in _ (by omega)]; omega
        have i0 : (0 : Int) ≤ ((k - 1 : Nat) : Int) := by omega
        have i1 : ((k - 1 : Nat) : Int) < (N : Int) := by omega
        have i2 : (0 : Int) ≤ (k : Int) := by omega
        have i3 : (k : Int) < (N : Int) := by omega
        have hdd : decide (k < N) = true := decide_eq_true hlt
        obtain ⟨x, hx⟩ : ∃ x, d[k]! = x := ⟨_, rfl⟩
        obtain ⟨y, hy⟩ : ∃ y, d[k - 1]! = y := ⟨_, rfl⟩
        have HX := Lib.hid hx; have HY := Lib.hid hy
        rw [hx] at c0 c1
        rw [hy] at p0 p1
        clear hx hy
        obtain ⟨x1, x2⟩ := x
        obtain ⟨y1, y2⟩ := y
        dsimp only at c0 c1 p0 p1
        clear f0 f1
        go_upto_region 6 with fail
        by_cases hxy : x1 = y1 ∧ x2 = y2
        · obtain ⟨rfl, rfl⟩ := hxy
          go_quiet (fail)
          have HRD := Lib.hid (HRR.out.drewN nq); have HBD := Lib.hid (below_drewN HBB.out nq)
          generalize wr.drewN nq = wd at *
          clear c0 c1 p0 p1 HRR HBB
          have hkN : (k : Int) ≤ (N : Int) := by omega
          have hNc : (N : Int) ≤ (cap : Int) := by omega
          go_wp2_with fail
          go_loopw [3, 5] (fun v3 v5 wr2 => ∃ (kk k2 : Nat) (dk : Array Rq), v3 = .int .i64 (kk : Int) ∧ v5 = .int .i64 (k2 : Int) ∧ 1 ≤ k2 ∧ k + k2 ≤ N ∧ CompInv d (k + k2) kk dk ∧ RowR wr2 q dk ∧ Below n w wr2) (fun _ v5 _ => N - (k + (intOf v5).toNat))
          case atStart => exact ⟨k, 1, d, rfl, rfl, Nat.le_refl _, by omega, CompInv.start HALL.out (keeps_neg (by omega) (by rw [HX.out, HY.out])), HRD.out, HBD.out⟩
          case round =>
            clear HRD HBD
            obtain ⟨kk, k2, dk, rfl, rfl, h12, hle2, hI, hrr, hbb⟩ := hrel
            have HI := Lib.hid hI; have HRR := Lib.hid hrr; have HBB := Lib.hid hbb
            have hkk := hI.lt
            have hds := hI.size
            rw [HN.out] at hds
            have HDS := Lib.hid hds
            have g1 := hI.high (k + k2) (by omega)
            have g2 := hI.high (k + k2 - 1) (by omega)
            clear hI hrr hbb
            by_cases hlt2 : k + k2 < N
            · obtain ⟨c0, c1, _, _⟩ := HRR.out.c (k + k2) (by omega)
              obtain ⟨p0, p1, _, _⟩ := HRR.out.c (k + k2 - 1) (by omega)
              obtain ⟨o0, o1, f0, f1⟩ := HRR.out.c kk (by omega)
              rw [g1, Nat.add_mul] at c0 c1
              rw [g2, show (k + k2 - 1) * 2 = k * 2 + (k2 - 1) * 2 by omega] at p0 p1
              clear g1 g2 hds
              obtain ⟨u, hu⟩ : ∃ u, d[k + k2]! = u := ⟨_, rfl⟩
              obtain ⟨v, hv⟩ : ∃ v, d[k + k2 - 1]! = v := ⟨_, rfl⟩
              have HU := Lib.hid hu; have HV := Lib.hid hv
              rw [hu] at c0 c1
              rw [hv] at p0 p1
              clear hu hv
              obtain ⟨u1, u2'⟩ := u
              obtain ⟨v1', v2'⟩ := v
              dsimp only at c0 c1 p0 p1
              have sw2 : IntKind.i64.wrap ((k2 : Int) - 1) = ((k2 - 1 : Nat) : Int) := by rw [IntWalk.i64_in _ (by omega)]; omega
              have j0 : (0 : Int) ≤ ((k2 - 1 : Nat) : Int) := by omega
              have j1 : ((k2 - 1 : Nat) : Int) < ((N - k : Nat) : Int) := by omega
              have j2 : (0 : Int) ≤ (k2 : Int) := by omega
              have j3 : (k2 : Int) < ((N - k : Nat) : Int) := by omega
              have j4 : (0 : Int) ≤ (kk : Int) := by omega
              have j5 : (kk : Int) < (N : Int) := by omega
              have hdd2 : decide (k2 < N - k) = true := decide_eq_true (by omega)
              go_upto_region 11 with fail
              by_cases huv : u1 = v1' ∧ u2' = v2'
              · obtain ⟨rfl, rfl⟩ := huv
                go_quiet (fail)
                go_wp2_with fail
                go_roundw
                case rel => exact ⟨kk, k2 + 1, dk, rfl, by go_num, by omega, by omega, HI.out.skip (keeps_neg (by omega) (by rw [HU.out, HV.out])), HRR.out.drewN _, below_drewN HBB.out _⟩
                case measure => simp [intOf]; omega
              · have key : u1 ≠ v1' ∨ u1 = v1' ∧ u2' ≠ v2' := by omega
                clear huv
                rcases key with h1 | ⟨rfl, h2'⟩
                · have hb : (u1 == v1') = false := by rw [beq_eq_false_iff_ne]; exact h1
                  go_quiet (fail)
                  go_wp2_with fail
                  go_roundw
                  case rel =>
                    have hkp := HI.out.keep (by rw [HN.out]; exact hlt2) (keeps_pos (by rw [HU.out, HV.out]; simp; omega))
                    rw [HU.out] at hkp
                    exact ⟨kk + 1, k2 + 1, _, by go_num, by go_num, by omega, by omega, hkp, (HRR.out.drewN nq).set kk (by have := HDS.out; omega) _ _, ((below_drewN HBB.out nq).setCell hn _).setCell hn _⟩
                  case measure => simp [intOf]; omega
                · have hb : (u2' == v2') = false := by rw [beq_eq_false_iff_ne]; exact h2'
                  go_quiet (fail)
                  go_wp2_with fail
                  go_roundw
                  case rel =>
                    have hkp := HI.out.keep (by rw [HN.out]; exact hlt2) (keeps_pos (by rw [HU.out, HV.out]; simp; omega))
                    rw [HU.out] at hkp
                    exact ⟨kk + 1, k2 + 1, _, by go_num, by go_num, by omega, by omega, hkp, (HRR.out.drewN nq).set kk (by have := HDS.out; omega) _ _, ((below_drewN HBB.out nq).setCell hn _).setCell hn _⟩
                  case measure => simp [intOf]; omega
            · have hend : k + k2 = N := by omega
              have hdd2 : decide (k2 < N - k) = false := decide_eq_false (by omega)
              have hni2 : ¬ (k2 : Int) < ((N - k : Nat) : Int) := by omega
              have hcl := clear_row cap HRR.out (kk := kk) (by have := HDS.out; omega)
              rw [HDS.out] at hcl
              obtain ⟨vs, hvl, hcl⟩ := hcl
              have hs := Go.Proofs.holds_setCells_c HRR.out (kk * 2) vs (by rw [Go.Sort.size_flatK, hvl, HDS.out]; omega)
              rw [Nat.zero_add] at hs
              have HS := Lib.hid hs
              have k0 : (0 : Int) ≤ (kk : Int) := by omega
              have k1 : (kk : Int) ≤ (N : Int) := by omega
              clear g1 g2 hds hs
              go_wp2_with fail
              go_ret
              have hI := HI.out
              rw [hend] at hI
              refine ⟨cap, by rw [hI.len]; rfl, by rw [hI.len]; omega, ?_, below_setCells hn _ _ _ HBB.out⟩
              intro j hj
              rw [hI.len] at hj
              have e := hI.low j hj
              have z : ∀ t, t < kk * 2 → (wr.setCells q (kk * 2) vs).cell? ⟨q, 0 + t, none⟩ = some (Go.Sort.flatK encR 2 dk)[t]! := fun t ht => by
                have h := (HS.out t (by rw [Go.Sort.size_setMany, Go.Sort.size_flatK, HDS.out]; omega)).1
                rw [Go.Sort.get_setMany _ _ _ t (by rw [Go.Sort.size_flatK, HDS.out]; omega), if_neg (by omega)] at h
                exact h
              refine ⟨q, 0, rfl, ?_, ?_⟩
              · rw [z _ (by omega), Go.Sort.get_flatK _ _ _ _ (by rw [HDS.out]; omega), show j * 2 / 2 = j by omega, show j * 2 % 2 = 0 by omega, List.getD, e]; rfl
              · rw [Nat.add_assoc, z _ (by omega), Go.Sort.get_flatK _ _ _ _ (by rw [HDS.out]; omega), show (j * 2 + 1) / 2 = j by omega, show (j * 2 + 1) % 2 = 1 by omega, List.getD, e]; rfl
        · have key : x1 ≠ y1 ∨ x1 = y1 ∧ x2 ≠ y2 := by omega
          clear hxy
          rcases key with h1 | ⟨rfl, h2'⟩
          · have hb : (x1 == y1) = false := by rw [beq_eq_false_iff_ne]; exact h1
            go_quiet (fail)
            go_wp2_with fail
            go_roundw
            case rel =>
              refine ⟨k + 1, by go_num, by omega, by omega, HRR.out.drewN _, below_drewN HBB.out _, fun j hj => ?_⟩
              by_cases e : j = k
              · subst e
                exact keeps_pos (by rw [HX.out, HY.out]; simp; omega)
              · exact HALL.out j (by omega)
            case measure => simp [intOf]; omega
          · have hb : (x2 == y2) = false := by rw [beq_eq_false_iff_ne]; exact h2'
            go_quiet (fail)
            go_wp2_with fail
            go_roundw
            case rel =>
              refine ⟨k + 1, by go_num, by omega, by omega, HRR.out.drewN _, below_drewN HBB.out _, fun j hj => ?_⟩
              by_cases e : j = k
              · subst e
                exact keeps_pos (by rw [HX.out, HY.out]; simp; omega)
              · exact HALL.out j (by omega)
            case measure => simp [intOf]; omega
      · have hkN : k = N := by omega
        subst hkN
        have hdd : decide (k < k) = false := by simp
        have hni : ¬ (k : Int) < (k : Int) := by omega
        go_wp2_with fail
        go_ret
        have e : compactUpTo d d.size = d.toList := by
          rw [compactUpTo_all d _ (by rw [HN.out]; exact HALL.out), range_map_get]
        rw [HN.out] at e
        have hle : (compactUpTo d k).length = k := by rw [e]; simp [HN.out]
        refine ⟨cap, by rw [hle]; rfl, by rw [hle]; exact hc, ?_, HBB.out⟩
        refine HRR.out.reqs (by rw [hle, HN.out]; exact Nat.le_refl _) fun j hj => ?_
        rw [hle] at hj
        rw [e]
        simp [HN.out, hj]
end Go.Proofs.Ytcppmkimfoajaaa
