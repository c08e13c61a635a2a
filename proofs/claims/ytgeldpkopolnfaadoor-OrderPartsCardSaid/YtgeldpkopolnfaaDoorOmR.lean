/- Sets of requirements that Check refuses; chains of closed sets. -/
import Derived.Test.YtgeldpkopolnfaaDoorOmQ
import Derived.Test.YtgeldpkopolnfaaDoorOlA
namespace Go.Proofs.YtgeldpkopolnfaaDoor
open Go.RowKit
set_option linter.all false

theorem ReqV.first {w : World} {n : Nat} {v : Value} {L : List Rq} (h : ReqV w n v L) (hT : Deb w) :
    Calls Tryd.prog 17 #[.int .i64 (n : Int), v] w fun e W' => ∃ u F, e = .returned (.tuple #[u, .int .i64 0]) ∧ FirstOk n L F ∧ F.length = n ∧ IdxR W' u F ∧ Below w.heap.size w W' := by
  obtain ⟨a, c, e, _, hr⟩ := h.val
  have hc := h.chk
  have hm := h.most
  subst e
  exact first_any a c L n w hm h.ok h.len hr hT hc
theorem nodup_sub_length {A B : List Nat} (hA : A.Nodup) (hB : B.Nodup) (hs : ∀ x ∈ A, x ∈ B) : A.length ≤ B.length := by
  have hp : A.Perm (B.filter fun x => decide (x ∈ A)) := by
    rw [List.perm_ext_iff_of_nodup hA (hB.filter _)]
    intro x
    rw [List.mem_filter, decide_eq_true_iff]
    exact ⟨fun h => ⟨hs x h, h⟩, fun h => h.2⟩
  rw [hp.length_eq]
  exact List.length_filter_le _ _
theorem Chn.cl {n : Nat} {L : List Rq} {F : List Nat} (h : Chn n L F) (hok : Ok n L) (hn : n ≤ 24) : ∀ k, k ≤ F.length → ClM L (maskL (F.take k)) := by
  intro k
  induction k with
  | zero => intro _; exact cl_zero L
  | succ k ih =>
    intro hk
    have h1 := h k (by omega)
    rw [List.getElem?_eq_getElem (by omega)] at h1
    have hm : F[k] ∈ idx (rdy n L (maskL (F.take k))) := List.mem_of_mem_head? (by rw [h1]; rfl)
    have hR : rdy n L (maskL (F.take k)) < 16777216 := Nat.lt_of_lt_of_le (rdy_lt n L _) (Nat.pow_le_pow_right (n := 2) (by decide) (j := 24) hn)
    have hr := rdy_bit.1 ((mem_idx hR).1 hm)
    rw [List.take_succ, List.getElem?_eq_getElem (by omega)]
    simp only [Option.toList]
    rw [maskL_snoc]
    exact cl_add hok (ih (by omega)) hr
theorem chain_exists {n : Nat} {L : List Rq} (hok : Ok n L) (hn : n ≤ 24) : ∃ F, FirstOk n L F ∧ F.length = n := by
  have key : ∀ k, k ≤ n → ∃ F, FirstOk n L F ∧ F.length = k := by
    intro k
    induction k with
    | zero => intro _; exact ⟨[], FirstOk.nil n L, rfl⟩
    | succ k ih =>
      intro hk
      obtain ⟨F, hF, hl⟩ := ih (by omega)
      obtain ⟨i, r, _, h2⟩ := hF.more hok hn (by omega)
      exact ⟨F ++ [i], h2, by simp [hl]⟩
  exact key n (Nat.le_refl n)
theorem pc_maskL {F : List Nat} (hn : F.Nodup) (h : ∀ i ∈ F, i < 24) : pc (maskL F) = F.length := by
  have hp : (idx (maskL F)).Perm F := by
    rw [List.perm_ext_iff_of_nodup (idx_nodup _) hn]
    intro i
    rw [mem_idx (maskL_lt (n := 24) h), maskL_bit, decide_eq_true_iff]
  exact hp.length_eq
/-- There are at least as many closed sets as steps, and one more. -/
theorem closed_many {n : Nat} {L : List Rq} (hok : Ok n L) (hn : n ≤ 24) {A : List Nat} (hA : A.Nodup) (hm : ∀ x, x ∈ A ↔ x < 2 ^ n ∧ ClM L x) : n + 1 ≤ A.length := by
  obtain ⟨F, hF, hl⟩ := chain_exists hok hn
  have hlow : ∀ k, ∀ i ∈ F.take k, i < n := fun k i hi => hF.low i (List.mem_of_mem_take hi)
  have hpc : ∀ k, k ≤ n → pc (maskL (F.take k)) = k := fun k hk => by
    rw [pc_maskL (hF.nodup.sublist (List.take_sublist k F)) (fun i hi => by have := hlow k i hi; omega), List.length_take]
    omega
  have hB : ((List.range (n + 1)).map fun k => maskL (F.take k)).Nodup := by
    rw [List.nodup_iff_pairwise_ne, List.pairwise_map]
    refine List.Pairwise.imp_of_mem ?_ List.nodup_range
    intro a b ha hb hab e
    rw [List.mem_range] at ha hb
    have h1 := hpc a (by omega)
    have h2 := hpc b (by omega)
    rw [e] at h1
    omega
  have := nodup_sub_length hB hA fun x hx => by
    obtain ⟨k, hk, rfl⟩ := List.mem_map.1 hx
    rw [List.mem_range] at hk
    exact (hm _).2 ⟨maskL_lt (hlow k), hF.chn.cl hok hn k (by omega)⟩
  simpa using this
theorem ClM.sub {L U : List Rq} (h : ∀ x ∈ L, x ∈ U) {x : Nat} (hc : ClM U x) : ClM L x := fun r hr => hc r (h r hr)

set_option maxRecDepth 100000 in
set_option maxHeartbeats 2000000 in
theorem sets_bad (a : Option Addr) (c : Nat) (L : List Rq) (n : Nat) (w : World) (h1 : 1 ≤ n) (hn : n ≤ 24) (hin : Inn n L) (hasc : AscR L) (hbad : ¬ Ok n L) (hl : L.length ≤ 900) (hL : ReqsAt w a L) :
    Calls Tryd.prog 11 #[.int .i64 (n : Int), .slice a L.length c] w fun e w' => ∃ r, r ≠ 0 ∧ e = .returned (.tuple #[.slice none 0 0, .int .i64 r]) ∧ Below w.heap.size w w' := by
  have C := Lib.hid (check_any a c L n w h1 hn hin hasc hl hL)
  have HB := Lib.hid (fun r (h : ChkR n L r) => h.bad hin hbad)
  obtain ⟨ll, hll⟩ : ∃ ll, L.length = ll := ⟨_, rfl⟩
  rw [hll] at C ⊢
  clear hin hasc hbad hl hL hll
  go_enter Tryd.func11, Tryd.ntmps11
  go_wp2_with fail
  refine (C.out).mono ?_
  clear C
  rintro e w1 ⟨r, rfl, hr, hb⟩
  have hr0 := HB.out r hr
  have HBE := Lib.hid hb
  have g1 : (r == 0) = false := by simpa using hr0
  have HR0 := Lib.hid hr0
  clear hr hb
  go_wp2_with fail
  refine bodyPost_ret (v := .tuple #[.slice none 0 0, .int .i64 r]) (by simp [results, Tryd.results11, go_sem]) rfl ?_
  exact ⟨r, HR0.out, rfl, HBE.out⟩
end Go.Proofs.YtgeldpkopolnfaaDoor
