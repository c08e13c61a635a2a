/- readClosed, Closed, Ready, Sets with what requirements hold. -/
import Derived.Test.YtgeldpkopolnfaaDoorOmF
namespace Go.Proofs.YtgeldpkopolnfaaDoor
open Go.RowKit
set_option linter.all false

/-- Requirements in memory that Check accepts. -/
structure ReqV (W : World) (n : Nat) (v : Value) (L : List Rq) : Prop where
  val : ∃ a c, v = .slice a L.length c ∧ L.length ≤ c ∧ ReqsAt W a L
  ok : Ok n L
  asc : AscR L
  len : L.length ≤ 900
  most : n ≤ 24
  chk : ∀ W', Below W.heap.size W W' → Calls Tryd.prog 23 #[.int .i64 (n : Int), v] W' fun e w' => e = .returned (.int .i64 0) ∧ Below W'.heap.size W' w'
theorem ReqV.step {W W' : World} {n : Nat} {v : Value} {L : List Rq} (h : ReqV W n v L) (hb : Below W.heap.size W W') : ReqV W' n v L := by
  obtain ⟨a, c, e, hc, hr⟩ := h.val
  exact ⟨⟨a, c, e, hc, hr.step hb⟩, h.ok, h.asc, h.len, h.most, fun W'' hb' => h.chk W'' (hb.trans (hb'.mono hb.size))⟩
theorem ReqV.mk' {W : World} {n : Nat} {a : Option Addr} {c : Nat} {L : List Rq} (h1 : 1 ≤ n) (hn : n ≤ 24) (hok : Ok n L) (hasc : AscR L) (hl : L.length ≤ 900) (hc : L.length ≤ c) (hL : ReqsAt W a L) : ReqV W n (.slice a L.length c) L :=
  ⟨⟨a, c, rfl, hc, hL⟩, hok, hasc, hl, hn, fun W' hb => checkOk_any a c L n W' h1 hn hok hasc hl (hL.step hb)⟩
section
variable {w : World} {n : Nat} {v : Value} {L : List Rq}
theorem ReqV.sets (h : ReqV w n v L) (hT : Deb w) (hn : n ≤ 12) : Calls Tryd.prog 11 #[.int .i64 (n : Int), v] w (SetP n L w) := by
  obtain ⟨a, c, e, _, hr⟩ := h.val
  have hc := h.chk
  subst e
  exact sets_any a c L n w hn h.ok h.len hr hT hc
theorem ReqV.read (h : ReqV w n v L) {s : Value} {l : List Nat} (hl : SetOk n l) (hs : IdxR w s l) :
    Calls Tryd.prog 28 #[.int .i64 (n : Int), v, s] w fun e w' => e = .returned (.tuple #[.int .u32 ((maskL l : Nat) : Int), .int .i64 0]) ∧ Below w.heap.size w w' := by
  obtain ⟨a, c, e, _, hr⟩ := h.val
  have hc := h.chk w (Below.refl _ _)
  subst e
  exact read_any a c L n s l w h.most hl hs hc
theorem ReqV.isClosed (h : ReqV w n v L) {x : Nat} (hx : x < 16777216) : Calls Tryd.prog 29 #[.int .u32 (x : Int), v] w fun e w' => e = .returned (.bool (clB L x)) ∧ Below w.heap.size w w' := by
  obtain ⟨a, c, e, _, hr⟩ := h.val
  subst e
  exact isClosed_any a c L n x w h.most hx h.ok.inn h.len hr
theorem ReqV.ready (h : ReqV w n v L) {x : Nat} (hx : x < 16777216) : Calls Tryd.prog 31 #[.int .u32 (x : Int), .int .i64 (n : Int), v] w fun e w' => e = .returned (.int .u32 ((rdy n L x : Nat) : Int)) ∧ Below w.heap.size w w' := by
  obtain ⟨a, c, e, _, hr⟩ := h.val
  subst e
  exact ready_any a c L n x w h.most hx h.ok.inn h.len hr
theorem ReqV.sm (h : ReqV w n v L) {l : List Nat} (hl : SetOk n l) : maskL l < 16777216 := Nat.lt_of_lt_of_le (maskL_lt hl.low) (Nat.pow_le_pow_right (n := 2) (by decide) (j := 24) h.most)
set_option maxHeartbeats 1000000 in
theorem ReqV.closed (h : ReqV w n v L) {s : Value} {l : List Nat} (hl : SetOk n l) (hs : IdxR w s l) :
    Calls Tryd.prog 12 #[.int .i64 (n : Int), v, s] w fun e w' => e = .returned (.tuple #[.bool (clB L (maskL l)), .int .i64 0]) ∧ Below w.heap.size w w' := by
  have C1 := Lib.hid (h.read hl hs)
  have C2 := Lib.hid (fun W (hb : Below w.heap.size w W) => (h.step hb).isClosed (h.sm hl))
  obtain ⟨a, c, e, _, _⟩ := h.val
  obtain ⟨q, cq, e2, _⟩ := hs
  subst e; subst e2
  generalize maskL l = x at *
  generalize clB L x = bx at *
  generalize l.length = ln at *
  generalize L.length = ll at *
  clear h
  go_enter Tryd.func12, Tryd.ntmps12
  go_wp2_with (first | (go_at_call 28; refine (C1.out).mono ?_; clear C1; rintro e w1 ⟨rfl, hb1⟩; have HB1 := Lib.hid hb1; clear hb1) | (go_at_call 29; refine (C2.out _ HB1.out).mono ?_; clear C2; rintro e w2 ⟨rfl, hb2⟩; have HB2 := Lib.hid hb2; clear hb2))
  refine bodyPost_ret (v := .tuple #[.bool bx, .int .i64 0]) (by simp [results, Tryd.results12, go_sem]) rfl ?_
  exact ⟨rfl, HB1.out.trans (HB2.out.mono HB1.out.size)⟩
set_option maxHeartbeats 1000000 in
theorem ReqV.readClosed (h : ReqV w n v L) {s : Value} {l : List Nat} (hl : SetOk n l) (hs : IdxR w s l) (hcl : ClM L (maskL l)) :
    Calls Tryd.prog 30 #[.int .i64 (n : Int), v, s] w fun e w' => e = .returned (.tuple #[.int .u32 ((maskL l : Nat) : Int), .int .i64 0]) ∧ Below w.heap.size w w' := by
  have C1 := Lib.hid (h.read hl hs)
  have C2 := Lib.hid (fun W (hb : Below w.heap.size w W) => (h.step hb).isClosed (h.sm hl))
  rw [clB_iff.2 hcl] at C2
  obtain ⟨a, c, e, _, _⟩ := h.val
  obtain ⟨q, cq, e2, _⟩ := hs
  subst e; subst e2
  generalize maskL l = x at *
  generalize l.length = ln at *
  generalize L.length = ll at *
  clear h hcl
  go_enter Tryd.func30, Tryd.ntmps30
  go_wp2_with (first | (go_at_call 28; refine (C1.out).mono ?_; clear C1; rintro e w1 ⟨rfl, hb1⟩; have HB1 := Lib.hid hb1; clear hb1) | (go_at_call 29; refine (C2.out _ HB1.out).mono ?_; clear C2; rintro e w2 ⟨rfl, hb2⟩; have HB2 := Lib.hid hb2; clear hb2))
  refine bodyPost_ret (v := .tuple #[.int .u32 (x : Int), .int .i64 0]) (by simp [results, Tryd.results30, go_sem]) rfl ?_
  exact ⟨rfl, HB1.out.trans (HB2.out.mono HB1.out.size)⟩
set_option maxHeartbeats 1000000 in
theorem ReqV.readyS (h : ReqV w n v L) (hT : Deb w) {s : Value} {l : List Nat} (hl : SetOk n l) (hs : IdxR w s l) (hcl : ClM L (maskL l)) :
    Calls Tryd.prog 13 #[.int .i64 (n : Int), v, s] w fun e w' => ∃ r, e = .returned (.tuple #[r, .int .i64 0]) ∧ IdxR w' r (idx (rdy n L (maskL l))) ∧ Below w.heap.size w w' := by
  have C1 := Lib.hid (h.readClosed hl hs hcl)
  have C2 := Lib.hid (fun W (hb : Below w.heap.size w W) => (h.step hb).ready (h.sm hl))
  have hR : rdy n L (maskL l) < 16777216 := Nat.lt_of_lt_of_le (rdy_lt n L _) (Nat.pow_le_pow_right (n := 2) (by decide) (j := 24) h.most)
  have hw1 := hT.1
  have C3 := Lib.hid (fun W (hb : Below w.heap.size w W) => indices_any _ hR W (hT.below hb hw1))
  obtain ⟨a, c, e, _, _⟩ := h.val
  obtain ⟨q, cq, e2, _⟩ := hs
  subst e; subst e2
  generalize rdy n L (maskL l) = R at *
  generalize maskL l = x at *
  generalize l.length = ln at *
  generalize L.length = ll at *
  clear h hcl
  go_enter Tryd.func13, Tryd.ntmps13
  go_wp2_with (first | (go_at_call 30; refine (C1.out).mono ?_; clear C1; rintro e w1 ⟨rfl, hb1⟩; have HB1 := Lib.hid hb1; clear hb1) | (go_at_call 31; refine (C2.out _ HB1.out).mono ?_; clear C2; rintro e w2 ⟨rfl, hb2⟩; have HB2 := Lib.hid (HB1.out.trans (hb2.mono HB1.out.size)); clear hb2) | (go_at_call 27; refine (C3.out _ HB2.out).mono ?_; clear C3; rintro e w3 ⟨u, rfl, hu, _, hb3⟩; have HU := Lib.hid (idxR_of_own hu); obtain ⟨pu, cu, rfl⟩ := own_slice hu; have HB3 := Lib.hid (HB2.out.trans (hb3.mono HB2.out.size)); clear hb3 hu))
  refine bodyPost_ret (v := .tuple #[.slice pu (idx R).length cu, .int .i64 0]) (by simp [results, Tryd.results13, go_sem]) rfl ?_
  exact ⟨_, rfl, HU.out, HB3.out⟩
end
end Go.Proofs.YtgeldpkopolnfaaDoor
