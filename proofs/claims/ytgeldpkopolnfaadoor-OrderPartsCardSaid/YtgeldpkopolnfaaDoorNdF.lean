/- move.Needs. -/
import Derived.Test.YtgeldpkopolnfaaDoorNdE
namespace Go.Proofs.YtgeldpkopolnfaaDoor
open Go.RowKit
set_option linter.all false

/-- Requirements for n changes that do not lead back. -/
def NeedOk (n : Int) (L : List Rq) : Prop := AscR L ∧ ∀ x ∈ L, 0 ≤ x.1 ∧ x.1 < x.2 ∧ x.2 < n
/-- A slice of requirements, whatever the dice at g do. -/
def SlG (W : World) (g : Nat) (v : Value) (L : List Rq) : Prop := ∃ a c, v = .slice a L.length c ∧ L.length ≤ c ∧ ReqsAt W a L ∧ ∀ b o, a = some ⟨b, o, none⟩ → L ≠ [] → b ≠ g
theorem ReqsAt.grown {W W' : World} {g : Nat} {a : Option Addr} {L : List Rq} (h : ReqsAt W a L) (hg : W.grownBy W' (some g)) (hne : ∀ b o, a = some ⟨b, o, none⟩ → L ≠ [] → b ≠ g) : ReqsAt W' a L := fun j hj => by
  obtain ⟨b, o, e, h1, h2⟩ := h j hj
  have hb := hne b o e (fun e => by rw [e] at hj; simp at hj)
  exact ⟨b, o, e, hg.cell h1 (by simpa using hb), hg.cell h2 (by simpa using hb)⟩
def NeedsP (w : World) (g : Nat) (n : Nat) (e : Ending) (w' : World) : Prop := ∃ v L, e = .returned v ∧ NeedOk n L ∧ L.length ≤ 2 * n ∧ SlG w' g v L ∧ DiceAt w' g ∧ w.grownBy w' (some g)

set_option maxRecDepth 100000 in
set_option maxHeartbeats 4000000 in
theorem needs_any (w : World) (g n : Nat) (hn : 2 ≤ n) (hn2 : n ≤ 100) (h : DiceAt w g) :
    Calls Tryd.prog 10 #[.pointer (some ⟨g, 0, none⟩), .int .i64 (n : Int)] w (NeedsP w g n) := by
  have hlt := h.lt
  have s1 : IntKind.i64.wrap (2 * (n : Int)) = 2 * (n : Int) := IntWalk.i64_in _ (by omega)
  have s2 : IntKind.i64.wrap (2 * (n : Int) + 1) = 2 * (n : Int) + 1 := IntWalk.i64_in _ (by omega)
  have C0 := Lib.hid (next_any w g (2 * (n : Int) + 1) (by omega) (by omega) h)
  clear h
  go_enter Tryd.func10, Tryd.ntmps10
  go_wp2_with fail
  refine (C0.out).mono ?_
  rintro e w1 ⟨k0, rfl, hk0, hk1, hd, hg⟩
  obtain ⟨k, rfl⟩ := Int.eq_ofNat_of_zero_le hk0
  have HD := Lib.hid hd; have HG := Lib.hid hg
  clear hd hg C0 s1 s2
  go_wp2_with fail
  go_loopw [5, 6, 7, 8] (fun v kv _ _ wr => ∃ (j : Nat) (L : List Rq), kv = .int .i64 (j : Int) ∧ j + L.length ≤ 2 * n ∧ NeedOk n L ∧ SlG wr g v L ∧ DiceAt wr g ∧ w.grownBy wr (some g)) (fun _ kv _ _ _ => (intOf kv).toNat)
  case atStart => exact ⟨k, [], rfl, by simp; omega, ⟨AscR.nil, fun x hx => by simp at hx⟩, ⟨none, 0, rfl, Nat.le_refl _, ReqsAt.nil _ _, fun b o e => by cases e⟩, HD.out, HG.out⟩
  case round =>
    clear HD HG
    obtain ⟨j, L, rfl, hjl, hok, hS, hd, hg⟩ := hrel
    have HOK := Lib.hid hok; have HS := Lib.hid hS; have HD := Lib.hid hd; have HG := Lib.hid hg
    clear hok hS hd hg
    by_cases hj : 0 < j
    · have hj' : (0 : Int) < (j : Int) := by omega
      have hjd : decide (0 < j) = true := decide_eq_true hj
      have hn1 : (1 : Int) < (n : Int) := by omega
      have hnd : decide (1 < n) = true := decide_eq_true (by omega)
      have s3 : IntKind.i64.wrap ((j : Int) - 1) = ((j - 1 : Nat) : Int) := by rw [IntWalk.i64_in _ (by omega)]; omega
      have C1 := Lib.hid (next_any wr g (n : Int) (by omega) (by omega) HD.out)
      go_wp2_with fail
      refine (C1.out).mono ?_
      rintro e w2 ⟨x, rfl, hx0, hx1, hd2, hg2⟩
      have HD2 := Lib.hid hd2; have HG2 := Lib.hid hg2
      have C2 := Lib.hid (next_any w2 g (n : Int) (by omega) (by omega) hd2)
      clear hd2 hg2 C1
      go_wp2_with fail
      refine (C2.out).mono ?_
      rintro e w3 ⟨y, rfl, hy0, hy1, hd3, hg3⟩
      have HD3 := Lib.hid hd3; have HG3 := Lib.hid ((HG2.out).trans hg3)
      clear hd3 hg3 C2
      have hS3 : SlG w3 g u5 L := by
        obtain ⟨a, c, e, hc, hr, hne⟩ := HS.out
        exact ⟨a, c, e, hc, hr.grown HG3.out hne, hne⟩
      have HS3 := Lib.hid hS3
      clear hS3
      by_cases hxy : x < y
      · obtain ⟨a, c, e, hc, hr, hne⟩ := HS3.out
        have hone : ReqsAt (w3.alloc (.cells #[.int .i64 x, .int .i64 y] 47)) (some ⟨w3.heap.size, 0, none⟩) [(x, y)] := fun i hi => by
          obtain rfl : i = 0 := by simp at hi; omega
          refine ⟨w3.heap.size, 0, rfl, ?_, ?_⟩ <;> rw [cell_of_row _ _ _ _ _ _ (heap_alloc_new _ _)] <;> rfl
        have hb4 := (Below.refl w3.heap.size w3).alloc (Nat.le_refl _) (.cells #[.int .i64 x, .int .i64 y] 47)
        have CU := Lib.hid (refUnion_any a (some ⟨w3.heap.size, 0, none⟩) c 1 L [(x, y)] _ (by omega) (by simp) (hr.step hb4) hone)
        rw [show [(x, y)].length = 1 from rfl] at CU
        have HB4 := Lib.hid hb4
        clear hone hb4 hr hne hc
        subst e
        go_wp2_with fail
        refine (CU.out).mono ?_
        rintro e w5 ⟨a5, c5, rfl, hc5, hr5, hb5, hn5⟩
        have hb35 := HB4.out.trans (hb5.mono HB4.out.size)
        have hgw3 : g < w3.heap.size := HD3.out.lt
        have HD5 := Lib.hid (HD3.out.below hb35)
        have HG5 := Lib.hid (HG3.out.trans (⟨hb35.os, hb35.tape, hb35.output, hb35.size, fun k hk _ => hb35.block k hk⟩ : w3.grownBy w5 (some g)))
        have hlen5 : (unionL L [(x, y)]).length ≤ L.length + 1 := by
          have h1 := foldP_length (foldP [] L) [(x, y)]
          have h2 := foldP_length [] L
          unfold unionL
          simp at h1 h2 ⊢
          omega
        have hok5 : NeedOk n (unionL L [(x, y)]) := by
          refine ⟨unionL_asc _ _, fun z hz => ?_⟩
          rw [unionL_mem] at hz
          rcases hz with hz | hz
          · exact HOK.out.2 z hz
          · rw [List.mem_singleton] at hz
            subst hz
            exact ⟨hx0, hxy, hy1⟩
        have hS5 : SlG w5 g (.slice a5 (unionL L [(x, y)]).length c5) (unionL L [(x, y)]) := ⟨a5, c5, rfl, hc5, hr5, fun b o e _ => by have := hn5 b o e; simp at this; omega⟩
        have HS5 := Lib.hid hS5; have HOK5 := Lib.hid hok5; have HL5 := Lib.hid hlen5
        clear hS5 hok5 hlen5 hc5 hr5 hb5 hn5 hb35
        go_wp2_with fail
        go_roundw
        case rel => exact ⟨j - 1, unionL L [(x, y)], by first | rfl | (rw [s3]) | go_num, by have := HL5.out; omega, HOK5.out, HS5.out, HD5.out, HG.out.trans HG5.out⟩
        case measure => simp [intOf]; omega
      · have hxn : ¬ x < y := hxy
        go_wp2_with fail
        go_roundw
        case rel => exact ⟨j - 1, L, by first | rfl | (rw [s3]) | go_num, by omega, HOK.out, HS3.out, HD3.out, HG.out.trans HG3.out⟩
        case measure => simp [intOf]; omega
    · have hj0 : j = 0 := by omega
      subst hj0
      have hjd : decide (0 < 0) = false := rfl
      obtain ⟨a, c, e, hc, hr, hne⟩ := HS.out
      have HHS := HS
      clear hr hne hc
      subst e
      go_wp2_with fail
      go_ret
      exact ⟨_, L, rfl, HOK.out, by omega, HHS.out, HD.out, HG.out⟩
end Go.Proofs.YtgeldpkopolnfaaDoor
