/- Proved: for every list of numbers, every ledger, every decision and every three numbers, LedgerAll returns true and leaves its arguments as they were. No condition beyond the row's own reach. -/
import Derived.Test.YtogcpjkgliijmaaEq
import Derived.ChangeArms
import Derived.WideShapes
import Derived.ChangeShapes
import Derived.Deep.Slices
import Derived.Test.YtogcpjkgliijmaaRows
import Derived.Test.YtogcpjkgliijmaaLLAll
import Derived.Test.YtogcpjkgliijmaaRowIn
import Derived.Test.YtogcpjkgliijmaaOpenDec
import Derived.WalkKit
import Derived.ProofKit
import Derived.OpenShut
import Derived.ChangeOld
import Derived.Below
/- A ledger that came in, opened. -/
namespace Go.Proofs.Ytogcpjkgliijmaa
open Go.ChangeShapes Go.WideShapes Go.Deep Go.RowKit

theorem open_ledger {H : Type} {enc : TypeId × Value → H} {W : World} {b0 base : Nat} {spare : Nat → Bool} {held : Bool} {v : Value} {d : DataW H} {p : List MemPlace}
    (hval : Value.okWide Try.prog W .any base 25 v) (h : DataW.Trod enc Try.prog W b0 spare held 25 v d p) :
    ∃ (pr : Option Addr) (cr : Nat) (lr : List Dec), v = .agg #[.slice pr lr.length cr] ∧ lr.length ≤ cr ∧ Reads W pr lr := by
  obtain ⟨cs, rfl, hsz⟩ := okWide_struct Try.underlying25 hval
  obtain ⟨fuel, hf⟩ := h
  obtain ⟨xs, n, _, hx, hl, hlen, hfs⟩ := DataW.trod_struct Try.underlying25 hf
  have h1 : cs.size = 1 := hsz.trans (by kernel_rfl)
  have hc23 : Try.prog.cellsOf 23 = 1 := by kernel_rfl
  have hc27 : Try.prog.cellsOf 27 = 5 := by kernel_rfl
  have hc3 : Try.prog.cellsOf 3 = 1 := by kernel_rfl
  obtain ⟨l⟩ := cs
  match l, h1, xs, hlen with
  | [a0], _, [x0], _ =>
    have q0 := hfs 0 _ rfl
    simp [Value.cells, hc23] at q0
    rcases open_slice Try.underlying23 q0 with ⟨hcs, _⟩ | ⟨a, len, cap, m, n', D, Pl, hcs, _, hlc, _, hm, _, hel⟩
    · injection hcs with hcs
      subst hcs
      exact ⟨none, 0, [], rfl, Nat.le_refl _, .inl rfl⟩
    · injection hcs with hcs
      subst hcs
      have each : ∀ i, i < len → ∃ d : Dec, W.cell? ((a.add (i * 5)).add 0) = some (.int .i64 d.day) ∧ W.cell? ((a.add (i * 5)).add 1) = some (.int .i64 d.known) ∧ W.cell? ((a.add (i * 5)).add 2) = some (.int .i64 d.kind) ∧
          W.cell? ((a.add (i * 5)).add 3) = some (.int .i64 d.subj) ∧ W.cell? ((a.add (i * 5)).add 4) = some (.int .i64 d.value) := by
        intro i hi
        obtain ⟨cs', g1, g2⟩ := hel i (by rw [hm]; split <;> omega)
        rw [hc27] at g1
        obtain ⟨_, hlen5, hcell⟩ := World.cells?_some g1
        obtain ⟨ys, k, _, _, _, hyl, hfs'⟩ := DataW.trod_struct Try.underlying27 g2
        match ys, hyl, cs', hlen5 with
        | [y0, y1, y2, y3, y4], _, [v0, v1, v2, v3, v4], _ =>
          have r0 := hfs' 0 _ rfl
          have r1 := hfs' 1 _ rfl
          have r2 := hfs' 2 _ rfl
          have r3 := hfs' 3 _ rfl
          have r4 := hfs' 4 _ rfl
          simp [hc3] at r0 r1 r2 r3 r4
          obtain ⟨m0, e0, _⟩ := DataW.trod_int Try.underlying3 r0
          obtain ⟨m1, e1, _⟩ := DataW.trod_int Try.underlying3 r1
          obtain ⟨m2, e2, _⟩ := DataW.trod_int Try.underlying3 r2
          obtain ⟨m3, e3, _⟩ := DataW.trod_int Try.underlying3 r3
          obtain ⟨m4, e4, _⟩ := DataW.trod_int Try.underlying3 r4
          injection e0 with e0; injection e1 with e1; injection e2 with e2; injection e3 with e3; injection e4 with e4
          subst e0; subst e1; subst e2; subst e3; subst e4
          exact ⟨⟨m0, m1, m2, m3, m4⟩, hcell 0 (by omega), hcell 1 (by omega), hcell 2 (by omega), hcell 3 (by omega), hcell 4 (by omega)⟩
      haveI : Inhabited Dec := ⟨⟨0, 0, 0, 0, 0⟩⟩
      obtain ⟨f, hf2⟩ := choose_lt each
      have hln : ((List.range len).map f).length = len := by simp
      refine ⟨some a, cap, (List.range len).map f, by rw [hln], by rw [hln]; exact hlc, ?_⟩
      rcases Nat.eq_zero_or_pos len with h0 | h0
      · subst h0; exact .inl rfl
      · have hspot : a.spot = none := by
          have := (hf2 0 h0).1
          unfold World.cell? at this
          split at this
          · cases hs : a.spot with
            | none => rfl
            | some s =>
              unfold Addr.add at this
              split at this <;> simp_all
          · cases this
        obtain ⟨b, o, s⟩ := a
        simp only at hspot; subst hspot
        have hadd : ∀ o j, (⟨b, o, none⟩ : Addr).add j = ⟨b, o + j, none⟩ := by intro o j; unfold Addr.add; split <;> simp_all
        refine .inr ⟨b, o, rfl, fun j hj => ?_⟩
        have hj2 : j < len := by rw [hln] at hj; exact hj
        have e : ((List.range len).map f)[j] = f j := by simp
        rw [e]
        have := hf2 j hj2
        rw [hadd, hadd, hadd, hadd, hadd, hadd] at this
        exact this
end Go.Proofs.Ytogcpjkgliijmaa

namespace Go.Proofs.Ytogcpjkgliijmaa.ledgerAll
open Go.ChangeShapes Go.WideShapes Go.ChangeAt Go.RowKit
set_option linter.unusedVariables false

theorem own : ownKnob Try.prog.godebug = none := by kernel_rfl
theorem laidOut : laidOutB Try.prog = true := by kernel_rfl

/-! ### STEP 1: THE WALK: the Go text returns true, AND WRITES NOTHING THAT WAS THERE: 'Below w.heap.size w w'' (Derived/Below.lean: '.refl', '.alloc', '.drew', '.setCell' at a new block, '.trans'). Open each 'IsRow' by 'rcases' AHEAD of 'go_enter'; part every test ahead of the walk. -/
theorem fits_i64 {n : Int} (h : (Lit.int .i64 n).wf = true) : -9223372036854775808 ≤ n ∧ n ≤ 9223372036854775807 := by
  simp only [Lit.wf, IntKind.min, IntKind.max, IntKind.signed, IntKind.bits, Bool.and_eq_true, decide_eq_true_eq] at h
  simp at h
  omega

theorem walk (a0 : Option Addr) (len0 cap0 : Nat) (z0 : List Int) (pr : Option Addr) (cr : Nat) (lr : List Dec) (D : Dec) (a3 a4 a5 : Int) (w : World) (w0 : IsRow .i64 w a0 len0 cap0 z0) (w3 : (Lit.int .i64 a3).wf = true) (w4 : (Lit.int .i64 a4).wf = true) (w5 : (Lit.int .i64 a5).wf = true) (hcr : lr.length ≤ cr) (hrr : Reads w pr lr) :
    Calls Try.prog 3 #[.slice a0 len0 cap0, .agg #[.slice pr lr.length cr], D.val, .int .i64 a3, .int .i64 a4, .int .i64 a5] w fun e w' => e = .returned (.bool true) ∧ Below w.heap.size w w' := by
  exact llall_any w a0 len0 cap0 pr cr lr D a3 a4 a5 (fits_i64 w3) (fits_i64 w4) (fits_i64 w5) (ints_of_row w0) hcr hrr

/-! ### THE ROW's STEP: WRITTEN OUT: LEAVE IT -/
set_option maxRecDepth 100000 in
theorem lifted (os : Os) (started : os.Started) (H : Type) (enc : TypeId × Value → H) :
    ReturnsInHanded {} Try.checked os 3 .any (Rows.ledgerAllSpec.pre6 enc Try.prog Try.f3 Rows.ledgerAllRow.domain false) (Rows.ledgerAllSpec.post enc Try.prog Try.f3 false true false false) := by
  refine returnsInHanded_of_change (C := Try.checked) own started (by kernel_rfl) Try.func3
    (ChangeSpec.witness6 (enc := enc) (C := Try.checked) false ⟨#[], #[.slice none 0 0, .agg #[.slice none 0 0], .agg #[.int .i64 0, .int .i64 0, .int .i64 0, .int .i64 0, .int .i64 0], .int .i64 0, .int .i64 0, .int .i64 0], []⟩ 8 (by kernel_rfl) (by kernel_rfl) (by kernel_rfl) (by kernel_rfl)) ?_
  intro W base args ds gs before hval0 hW hcnd _
  have hval : ∀ (j : Nat) t v, Try.f3.params[j]? = some t → args[j]? = some v → Value.okWide Try.prog W .any base t v := hval0
  have hW' := hW
  obtain ⟨p, q, hA0, hV, rfl, hfz, hnd⟩ := hW
  have hA : DataW.TrodAll enc Try.prog W 0 (fun _ => true) true Try.f3.params.toList args.toList ds p := hA0
  rw [Try.params3] at hA hval
  obtain ⟨v0, vs0, d0, ds0, p0, q0, hargs, rfl, rfl, h0, r0⟩ := trodAll_cons hA
  obtain ⟨v1, vs1, d1, ds1, p1, q1, rfl, rfl, rfl, h1, r1⟩ := trodAll_cons r0
  obtain ⟨v2, vs2, d2, ds2, p2, q2, rfl, rfl, rfl, h2, r2⟩ := trodAll_cons r1
  obtain ⟨v3, vs3, d3, ds3, p3, q3, rfl, rfl, rfl, h3, r3⟩ := trodAll_cons r2
  obtain ⟨v4, vs4, d4, ds4, p4, q4, rfl, rfl, rfl, h4, r4⟩ := trodAll_cons r3
  obtain ⟨v5, vs5, d5, ds5, p5, q5, rfl, rfl, rfl, h5, r5⟩ := trodAll_cons r4
  obtain ⟨rfl, rfl, rfl⟩ := trodAll_nil r5
  obtain rfl : args = #[v0, v1, v2, v3, v4, v5] := by cases args; simp_all
  obtain ⟨rfl, rfl⟩ := trodVars_none hV
  obtain ⟨a0, len0, cap0, rfl⟩ := okWide_slice Try.underlying22 (hval 0 22 v0 rfl rfl)
  have k0 := h0
  have lt0 : ∀ x ∈ p0, x.block < W.heap.size := by obtain ⟨m, hm⟩ := k0; exact DataW.trod_lt m _ _ _ hm
  obtain ⟨z0, w0⟩ : ∃ zs, IsRow .i64 W a0 len0 cap0 zs := by
    obtain ⟨fuel, hf⟩ := h0
    rcases open_ints Try.underlying22 Try.underlying3 (by kernel_rfl) hf with ⟨hcs, _⟩ | ⟨x, l, c, zs, hcs, _, hl, hm, hz, _, hcell, hwz⟩
    · simp [Value.cells] at hcs
      obtain ⟨rfl, rfl, rfl⟩ := hcs
      exact ⟨[], .inl ⟨rfl, rfl, rfl, rfl⟩⟩
    · simp [Value.cells] at hcs
      obtain ⟨rfl, rfl, rfl⟩ := hcs
      exact ⟨zs, .inr ⟨_, rfl, hl, hm, by simpa using hz, hcell, hwz⟩⟩
  have k1 := h1
  have lt1 : ∀ x ∈ p1, x.block < W.heap.size := by obtain ⟨m, hm⟩ := k1; exact DataW.trod_lt m _ _ _ hm
  obtain ⟨pr, cr, lr, rfl, hcr, hrr⟩ := open_ledger (hval 1 25 v1 rfl rfl) h1
  have k2 := h2
  have lt2 : ∀ x ∈ p2, x.block < W.heap.size := by obtain ⟨m, hm⟩ := k2; exact DataW.trod_lt m _ _ _ hm
  obtain ⟨D, rfl⟩ := open_dec (hval 2 27 v2 rfl rfl) h2
  obtain ⟨a3, rfl, rfl, rfl, w3⟩ := open_int Try.underlying3 (hval 3 3 v3 rfl rfl) h3
  obtain ⟨a4, rfl, rfl, rfl, w4⟩ := open_int Try.underlying3 (hval 4 3 v4 rfl rfl) h4
  obtain ⟨a5, rfl, rfl, rfl, w5⟩ := open_int Try.underlying3 (hval 5 3 v5 rfl rfl) h5
  clear hA0 hval0
  refine (walk a0 len0 cap0 z0 pr cr lr D a3 a4 a5 W w0 w3 w4 w5 hcr hrr).mono fun e W' ⟨he, bel⟩ => ?_
  subst he
  exact ⟨_, rfl, _, _, _, [], _, [], hW', trodAll_mk1 (shut_bool Try.underlying4 _), (trodAll_cons_mk (Below.trod laidOut (by kernel_rfl) (of_decide_eq_true (by kernel_rfl)) k0 bel lt0) (trodAll_cons_mk (Below.trod laidOut (by kernel_rfl) (of_decide_eq_true (by kernel_rfl)) k1 bel lt1) (trodAll_cons_mk (Below.trod laidOut (by kernel_rfl) (of_decide_eq_true (by kernel_rfl)) k2 bel lt2) (trodAll_cons_mk (shut_int Try.underlying3 w3) (trodAll_cons_mk (shut_int Try.underlying3 w4) (trodAll_cons_mk (shut_int Try.underlying3 w5) trodAll_mk0)))))), rfl, bel.frame _, fun h => by cases h⟩

theorem over : Rows.ledgerAllRow.holds Try.pinned (OpenSpec.ofChange Rows.ledgerAllSpec) :=
  OpenClaim.holds_of_wide 3 Try.f3 rfl rfl rfl rfl rfl rfl rfl ⟨rfl, rfl, rfl, rfl, rfl⟩ rfl rfl rfl rfl rfl (by kernel_rfl) Try.func3 (by kernel_rfl)
    (of_decide_eq_true (by kernel_rfl)) (by unfold Func.isWrapper; first | (rw [if_pos (by decide +kernel)]; kernel_rfl) | (rw [if_neg (by decide +kernel)]; exact ⟨rfl, rfl⟩))
    (fun os started H enc _ => lifted os started H enc)

/-- ████ THE STATEMENT ████ -/
theorem proved : Rows.LedgerAllSaid := over
#print axioms proved
end Go.Proofs.Ytogcpjkgliijmaa.ledgerAll
