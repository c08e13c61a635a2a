/- slices.Equal and ledger.Same of equal lists, ledger.Then, ledger.Differ of a beginning. -/
import Derived.Test.YtogcpjkgliijmaaLatestM
namespace Go.Proofs.Ytogcpjkgliijmaa
open Go.RowKit

theorem neq_same (d : Dec) (W : World) : (binOp .neq 27 d.val d.val).run Try.prog W = .ok (.bool false) W := by
  unfold Dec.val
  go_simp

/-- What a slice of decisions reads as. -/
def Reads (w : World) (p : Option Addr) (l : List Dec) : Prop := l = [] ∨ ∃ b o, p = some ⟨b, o, none⟩ ∧ Row w b o l
theorem Reads.mono {w W : World} {p : Option Addr} {l : List Dec} (h : Reads w p l) (hb : Below w.heap.size w W) : Reads W p l := by
  rcases h with h | ⟨b, o, hp, h⟩
  · exact .inl h
  · exact .inr ⟨b, o, hp, h.mono hb⟩
theorem Reads.take {w : World} {p : Option Addr} {l : List Dec} (h : Reads w p l) (k : Nat) : Reads w p (l.take k) := by
  rcases h with h | ⟨b, o, hp, h⟩
  · subst h; exact .inl (by simp)
  · exact .inr ⟨b, o, hp, h.take k⟩
theorem Reads.drewN {w : World} {p : Option Addr} {l : List Dec} (h : Reads w p l) (n : Nat) : Reads (w.drewN n) p l := h

set_option maxHeartbeats 1000000 in
theorem equal_same (w : World) (pa pb : Option Addr) (ca cb : Nat) (l : List Dec) (ha : Reads w pa l) (hb : Reads w pb l) (hl : l.length ≤ 1000) :
    Calls Try.prog 61 #[.slice pa l.length ca, .slice pb l.length cb] w fun e w' => e = .returned (.bool true) ∧ ∃ n, w' = w.drewN n := by
  have hne : ((l.length : Int) != (l.length : Int)) = false := by simp
  have HA := Lib.hid ha; have HB := Lib.hid hb; clear ha hb
  go_enter Try.func61, Try.ntmps61
  go_wp2_with fail
  go_loopw [13] (fun i wr => ∃ k : Nat, k ≤ l.length ∧ i = .int .i64 k ∧ ∃ n, wr = w.drewN n) (fun i _ => l.length - (intOf i).toNat)
  case atStart => exact ⟨0, Nat.zero_le _, rfl, 0, rfl⟩
  case round =>
    obtain ⟨k, hk, rfl, n, rfl⟩ := hrel
    by_cases hkl : k < l.length
    · rcases HA.out with h | ⟨b, o, hp, ra⟩
      · subst h; simp at hkl
      rcases HB.out with h | ⟨b2, o2, hp2, rb⟩
      · subst h; simp at hkl
      subst hp; subst hp2
      obtain ⟨a0, a1, a2, a3, a4⟩ := ra k hkl
      obtain ⟨b0, b1, b2', b3, b4⟩ := rb k hkl
      have hi0 : (0 : Int) ≤ (k : Int) := by omega
      have hi1 : (k : Int) < (l.length : Int) := by omega
      clear ra rb
      go_wp2_with fail
      go_quiet (fail)
      go_wp2_with fail
      go_roundw
      case rel => exact ⟨k + 1, by omega, by go_num, _, rfl⟩
      case measure => simp [intOf]; omega
    · go_wp2_with fail
      go_ret
      exact ⟨rfl, _, rfl⟩

set_option maxHeartbeats 1000000 in
theorem same_same (w : World) (pa pb : Option Addr) (ca cb : Nat) (l : List Dec) (ha : Reads w pa l) (hb : Reads w pb l) (hl : l.length ≤ 1000) :
    Calls Try.prog 24 #[.agg #[.slice pa l.length ca], .agg #[.slice pb l.length cb]] w fun e w' => e = .returned (.bool true) ∧ Below w.heap.size w w' := by
  have hW : Below w.heap.size w ((w.alloc (.cells #[.slice pa l.length ca] 25)).alloc (.cells #[.slice pb l.length cb] 25)) := ((Below.refl _ _).alloc (Nat.le_refl _) _).alloc (by simp) _
  have cE := equal_same ((w.alloc (.cells #[.slice pa l.length ca] 25)).alloc (.cells #[.slice pb l.length cb] 25)) pa pb ca cb l (ha.mono hW) (hb.mono hW) hl
  have CE := Lib.hid cE; have HW := Lib.hid hW; clear cE hW ha hb
  go_enter Try.func24, Try.ntmps24
  go_wp2_with fail
  refine CE.out.mono ?_
  rintro e w1 ⟨rfl, n, rfl⟩
  go_wp2_with fail
  go_ret
  exact ⟨rfl, below_drewN HW.out _⟩

/-- What Then answers. -/
def ThenPost (w : World) (l : List Dec) (e : Ending) (w' : World) : Prop :=
  ∃ (p : Option Addr) (c : Nat), e = .returned (.agg #[.slice p l.length c]) ∧ l.length ≤ c ∧ Reads w' p l ∧ Below w.heap.size w w'

theorem res32_run {W : World} {b : Nat} {v : Value} {a : Act} (hh : W.heap[b]? = some (.cells #[v] 25 (0, 0))) (ht : a.tmps.getD 4 undef = .pointer (some ⟨b, 0, none⟩)) :
    (results Try.f32 a.tmps).run Try.prog W = .ok (.agg #[v]) W := by
  have e0 := cell_of_row _ b 0 _ _ _ hh
  simp at e0 ht
  clear hh
  simp [results, Try.results32, go_sem, ht, e0]

set_option maxHeartbeats 1000000 in
theorem then_any (w : World) {p : Option Addr} {c : Nat} (day : Int) (l : List Dec) (hg : Good l) (hl : l.length ≤ 1000) (hc : l.length ≤ c) (hr : Reads w p l) :
    Calls Try.prog 32 #[.agg #[.slice p l.length c], .int .i64 day] w (ThenPost w (l.take (cutN l day))) := by
  have hW : Below w.heap.size w ((w.alloc (.cells #[.slice p l.length c] 25)).alloc (.cells #[.slice none 0 0] 25)) := ((Below.refl _ _).alloc (Nat.le_refl _) _).alloc (by simp) _
  have hcut := cutN_le l day
  have cU := until_any ((w.alloc (.cells #[.slice p l.length c] 25)).alloc (.cells #[.slice none 0 0] 25)) (p := p) (c := c) day l hg hl hc (hr.mono hW)
  have hrW := hr.mono hW
  generalize cutN l day = m at *
  have hlm : (l.take m).length = m := by simp; omega
  have h0 : ((w.alloc (.cells #[.slice p l.length c] 25)).alloc (.cells #[.slice none 0 0] 25)).heap[w.heap.size + 1]? = some (.cells #[.slice none 0 0] 25 (0, 0)) := heap_alloc2_new w _ _
  have hz : ((w.alloc (.cells #[.slice p l.length c] 25)).alloc (.cells #[.slice none 0 0] 25)).heap.size = w.heap.size + 2 := by simp
  have CU := Lib.hid cU; have HW := Lib.hid hW; have HR := Lib.hid hrW; have H0 := Lib.hid h0; have HZ := Lib.hid hz; have HLM := Lib.hid hlm
  clear cU hW hrW hr h0 hz hlm
  go_enter Try.func32, Try.ntmps32
  go_wp2_with fail
  refine CU.out.mono ?_
  rintro e w1 ⟨rfl, hb1⟩
  have cC := clone_any w1 (p := p) (c := c) (l.take m) (by rw [HLM.out]; omega) ((HR.out.mono hb1).take m)
  rw [HLM.out] at cC
  have CC := Lib.hid cC; clear cC
  go_wp2_with fail
  refine CC.out.mono ?_
  rintro e w2 ⟨v, rfl, hown, hb2⟩
  have hb12 := below_step hb1 hb2
  have hc2 := (hb12.block (w.heap.size + 1) (by rw [HZ.out]; omega)).trans H0.out
  have hc2c := cell_of_row _ (w.heap.size + 1) 0 _ _ _ hc2
  simp at hc2c
  have hc2f : w2.frozen? ⟨w.heap.size + 1, 0, none⟩ = false := by simp [World.frozen?, hc2]
  have hb02 := below_step HW.out hb12
  obtain ⟨a, cap, rfl⟩ : ∃ a cap, v = .slice a m cap := by
    rcases hown.2 with ⟨hv, h0⟩ | ⟨q, cap, cur, hv, _⟩
    · rw [HLM.out] at h0; exact ⟨none, 0, by rw [hv, h0]⟩
    · exact ⟨_, cap, by rw [hv, HLM.out]⟩
  have hsz1 : w.heap.size + 2 ≤ w1.heap.size := by have := hb1.size; rw [HZ.out] at this; exact this
  obtain ⟨p', c', hv, hc', hx⟩ := dv_of_own hown
  rw [HLM.out] at hv hc'
  injection hv with hv1 _ hv3
  subst hv1; subst hv3
  have hrd : Reads (w2.setCell ⟨w.heap.size + 1, 0, none⟩ (.slice a m cap)) a (l.take m) := by
    rcases hx with h | ⟨b, hp, hq, h⟩
    · exact .inl h
    · refine .inr ⟨b, 0, hp, fun j hj => ?_⟩
      obtain ⟨e0, e1, e2, e3, e4⟩ := h j hj
      have hne : ∀ (i : Nat), (⟨w.heap.size + 1, 0, none⟩ : Addr) ≠ ⟨b, i, none⟩ := fun i e => by injection e with e; omega
      exact ⟨(World.cell?_setCell_other _ _ _ _ (hne _)).trans e0, (World.cell?_setCell_other _ _ _ _ (hne _)).trans e1, (World.cell?_setCell_other _ _ _ _ (hne _)).trans e2, (World.cell?_setCell_other _ _ _ _ (hne _)).trans e3, (World.cell?_setCell_other _ _ _ _ (hne _)).trans e4⟩
  have hres := heap_setCell_same w2 (w.heap.size + 1) 0 _ _ (.slice a m cap) hc2
  have HRD := Lib.hid hrd; have HRES := Lib.hid hres; have HB := Lib.hid (hb02.setCell (p := ⟨w.heap.size + 1, 0, none⟩) (by show w.heap.size ≤ w.heap.size + 1; omega) (.slice a m cap))
  have HC := Lib.hid hc'
  clear hrd hres hb02 hc2 hown hx hb12 hb1 hb2 CU CC hc'
  go_wp2_with fail
  refine bodyPost_ret (res32_run (v := .slice a m cap) (by rw [HRES.out]; rfl) rfl) rfl ?_
  exact ⟨a, cap, by rw [HLM.out], by rw [HLM.out]; exact HC.out, HRD.out, HB.out⟩
end Go.Proofs.Ytogcpjkgliijmaa
