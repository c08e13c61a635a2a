/- The walk of LedgerKnown. -/
import Derived.Test.YtogcpjkgliijmaaKnown
import Derived.Test.YtogcpjkgliijmaaLAwake
import Derived.Test.YtogcpjkgliijmaaRowIn
namespace Go.Proofs.Ytogcpjkgliijmaa
open Go.RowKit

theorem knownK_mono {l : List Dec} (hg : Good l) : ∀ a b : Nat, a ≤ b → b ≤ l.length → knownK l a ≤ knownK l b := by
  intro a b hab
  induction b with
  | zero => intro _; have : a = 0 := by omega
            subst this; exact Int.le_refl _
  | succ b ih =>
    intro hb
    rcases Nat.eq_or_lt_of_le hab with h | h
    · subst h; exact Int.le_refl _
    · have h1 := ih (by omega) (by omega)
      have h2 := knownK_le hg (k := b) (by omega)
      rw [knownK_succ (by omega)]; omega

theorem cutN_mono {l : List Dec} (hg : Good l) {a b : Int} (hab : a ≤ b) : cutN l a ≤ cutN l b := by
  rcases Nat.lt_or_ge (cutN l b) (cutN l a) with h | h
  · have hl := cutN_le l a
    have h1 := (cutN_good hg a (cutN l b) (by omega)).1 h
    have h2 := (cutN_good hg b (cutN l b) (by omega)).2 (by omega)
    omega
  · exact h

theorem known_nonneg {l : List Dec} (hg : Good l) (k : Nat) (hk : k ≤ l.length) : 0 ≤ knownK l k := by
  have := knownK_mono hg 0 k (by omega) hk
  rw [knownK_zero] at this; exact this

/-- After Roll and Ledger: what is old is as it was. -/
theorem below_grown {w w1 w2 : World} (hb : Below w.heap.size w w1) (hg : w1.grownBy w2 (some w.heap.size)) : Below w.heap.size w w2 :=
  ⟨hg.os.trans hb.os, hg.tape.trans hb.tape, hg.output.trans hb.output, Nat.le_trans hb.size hg.size, fun k hk => (hg.block k (Nat.lt_of_lt_of_le hk hb.size) (by simp; omega)).trans (hb.block k hk)⟩

set_option maxHeartbeats 1000000 in
theorem lknown_heavy (w : World) (a : Option Addr) (n c : Nat) (h : decide (n ≤ 400) = false) :
    Calls Try.prog 7 #[.slice a n c] w fun e w' => e = .returned (.bool true) ∧ Below w.heap.size w w' := by
  go_enter Try.func7, Try.ntmps7
  go_wp2_with fail
  refine (light_any a n c false _ h).mono ?_
  rintro e w1 ⟨rfl, rfl⟩
  go_wp2_with fail
  refine (lawake_any _).mono ?_
  rintro e w2 ⟨rfl, hb⟩
  go_wp2_with fail
  go_ret
  exact ⟨rfl, hb⟩

set_option maxRecDepth 100000 in
set_option maxHeartbeats 8000000 in
theorem lknown_light (w : World) (a : Option Addr) (n c : Nat) (h : decide (n ≤ 400) = true) (hi : Ints w w.heap.size a n) :
    Calls Try.prog 7 #[.slice a n c] w fun e w' => e = .returned (.bool true) ∧ Below w.heap.size w w' := by
  have h400 : n ≤ 400 := by simpa using h
  have cR := roll_any a n c w h400 hi
  have CR := Lib.hid cR; clear cR hi
  go_enter Try.func7, Try.ntmps7
  go_wp2_with fail
  refine (light_any a n c true _ h).mono ?_
  rintro e w0 ⟨rfl, rfl⟩
  go_wp2_with fail
  refine CR.out.mono ?_
  rintro e w1 ⟨rfl, hd, hb1⟩
  go_wp2_with fail
  refine (ledger_any w1 _ 14 hd (by omega)).mono ?_
  rintro e w2 ⟨l, p, q, rfl, hg, hl, hq, hs, hx, hd2, hg2⟩
  have hb2 := below_grown hb1 hg2
  have hr : l = [] ∨ ∃ b o, p = some ⟨b, o, none⟩ ∧ Row w2 b o l := by
    rcases hx with h | ⟨b, hp, _, h⟩
    · exact .inl h
    · exact .inr ⟨b, 0, hp, h⟩
  clear hd hd2 hg2 hs hx hb1 CR h h400
  have HR := Lib.hid hr; have HB := Lib.hid hb2; have HG := Lib.hid hg; clear hr hb2 hg
  go_wp2_with fail
  obtain ⟨B, hBe⟩ : ∃ B, B = w2.heap.size := ⟨_, rfl⟩
  rw [← hBe]
  obtain ⟨W0, hW0⟩ : ∃ W0, W0 = w2.alloc (.cells #[.slice p l.length q] 25) := ⟨_, rfl⟩
  rw [← hW0]
  have hbox : W0.cell? ⟨B, 0, none⟩ = some (.slice p l.length q) := by subst hW0; subst hBe; simp
  have hz : W0.heap.size = B + 1 := by subst hW0; subst hBe; simp
  have hb0 : Below w0.heap.size w0 W0 := by subst hW0; exact HB.out.alloc HB.out.size _
  have hrow0 : l = [] ∨ ∃ b o, p = some ⟨b, o, none⟩ ∧ Row W0 b o l := by
    rcases HR.out with h | ⟨b, o, hp, h⟩
    · exact .inl h
    · exact .inr ⟨b, o, hp, by subst hW0; exact h.mono ((Below.refl _ _).alloc (Nat.le_refl _) _)⟩
  have hl1 : l.length ≤ 1000 := by omega
  have HBOX := Lib.hid hbox; have HZ := Lib.hid hz; have HB0 := Lib.hid hb0; have HR0 := Lib.hid hrow0
  clear hBe hW0 hbox hz hb0 hrow0 HB HR
  go_loopw [5, 4] (fun day last wr => ∃ (t : Nat) (x : Int), t ≤ 32 ∧ day = .int .i64 t ∧ last = .int .i64 x ∧ x ≤ knownK l (cutN l t) ∧ Below W0.heap.size W0 wr) (fun day _ _ => 32 - (intOf day).toNat)
  case atStart => exact ⟨0, 0, by omega, rfl, rfl, known_nonneg HG.out _ (cutN_le _ _), Below.refl _ _⟩
  case round =>
    obtain ⟨t, x, ht, rfl, rfl, hx, hb⟩ := hrel
    obtain ⟨wo, rfl⟩ : ∃ wo : World, wo = wr := ⟨_, rfl⟩
    by_cases ht2 : t < 32
    · have hboxr := cell_later hb HBOX.out
      have hsz := hb.size
      have hrowr : l = [] ∨ ∃ b o, p = some ⟨b, o, none⟩ ∧ Row wo b o l := by
        rcases HR0.out with h | ⟨b, o, hp, h⟩
        · exact .inl h
        · exact .inr ⟨b, o, hp, h.mono hb⟩
      have cK := known_any wo (p := p) (c := q) t l HG.out hl1 hq hrowr
      have CK := Lib.hid cK; have HBR := Lib.hid hb; have HX := Lib.hid hx
      clear cK hb hx hrowr
      go_wp2_with fail
      refine CK.out.mono ?_
      rintro e w3 ⟨rfl, hb3⟩
      have hb4 := below_step HBR.out hb3
      have hboxr3 := cell_later hb3 hboxr
      clear hboxr CK HBR
      have HB4 := Lib.hid hb4; clear hb4 hb3
      go_wp2_with fail
      obtain ⟨wi, rfl⟩ : ∃ wi : World, wi = w3 := ⟨_, rfl⟩
      have hcl := cutN_le l t
      go_loopw [27, 7] (fun i want wr => ∃ k : Nat, k ≤ l.length ∧ i = .int .i64 k ∧ want = .int .i64 (knownK l (min k (cutN l t))) ∧ Below W0.heap.size W0 wr) (fun i _ _ => l.length - (intOf i).toNat)
      case atStart => exact ⟨0, Nat.zero_le _, rfl, by rw [Nat.zero_min, knownK_zero], HB4.out⟩
      case round =>
        obtain ⟨k, hk, rfl, rfl, hb⟩ := hrel
        by_cases hkl : k < l.length
        · rcases HR0.out with h | ⟨b, o, hp, hrow⟩
          · subst h; simp at hkl
          subst hp
          obtain ⟨c0, c1, c2, c3, c4⟩ := (hrow.mono hb) k hkl
          have hsz2 := hb.size
          have hcg := cutN_good HG.out t k hkl
          have HBB := Lib.hid hb; clear hb hrow
          by_cases hd : l[k].day ≤ t
          · have hkc := hcg.2 hd
            have hw : l[k].known = knownK l (min (k + 1) (cutN l t)) := by rw [Nat.min_eq_left (by omega), knownK_succ hkl]
            have hdb : decide (l[k].day ≤ (t : Int)) = true := by simpa using hd
            have HW := Lib.hid hw; clear hw hcg hd
            go_wp2_with fail
            go_roundw
            case rel => exact ⟨k + 1, by omega, by go_num, val_i HW.out, HBB.out.alloc hsz2 _⟩
            case measure => simp [intOf]; omega
          · have hkc : cutN l t ≤ k := by
              rcases Nat.lt_or_ge k (cutN l t) with h | h
              · exact absurd (hcg.1 h) hd
              · exact h
            have hw : knownK l (min k (cutN l t)) = knownK l (min (k + 1) (cutN l t)) := by rw [Nat.min_eq_right hkc, Nat.min_eq_right (by omega)]
            have hdb : decide (l[k].day ≤ (t : Int)) = false := by simpa using hd
            have HW := Lib.hid hw; clear hw hcg hd
            go_wp2_with fail
            go_roundw
            case rel => exact ⟨k + 1, by omega, by go_num, val_i HW.out, HBB.out.alloc hsz2 _⟩
            case measure => simp [intOf]; omega
        · have hkl2 : k = l.length := by omega
          have hmin : min k (cutN l t) = cutN l t := by rw [hkl2]; exact Nat.min_eq_right hcl
          rw [hmin]
          clear hmin hkl2
          have hmono := knownK_mono HG.out (cutN l t) (cutN l ((t : Int) + 1)) (cutN_mono HG.out (by omega)) (cutN_le _ _)
          have hx := HX.out
          have hnl : decide (knownK l (cutN l t) < x) = false := by simp; omega
          have hne : (knownK l (cutN l t) != knownK l (cutN l t)) = false := by simp
          have HM := Lib.hid hmono; have HBB := Lib.hid hb
          clear hmono hx hb
          go_wp2_with fail
          go_roundw
          case rel => exact ⟨t + 1, knownK l (cutN l t), by omega, by go_num, rfl, HM.out, HBB.out⟩
          case measure => simp [intOf]; omega
    · have : t = 32 := by omega
      subst this
      go_wp2_with fail
      refine (lawake_any _).mono ?_
      rintro e w3 ⟨rfl, hb3⟩
      go_wp2_with fail
      go_ret
      exact ⟨rfl, below_step (below_step HB0.out hb) hb3⟩

theorem lknown_any (w : World) (a : Option Addr) (n c : Nat) (hi : Ints w w.heap.size a n) :
    Calls Try.prog 7 #[.slice a n c] w fun e w' => e = .returned (.bool true) ∧ Below w.heap.size w w' := by
  cases h : decide (n ≤ 400)
  · exact lknown_heavy w a n c h
  · exact lknown_light w a n c h hi
end Go.Proofs.Ytogcpjkgliijmaa
