/- window.first where something holds of a window. -/
import Derived.Test.YtnconhbambhhgaaFlA
namespace Go.Proofs.Ytnconhbambhhgaa
open Go.RowKit
set_option linter.all false

set_option maxRecDepth 100000 in
set_option maxHeartbeats 4000000 in
theorem firstH_any (p q r : Option Addr) (c1 n2 c2 n c : Nat) (L : List Win) (T : Nat → List Int) (d team : Int) (w : World) (hl : L.length ≤ 32) (hL : WinsAt w p L) (hT : TsAt w L T) (hB : Nat → Bool) (H g C : Nat)
    (hcl : ∀ k W, k < L.length → Below w.heap.size w W → Calls Try.prog 33 #[.int .i64 (k : Int), .pointer (some ⟨H, 0, none⟩), .pointer (some ⟨g, 0, none⟩), .pointer (some ⟨C, 0, none⟩)] W (BoolP (hB k) W)) :
    Calls Try.prog 32 #[.agg #[.slice p L.length c1, .slice q n2 c2, .slice r n c], .int .i64 team, .int .i64 d, .func (.func 33) #[] #[.pointer (some ⟨H, 0, none⟩), .pointer (some ⟨g, 0, none⟩), .pointer (some ⟨C, 0, none⟩)]] w (FirstHP hB d team L T w) := by
  have HCL := Lib.hid hcl; clear hcl
  have hb0 := (Below.refl w.heap.size w).alloc (Nat.le_refl _) (.cells #[.slice p L.length c1, .slice q n2 c2, .slice r n c] 38)
  have HB0 := Lib.hid hb0; have HL := Lib.hid hL; have HT := Lib.hid hT
  obtain ⟨N, hN⟩ : ∃ N, L.length = N := ⟨_, rfl⟩
  have HN := Lib.hid hN
  rw [hN] at hl ⊢
  clear hb0 hL hT hN
  go_enter Try.func32, Try.ntmps32
  go_wp2_with fail
  go_loopw [10, 11, 15] (fun _ _ iv wr => FhRel hB w d team L T iv wr) (fun _ _ iv _ => N - (intOf iv).toNat)
  case atStart => exact ⟨0, rfl, Nat.zero_le _, fun j hj => absurd hj (by omega), by have := HB0.out; rw [HN.out] at this; exact this⟩
  case round =>
    obtain ⟨k, rfl, hk, hj, hb⟩ := hrel
    rw [HN.out] at hk
    by_cases hlt : k < N
    · have hkl : k < L.length := by rw [HN.out]; exact hlt
      obtain ⟨b, o, hp, e0, e1, e2⟩ := HL.out k hkl
      obtain ⟨t1, t2, t3⟩ := HT.out k hkl
      rw [t1] at e2
      subst hp
      have e0 := cell_later' hb e0
      have e1 := cell_later' hb e1
      have e2 := cell_later' hb e2
      have hi0 : (0 : Int) ≤ (k : Int) := by omega
      have hi2 : (k : Int) < (N : Int) := by omega
      have hdd : decide (k < N) = true := decide_eq_true hlt
      have cC := fun W (hB : Below wr.heap.size wr W) => contains_any (L.getD k win0).a (L.getD k win0).c (T k) team W t2 ((t3.step hb).step hB)
      have hok : okH hB d team L T k = ((decide (d < (L.getD k win0).to_) && hasB team (T k)) && hB k) := rfl
      have hFR : ∀ rr : Int, rr = max d (L.getD k win0).from_ → okH hB d team L T k = true → FirstHR hB d team L T rr true := fun rr h1 h2 => .inr ⟨k, hkl, h1, rfl, h2, hj⟩
      generalize hz : okH hB d team L T k = z at *
      have HZ := Lib.hid hz; clear hz
      generalize (L.getD k win0).from_ = f at *
      generalize (L.getD k win0).to_ = t at *
      generalize (L.getD k win0).a = a' at *
      generalize (L.getD k win0).c = c' at *
      generalize hasB team (T k) = y at *
      have CK := Lib.hid (fun W (hW : Below wr.heap.size wr W) => HCL.out k W hkl (hb.trans (hW.mono hb.size)))
      generalize hB k = hk0 at *
      have CC := Lib.hid cC; have HBE := Lib.hid hb; have HJ := Lib.hid hj; have HFR := Lib.hid hFR; have HOK := Lib.hid hok
      have ha := (Below.refl wr.heap.size wr).alloc (Nat.le_refl _) (.cells #[.int .i64 f, .int .i64 t, .slice a' (T k).length c'] 77)
      have HA := Lib.hid ha
      clear cC hb hj hFR hok t1 t2 t3 ha
      by_cases hdt : d < t
      · have g1 : decide (d < t) = true := decide_eq_true hdt
        cases y with
        | true =>
          go_wp2_with fail
          refine (CC.out _ HA.out).mono ?_
          rintro e w1 ⟨rfl, rfl⟩
          go_wp2_with fail
          refine (CK.out _ HA.out).mono ?_
          rintro e w2 ⟨rfl, hb2⟩
          have HB2 := Lib.hid ((HBE.out.trans (HA.out.mono HBE.out.size)).trans (hb2.mono (by have := HBE.out.size; have := HA.out.size; omega)))
          have z0 := cell_later' hb2 (show (wr.alloc (.cells #[.int .i64 f, .int .i64 t, .slice a' (T k).length c'] 77)).cell? ⟨wr.heap.size, 0, none⟩ = some (.int .i64 f) by simp)
          clear hb2
          cases hk0 with
          | true =>
            by_cases hm : d < f
            · go_wp2_with fail
              exact bodyPost_ret (v := .tuple #[.int .i64 f, .bool true]) (by simp [results, Try.results32, go_sem]) rfl ⟨f, true, rfl, HFR.out f (by omega) (by rw [HOK.out, g1]; rfl), HB2.out⟩
            · go_wp2_with fail
              exact bodyPost_ret (v := .tuple #[.int .i64 d, .bool true]) (by simp [results, Try.results32, go_sem]) rfl ⟨d, true, rfl, HFR.out d (by omega) (by rw [HOK.out, g1]; rfl), HB2.out⟩
          | false =>
            go_wp2_with fail
            go_roundw
            case rel => exact ⟨k + 1, by go_num, by rw [HN.out]; omega, okh_snoc HJ.out (by rw [HZ.out, HOK.out, g1]; rfl), HB2.out⟩
            case measure => simp [intOf]; omega
        | false =>
          go_wp2_with fail
          refine (CC.out _ HA.out).mono ?_
          rintro e w1 ⟨rfl, rfl⟩
          go_wp2_with fail
          go_roundw
          case rel => exact ⟨k + 1, by go_num, by rw [HN.out]; omega, okh_snoc HJ.out (by rw [HZ.out, HOK.out, g1]; (first | rfl | (cases hk0 <;> rfl))), HBE.out.trans (HA.out.mono HBE.out.size)⟩
          case measure => simp [intOf]; omega
      · have g1 : decide (d < t) = false := decide_eq_false hdt
        go_wp2_with fail
        go_roundw
        case rel => exact ⟨k + 1, by go_num, by rw [HN.out]; omega, okh_snoc HJ.out (by rw [HZ.out, HOK.out, g1]; (first | rfl | (cases hk0 <;> rfl))), HBE.out.trans (HA.out.mono HBE.out.size)⟩
        case measure => simp [intOf]; omega
    · have hk2 : k = N := by omega
      subst hk2
      have HJ := Lib.hid hj; have HBE := Lib.hid hb
      clear hj hb
      go_wp2_with fail
      exact bodyPost_ret (v := .tuple #[.int .i64 0, .bool false]) (by simp [results, Try.results32, go_sem]) rfl ⟨0, false, rfl, .inl ⟨rfl, rfl, fun j hj => HJ.out j (by rw [← HN.out]; exact hj)⟩, HBE.out⟩
end Go.Proofs.Ytnconhbambhhgaa
