/- window.first, where every window serves. -/
import Derived.Test.YtcppmkimfoajaaaWnD
import Derived.Test.YtcppmkimfoajaaaWnE
namespace Go.Proofs.Ytcppmkimfoajaaa
open Go.RowKit
set_option linter.all false

def okW (d team : Int) (L : List Win) (T : Nat → List Int) (j : Nat) : Bool := decide (d < (L.getD j win0).to_) && hasB team (T j)
def FirstR (d team : Int) (L : List Win) (T : Nat → List Int) (r : Int) (ok : Bool) : Prop :=
  (r = 0 ∧ ok = false ∧ ∀ j, j < L.length → okW d team L T j = false) ∨ ∃ k : Nat, k < L.length ∧ r = max d (L.getD k win0).from_ ∧ ok = true ∧ okW d team L T k = true ∧ ∀ j, j < k → okW d team L T j = false
def FirstP (d team : Int) (L : List Win) (T : Nat → List Int) (w : World) (e : Ending) (w' : World) : Prop := ∃ r ok, e = .returned (.tuple #[.int .i64 r, .bool ok]) ∧ FirstR d team L T r ok ∧ Below w.heap.size w w'
def FsRel (w : World) (d team : Int) (L : List Win) (T : Nat → List Int) (iv : Value) (wr : World) : Prop := ∃ k : Nat, iv = .int .i64 (k : Int) ∧ k ≤ L.length ∧ (∀ j, j < k → okW d team L T j = false) ∧ Below w.heap.size w wr

theorem ok_snoc {d team : Int} {L : List Win} {T : Nat → List Int} {k : Nat} (h : ∀ j, j < k → okW d team L T j = false) (hk : okW d team L T k = false) : ∀ j, j < k + 1 → okW d team L T j = false := fun j hj => by
  rcases Nat.lt_succ_iff_lt_or_eq.1 hj with h' | h'
  · exact h j h'
  · rw [h']; exact hk

set_option maxRecDepth 100000 in
set_option maxHeartbeats 4000000 in
theorem first_any (p q r : Option Addr) (c1 n2 c2 n c : Nat) (L : List Win) (T : Nat → List Int) (d team : Int) (w : World) (hl : L.length ≤ 1000) (hL : WinsAt w p L) (hT : TsAt w L T) :
    Calls Try.prog 45 #[.agg #[.slice p L.length c1, .slice q n2 c2, .slice r n c], .int .i64 team, .int .i64 d, .func (.func 46) #[] #[]] w (FirstP d team L T w) := by
  have hb0 := (Below.refl w.heap.size w).alloc (Nat.le_refl _) (.cells #[.slice p L.length c1, .slice q n2 c2, .slice r n c] 46)
  have HB0 := Lib.hid hb0; have HL := Lib.hid hL; have HT := Lib.hid hT
  obtain ⟨N, hN⟩ : ∃ N, L.length = N := ⟨_, rfl⟩
  have HN := Lib.hid hN
  rw [hN] at hl ⊢
  clear hb0 hL hT hN
  go_enter Try.func45, Try.ntmps45
  go_wp2_with fail
  go_loopw [10, 11, 15] (fun _ _ iv wr => FsRel w d team L T iv wr) (fun _ _ iv _ => N - (intOf iv).toNat)
  case atStart => exact ⟨0, rfl, Nat.zero_le _, fun j hj => absurd hj (by omega), by have := HB0.out; rw [HN.out] at this; exact this⟩
  case round =>
    obtain ⟨k, rfl, hk, hj, hb⟩ := hrel
    rw [HN.out] at hk
    by_cases hlt : k < N
    · have hkl : k < L.length := by rw [HN.out]; exact hlt
      obtain ⟨b, o, hp, e0, e1, e2⟩ := HL.out k hkl
      obtain ⟨t1, t2, t3⟩ := HT.out k hkl
      rw [t1] at e2
      subst hp
      have e0 := cell_later' hb e0
      have e1 := cell_later' hb e1
      have e2 := cell_later' hb e2
      have hi0 : (0 : Int) ≤ (k : Int) := by omega
      have hi2 : (k : Int) < (N : Int) := by omega
      have hdd : decide (k < N) = true := decide_eq_true hlt
      have cC := fun W (hB : Below wr.heap.size wr W) => contains_any (L.getD k win0).a (L.getD k win0).c (T k) team W t2 ((t3.step hb).step hB)
      have hok : okW d team L T k = (decide (d < (L.getD k win0).to_) && hasB team (T k)) := rfl
      have hFR : ∀ rr : Int, rr = max d (L.getD k win0).from_ → okW d team L T k = true → FirstR d team L T rr true := fun rr h1 h2 => .inr ⟨k, hkl, h1, rfl, h2, hj⟩
      generalize hz : okW d team L T k = z at *
      have HZ := Lib.hid hz; clear hz
      generalize (L.getD k win0).from_ = f at *
      generalize (L.getD k win0).to_ = t at *
      generalize (L.getD k win0).a = a' at *
      generalize (L.getD k win0).c = c' at *
      generalize hasB team (T k) = y at *
      have CC := Lib.hid cC; have HBE := Lib.hid hb; have HJ := Lib.hid hj; have HFR := Lib.hid hFR; have HOK := Lib.hid hok
      have CA := Lib.hid always_any
      have ha := (Below.refl wr.heap.size wr).alloc (Nat.le_refl _) (.cells #[.int .i64 f, .int .i64 t, .slice a' (T k).length c'] 58)
      have HA := Lib.hid ha
      clear cC hb hj hFR hok t1 t2 t3 ha
      by_cases hdt : d < t
      · have g1 : decide (d < t) = true := decide_eq_true hdt
        cases y with
        | true =>
          go_wp2_with fail
          refine (CC.out _ HA.out).mono ?_
          rintro e w1 ⟨rfl, rfl⟩
          go_wp2_with fail
          refine (CA.out _ _).mono ?_
          rintro e w1 ⟨rfl, rfl⟩
          by_cases hm : d < f
          · go_wp2_with fail
            exact bodyPost_ret (v := .tuple #[.int .i64 f, .bool true]) (by simp [results, Try.results45, go_sem]) rfl ⟨f, true, rfl, HFR.out f (by omega) (by rw [HOK.out, g1]; rfl), HBE.out.trans (HA.out.mono HBE.out.size)⟩
          · go_wp2_with fail
            exact bodyPost_ret (v := .tuple #[.int .i64 d, .bool true]) (by simp [results, Try.results45, go_sem]) rfl ⟨d, true, rfl, HFR.out d (by omega) (by rw [HOK.out, g1]; rfl), HBE.out.trans (HA.out.mono HBE.out.size)⟩
        | false =>
          go_wp2_with fail
          refine (CC.out _ HA.out).mono ?_
          rintro e w1 ⟨rfl, rfl⟩
          go_wp2_with fail
          go_roundw
          case rel => exact ⟨k + 1, by go_num, by rw [HN.out]; omega, ok_snoc HJ.out (by rw [HZ.out, HOK.out, g1]; rfl), HBE.out.trans (HA.out.mono HBE.out.size)⟩
          case measure => simp [intOf]; omega
      · have g1 : decide (d < t) = false := decide_eq_false hdt
        go_wp2_with fail
        go_roundw
        case rel => exact ⟨k + 1, by go_num, by rw [HN.out]; omega, ok_snoc HJ.out (by rw [HZ.out, HOK.out, g1]; rfl), HBE.out.trans (HA.out.mono HBE.out.size)⟩
        case measure => simp [intOf]; omega
    · have hk2 : k = N := by omega
      subst hk2
      have HJ := Lib.hid hj; have HBE := Lib.hid hb
      clear hj hb
      go_wp2_with fail
      exact bodyPost_ret (v := .tuple #[.int .i64 0, .bool false]) (by simp [results, Try.results45, go_sem]) rfl ⟨0, false, rfl, .inl ⟨rfl, rfl, fun j hj => HJ.out j (by rw [← HN.out]; exact hj)⟩, HBE.out⟩
end Go.Proofs.Ytcppmkimfoajaaa
