/- window.may. -/
import Derived.Test.YtnconhbambhhgaaWnC
namespace Go.Proofs.Ytnconhbambhhgaa
open Go.RowKit
set_option linter.all false

/-- The windows' teams. -/
def TsAt (W : World) (L : List Win) (T : Nat → List Int) : Prop := ∀ j, j < L.length → (L.getD j win0).n = (T j).length ∧ (T j).length ≤ 1000 ∧ TeamsAt W (L.getD j win0).a (T j)
theorem TsAt.step {W W' : World} {L : List Win} {T : Nat → List Int} (h : TsAt W L T) (hb : Below W.heap.size W W') : TsAt W' L T := fun j hj => ⟨(h j hj).1, (h j hj).2.1, (h j hj).2.2.step hb⟩

/-- Whether the window r, if there is one, names the team. -/
def mayR (r team : Int) (T : Nat → List Int) : Bool := decide (0 ≤ r) && hasB team (T r.toNat)
def MayP (d team : Int) (L : List Win) (T : Nat → List Int) (w : World) (e : Ending) (w' : World) : Prop := ∃ r : Int, FindR d L r ∧ e = .returned (.bool (mayR r team T)) ∧ Below w.heap.size w w'

set_option maxRecDepth 100000 in
set_option maxHeartbeats 2000000 in
theorem may_any (p q r : Option Addr) (c1 n2 c2 n c : Nat) (L : List Win) (T : Nat → List Int) (d team : Int) (w : World) (hl : L.length ≤ 1000) (hL : WinsAt w p L) (hT : TsAt w L T) :
    Calls Try.prog 48 #[.agg #[.slice p L.length c1, .slice q n2 c2, .slice r n c], .int .i64 team, .int .i64 d] w (MayP d team L T w) := by
  have hb0 := (Below.refl w.heap.size w).alloc (Nat.le_refl _) (.cells #[.slice p L.length c1, .slice q n2 c2, .slice r n c] 38)
  have k0 : (w.alloc (.cells #[.slice p L.length c1, .slice q n2 c2, .slice r n c] 38)).cell? ⟨w.heap.size, 0, none⟩ = some (.slice p L.length c1) := by simp
  have CF := Lib.hid (find_any p q r c1 n2 c2 n c L d _ hl (hL.step hb0))
  have HB0 := Lib.hid hb0; have HL := Lib.hid hL; have HT := Lib.hid hT; have K0 := Lib.hid k0
  clear hb0 hL hT k0
  go_enter Try.func48, Try.ntmps48
  go_wp2_with fail
  refine (CF.out).mono ?_
  rintro e w1 ⟨x, rfl, hx, hb1⟩
  have k0 := cell_later' hb1 K0.out
  have hb2 := HB0.out.trans (hb1.mono HB0.out.size)
  have hL1 := HL.out.step hb2
  have hT1 := HT.out.step hb2
  have HB2 := Lib.hid hb2; have HX := Lib.hid hx
  clear hb1 hb2 K0 CF HB0 HL HT
  rcases hx with ⟨rfl, _⟩ | ⟨k, rfl, hk, _, _⟩
  · clear hL1 hT1
    go_wp2_with fail
    go_ret
    exact ⟨-1, HX.out, rfl, HB2.out⟩
  · obtain ⟨b, o, hp, e0, e1, e2⟩ := hL1 k hk
    obtain ⟨t1, t2, t3⟩ := hT1 k hk
    rw [t1] at e2
    subst hp
    have CC := Lib.hid (contains_any (L.getD k win0).a (L.getD k win0).c (T k) team w1 t2 t3)
    generalize (L.getD k win0).a = a' at *
    generalize (L.getD k win0).c = c' at *
    generalize hh : hasB team (T k) = y at *
    have HH := Lib.hid hh
    generalize hM : L.length = M at *
    clear hL1 hT1 t1 t3 hh e0 e1
    have hi0 : (0 : Int) ≤ (k : Int) := by omega
    have hi1 : (k : Int) < (M : Int) := by omega
    go_wp2_with fail
    refine (CC.out).mono ?_
    rintro e w2 ⟨rfl, rfl⟩
    go_wp2_with fail
    go_ret
    exact ⟨k, HX.out, by unfold mayR; rw [decide_eq_true hi0, Int.toNat_natCast, HH.out]; rfl, HB2.out⟩
end Go.Proofs.Ytnconhbambhhgaa
