/- Fits of a good calendar behind one more change. -/
import Derived.Test.YtnconhbambhhgaaEaB
import Derived.Test.YtnconhbambhhgaaFiA
namespace Go.Proofs.Ytnconhbambhhgaa
open Go.RowKit
set_option linter.all false

/-- Whether one more change fits. -/
def goodF (L : List Win) (T : Nat → List Int) (R TS DS : List Int) (team : Nat) (k : Int) : Bool := mayF L T k (team : Int) && decide ((cnt L TS DS TS.length (fi k L) team : Int) < R.getD team 0)
def FitsO (b : Bool) (w : World) (e : Ending) (w' : World) : Prop := ∃ x : Int, e = .returned (.int .i64 x) ∧ (decide (x = 0) = b) ∧ Below w.heap.size w w'

theorem fits_snoc (p q r ta da : Option Addr) (L : List Win) (T : Nat → List Int) (Q R TS DS : List Int) (c1 c2 c3 c4 c5 : Nat) (team : Nat) (k : Int) (w : World) (h : GoodCal w p q r L T Q R) (hC : Chx L T R TS DS) (h24 : TS.length ≤ 23) (ht : team < R.length)
    (hTS : TeamsAt w ta (TS ++ [(team : Int)])) (hDS : TeamsAt w da (DS ++ [k])) :
    Calls Try.prog 18 #[.agg #[.slice p L.length c1, .slice q Q.length c2, .slice r R.length c3], .slice ta (TS ++ [(team : Int)]).length c4, .slice da (DS ++ [k]).length c5] w (FitsO (goodF L T R TS DS team k) w) := by
  have hlen : (DS ++ [k]).length = (TS ++ [(team : Int)]).length := by simp [hC.len]
  have h24' : (TS ++ [(team : Int)]).length ≤ 24 := by simp; omega
  have hts : (TS ++ [(team : Int)]).all (isT R.length) = true := by
    rw [List.all_append, hC.tin, Bool.true_and]
    have : isT R.length (team : Int) = true := by
      unfold isT
      rw [decide_eq_true (by omega), decide_eq_true (by omega)]; rfl
    simp [this]
  have hold : ∀ j, j < TS.length → mayF L T ((DS ++ [k]).getD j 0) ((TS ++ [(team : Int)]).getD j 0) = true := fun j hj => by
    rw [getD_snoc_lt _ _ _ hj, getD_snoc_lt _ _ _ (by rw [hC.len]; exact hj)]; exact hC.may j hj
  have hnew : mayF L T ((DS ++ [k]).getD TS.length 0) ((TS ++ [(team : Int)]).getD TS.length 0) = mayF L T k (team : Int) := by
    rw [getD_snoc_eq _ _ _ rfl, getD_snoc_eq _ _ _ (by rw [hC.len])]
  cases hm : mayF L T k (team : Int) with
  | false =>
    refine (fits_bad p q r ta da L T Q R (TS ++ [(team : Int)]) (DS ++ [k]) c1 c2 c3 c4 c5 w h hTS hDS hlen h24' hts TS.length (by simp) hold (by rw [hnew, hm])).mono ?_
    rintro e w' ⟨rfl, hb⟩
    refine ⟨47, rfl, ?_, hb⟩
    unfold goodF
    rw [hm]; rfl
  | true =>
    have hmay : ∀ j, j < (TS ++ [(team : Int)]).length → mayF L T ((DS ++ [k]).getD j 0) ((TS ++ [(team : Int)]).getD j 0) = true := fun j hj => by
      rcases Nat.lt_or_ge j TS.length with h' | h'
      · exact hold j h'
      · have : j = TS.length := by simp at hj; omega
        rw [this, hnew, hm]
    refine (fits_good p q r ta da L T Q R (TS ++ [(team : Int)]) (DS ++ [k]) c1 c2 c3 c4 c5 w h hTS hDS hlen h24' hts hmay).mono ?_
    rintro e w' ⟨cs, x, rfl, hF, hb⟩
    refine ⟨x, rfl, ?_, hb⟩
    unfold goodF
    rw [hm, Bool.true_and]
    have hfl : fi k L < L.length := by
      unfold mayF at hm
      rw [Bool.and_eq_true] at hm
      exact of_decide_eq_true hm.1
    by_cases hc : (cnt L TS DS TS.length (fi k L) team : Int) < R.getD team 0
    · have hN := hC.snoc ht hm hc
      rcases hF with ⟨h0, _⟩ | ⟨_, _, i, t, h1, h2, h3⟩
      · rw [decide_eq_true h0, decide_eq_true hc]
      · have := hN.fit i t h1 h2; omega
    · rw [decide_eq_false hc]
      rcases hF with ⟨_, _, h2⟩ | ⟨h0, _⟩
      · have h3 := h2 (fi k L) team hfl ht
        rw [cnt_snoc_all L TS DS _ _ hC.len, if_pos ⟨rfl, rfl⟩] at h3
        omega
      · rw [h0]; rfl
end Go.Proofs.Ytnconhbambhhgaa
