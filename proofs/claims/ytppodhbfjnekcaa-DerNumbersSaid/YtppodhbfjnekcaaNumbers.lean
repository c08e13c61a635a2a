/- DerNumbers: the elements of numbers, texts and truth values. -/
import Derived.Test.YtppodhbfjnekcaaAwake
namespace Go.Proofs.Ytppodhbfjnekcaa
open Go.RowKit

set_option maxHeartbeats 1000000 in
theorem numbers_long {n : Int} {s : ByteArray} {q : Bool} {sp : Option Addr} {ll cl : Nat} (w : World) (hbig : decide ((1000 : Int) < (s.size : Int)) = true ∨ decide ((1000 : Int) < (s.size : Int)) = false ∧ decide ((20 : Int) < (ll : Int)) = true) :
    Calls Try.prog 6 #[.int .i64 n, .string s, .bool q, .slice sp ll cl] w fun e w' => e = .returned (.bool true) ∧ Below w.heap.size w w' := by
  rcases hbig with h1 | ⟨h1, h2⟩
  all_goals
    go_enter Try.func6, Try.ntmps6
    go_wp2_with (go_at_call 9; refine (awake_any _).mono ?_; rintro e w' ⟨rfl, hb⟩)
    go_ret
    exact ⟨rfl, hb⟩

/-- An element's variable, some calls later. -/
theorem var_kept {X W : World} {a b c d : Value} {n : Nat} (hn : X.heap.size = n) (h : Below (n + 1) (X.alloc (.cells #[a, b, c, d] 30)) W) :
    (W.cell? ⟨n, 0, none⟩ = some a ∧ W.cell? ⟨n, 1, none⟩ = some b ∧ W.cell? ⟨n, 2, none⟩ = some c ∧ W.cell? ⟨n, 3, none⟩ = some d) := by
  subst hn
  exact (res_kept h).1

set_option maxRecDepth 100000 in
set_option maxHeartbeats 8000000 in
theorem numbers_short {n : Int} {s : ByteArray} {q : Bool} {sp : Option Addr} {ll cl : Nat} {l : List UInt8} (w : World) (h1 : -9223372036854775808 ≤ n) (h2 : n ≤ 9223372036854775807) (hs : s.size ≤ 1000) (hl : ll ≤ 20) (hv : Bts w (.slice sp ll cl) l) :
    Calls Try.prog 6 #[.int .i64 n, .string s, .bool q, .slice sp ll cl] w fun e w' => e = .returned (.bool true) ∧ Below w.heap.size w w' := by
  have g1 : decide ((1000 : Int) < (s.size : Int)) = false := by simp; omega
  have g2 : decide ((20 : Int) < (ll : Int)) = false := by simp; omega
  have hs63 : s.size ≤ 9223372036854775807 := by omega
  have c21 := fun W => int_der n W h1 h2
  have c28 := fun W => int_ref n W h1 h2
  have c20 := fun {W : World} {v : Value} (hb : Bts W v (intB n)) => asInt_der (t := 2) (nb := false) (p := none) (k := 0) (c := 0) W hb
  have hnum := numOf_intB n h1 h2
  have hint : isInt 2 false (intB n) 0 = true := by rw [isInt_eq, hnum]; simp
  simp only [hint, hnum, if_true] at c20
  have c23 := fun W => text_der s W hs63
  have c27 := fun W => text_ref s W hs63
  obtain ⟨rs, re, hres⟩ : ∃ (rs : ByteArray) (re : Int), Hid (isText 12 false s.data.toList 0 = true ∧ rs = strOf s.data.toList ∧ re = 0 ∨ isText 12 false s.data.toList 0 = false ∧ rs = ByteArray.empty ∧ re = 1) := by
    cases hq : isText 12 false s.data.toList 0
    · exact ⟨_, _, Lib.hid (.inr ⟨rfl, rfl, rfl⟩)⟩
    · exact ⟨_, _, Lib.hid (.inl ⟨rfl, rfl, rfl⟩)⟩
  have c22 := fun {W : World} {v : Value} (hb : Bts W v s.data.toList) => asText_der (t := 12) (nb := false) (p := none) (k := 0) (c := 0) W hb _ rfl rs re hres
  have c26 := fun {W : World} {v : Value} (hb : Bts W v s.data.toList) => asText_ref (t := 12) (nb := false) (p := none) (k := 0) (c := 0) W hb _ rfl rs re hres
  have c25 := fun W => bool_der q W
  have c29 := fun W => bool_ref q W
  have c24 := fun {W : World} {v : Value} (hb : Bts W v (boolB q)) => asBool_der (t := 1) (nb := false) (p := none) (k := 0) (c := 0) W hb
  have hbr : boolRes 1 false (boolB q) 0 = (q, 0) := by cases q <;> decide
  simp only [hbr] at c24
  have c19a := fun {W : World} (hW : Below w.heap.size w W) => as_leaf (t := 2) (nb := false) (ep := none) (ec := 0) W (hv.mono hW) (by decide) (by omega)
  have c19b := fun {W : World} (hW : Below w.heap.size w W) => as_leaf (t := 1) (nb := false) (ep := none) (ec := 0) W (hv.mono hW) (by decide) (by omega)
  have c15i := fun {W : World} {va vb : Value} (ha : Bts W va (intB n)) (hb : Bts W vb (intB n)) => same_ref_yes (t := 2) (nb := false) (pa := none) (pb := none) (ca := 0) (cb := 0) W ha hb
  have c15t := fun {W : World} {va vb : Value} (ha : Bts W va s.data.toList) (hb : Bts W vb s.data.toList) => same_ref_yes (t := 12) (nb := false) (pa := none) (pb := none) (ca := 0) (cb := 0) W ha hb
  have c15b := fun {W : World} {va vb : Value} (ha : Bts W va (boolB q)) (hb : Bts W vb (boolB q)) => same_ref_yes (t := 1) (nb := false) (pa := none) (pb := none) (ca := 0) (cb := 0) W ha hb
  clear hres hint hnum hbr hv h1 h2 hs hl hs63
  go_enter Try.func6, Try.ntmps6
  go_wp2_with fail
  refine (c21 _).mono ?_
  rintro e w1 ⟨v1, rfl, q1, b1⟩
  go_wp2_with fail
  refine (c20 q1).mono ?_
  rintro e w2 ⟨rfl, b2⟩
  have b2 := below_step b1 b2
  clear q1 b1
  go_wp2_with fail
  refine (c23 _).mono ?_
  rintro e w3 ⟨v3, rfl, q3, b3⟩
  have b3 := below_step b2 b3
  clear b2
  go_wp2_with fail
  refine (c22 q3).mono ?_
  rintro e w4 ⟨rfl, b4⟩
  have b4 := below_step b3 b4
  clear b3 q3
  go_wp2_with fail
  refine (c25 _).mono ?_
  rintro e w5 ⟨v5, rfl, q5, b5⟩
  have b5 := below_step b4 b5
  clear b4
  go_wp2_with fail
  refine (c24 q5).mono ?_
  rintro e w6 ⟨rfl, b6⟩
  have b6 := below_step b5 b6
  clear b5 q5
  go_wp2_with fail
  refine (c27 _).mono ?_
  rintro e w7 ⟨v7, rfl, q7, b7⟩
  have b7 := below_step b6 b7
  clear b6
  go_wp2_with fail
  refine (c26 q7).mono ?_
  rintro e w8 ⟨rfl, b8⟩
  have b8 := below_step b7 b8
  clear b7 q7
  go_wp2_with fail
  have hA := (b8.alloc (by have := b8.size; omega) (.cells #[.int .i64 2, .slice sp ll cl, .bool false, .slice none 0 0] 30)).alloc (by have := b8.size; simp; omega) (.cells #[.int .i64 1, .slice sp ll cl, .bool false, .slice none 0 0] 30)
  refine (c19a hA).mono ?_
  rintro e w9 ⟨rfl, d9⟩
  obtain ⟨k0, k1, k2, k3⟩ := var_kept (n := w8.heap.size + 1) (by simp) (d9.mono (by simp))
  have b9 := below_step hA d9
  clear hA d9
  go_wp2_with fail
  refine (c19b b9).mono ?_
  rintro e w10 ⟨rfl, b10⟩
  have b10 := below_step b9 b10
  clear b9 k0 k1 k2 k3 c19a c19b
  go_wp2_with fail
  refine (c21 _).mono ?_
  rintro e w11 ⟨v11, rfl, q11, b11⟩
  have b11 := below_step b10 b11
  clear b10
  go_wp2_with fail
  refine (c28 _).mono ?_
  rintro e w12 ⟨v12, rfl, q12, b12⟩
  have q11 := q11.mono b12
  have b12 := below_step b11 b12
  clear b11
  go_wp2_with fail
  refine (c15i q11 q12).mono ?_
  rintro e w13 ⟨rfl, b13⟩
  have b13 := below_step b12 b13
  clear b12 q11 q12 c21 c28 c20 c15i
  go_wp2_with fail
  refine (c23 _).mono ?_
  rintro e w14 ⟨v14, rfl, q14, b14⟩
  have b14 := below_step b13 b14
  clear b13
  go_wp2_with fail
  refine (c27 _).mono ?_
  rintro e w15 ⟨v15, rfl, q15, b15⟩
  have q14 := q14.mono b15
  have b15 := below_step b14 b15
  clear b14
  go_wp2_with fail
  refine (c15t q14 q15).mono ?_
  rintro e w16 ⟨rfl, b16⟩
  have b16 := below_step b15 b16
  clear b15 q14 q15 c23 c27 c22 c26 c15t
  go_wp2_with fail
  refine (c25 _).mono ?_
  rintro e w17 ⟨v17, rfl, q17, b17⟩
  have b17 := below_step b16 b17
  clear b16
  go_wp2_with fail
  refine (c29 _).mono ?_
  rintro e w18 ⟨v18, rfl, q18, b18⟩
  have q17 := q17.mono b18
  have b18 := below_step b17 b18
  clear b17
  go_wp2_with fail
  refine (c15b q17 q18).mono ?_
  rintro e w19 ⟨rfl, b19⟩
  have b19 := below_step b18 b19
  clear b18 q17 q18 c25 c29 c24 c15b
  go_wp2_with fail
  refine (awake_any _).mono ?_
  rintro e w20 ⟨rfl, b20⟩
  have b20 := below_step b19 b20
  go_wp2
  go_ret
  exact ⟨rfl, b20⟩

theorem numbers_any {n : Int} {s : ByteArray} {q : Bool} {sp : Option Addr} {ll cl : Nat} {l : List UInt8} (w : World) (h1 : -9223372036854775808 ≤ n) (h2 : n ≤ 9223372036854775807) (hv : Bts w (.slice sp ll cl) l) :
    Calls Try.prog 6 #[.int .i64 n, .string s, .bool q, .slice sp ll cl] w fun e w' => e = .returned (.bool true) ∧ Below w.heap.size w w' := by
  by_cases hs : s.size ≤ 1000
  · by_cases hl : ll ≤ 20
    · exact numbers_short w h1 h2 hs hl hv
    · exact numbers_long w (.inr ⟨by simp; omega, by simp; omega⟩)
  · exact numbers_long w (.inl (by simp; omega))
end Go.Proofs.Ytppodhbfjnekcaa
