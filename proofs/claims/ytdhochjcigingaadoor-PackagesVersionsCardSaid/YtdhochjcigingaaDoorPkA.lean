/- packages: lists of numbers in memory; part, Compare, In; SameInts. -/
import Derived.Test.YtdhochjcigingaaDoorAwake
import Derived.Test.YtdhochjcigingaaDoorDice
import Derived.Test.YtdhochjcigingaaDoorShelfP
namespace Go.Proofs.YtdhochjcigingaaDoor
open Go.RowKit
set_option linter.all false

/-- What the library's functions read: bytealg's bound, strconv's two errors and its powers. -/
structure TabP (m : Int) (W : World) : Prop where
  max : W.cell? ⟨2, 0, none⟩ = some (.int .i64 m)
  syn : ∃ te pe, W.cell? ⟨3, 0, none⟩ = some (.iface te pe)
  rng : ∃ te pe, W.cell? ⟨4, 0, none⟩ = some (.iface te pe)
  pow : Lib.TabIs Tryd.prog W "internal/strconv.uint64pow10" .u64 Lib.pow10Tab
  size : 10 ≤ W.heap.size

theorem TabP.below {m : Int} {B : Nat} {W W' : World} (h : TabP m W) (hb : Below B W W') (hB : 10 ≤ B) : TabP m W' := by
  obtain ⟨h3, ⟨a, b, h4⟩, ⟨c, d, h5⟩, h6, h7⟩ := h
  refine ⟨(hb.cell (by simp only; omega)).trans h3, ⟨a, b, (hb.cell (by simp only; omega)).trans h4⟩, ⟨c, d, (hb.cell (by simp only; omega)).trans h5⟩, ?_, by have := hb.size; omega⟩
  unfold Lib.TabIs at h6 ⊢
  rw [← h6]
  have hg : Tryd.prog.globalNamed "internal/strconv.uint64pow10" = some 5 := by kernel_rfl
  unfold World.var?
  rw [hg]
  simp only [Option.bind_some]
  rw [hb.block 5 (by omega)]
theorem TabP.step {m : Int} {W W' : World} (h : TabP m W) (hb : Below W.heap.size W W') : TabP m W' := h.below hb h.size
theorem TabP.alloc {m : Int} {W : World} (h : TabP m W) (o : Obj) : TabP m (W.alloc o) := h.step ((Below.refl _ _).alloc (Nat.le_refl _) _)

/-- A slice at p whose elements are the numbers of L. -/
def NumsAt (W : World) (p : Option Addr) (L : List Int) : Prop := ∀ j, j < L.length → ∃ b o, p = some ⟨b, o, none⟩ ∧ W.cell? ⟨b, o + j, none⟩ = some (.int .i64 (L.getD j 0))
theorem NumsAt.step {W W' : World} {p : Option Addr} {L : List Int} (h : NumsAt W p L) (hb : Below W.heap.size W W') : NumsAt W' p L := fun j hj => by
  obtain ⟨b, o, hp, hc⟩ := h j hj
  exact ⟨b, o, hp, cell_later' hb hc⟩
/-- Small numbers, few of them. -/
def Few (L : List Int) : Prop := L.length ≤ 1000 ∧ ∀ j, -9223372036854775808 ≤ L.getD j 0 ∧ L.getD j 0 ≤ 9223372036854775807

theorem part_q (p : Option Addr) (c : Nat) (L : List Int) (k : Nat) (w : World) (hf : L.length ≤ 1000) (hk : k ≤ 1000) (h : NumsAt w p L) :
    Calls Tryd.prog 73 #[.slice p L.length c, .int .i64 k] w fun e w' => e = .returned (.int .i64 (L.getD k 0)) ∧ w = w' := by
  by_cases hlt : k < L.length
  · obtain ⟨b, o, rfl, hc⟩ := h k hlt
    have h1 : (k : Int) < (L.length : Int) := by omega
    have h0 : (0 : Int) ≤ (k : Int) := by omega
    clear h
    generalize L.getD k 0 = x at *
    go_enter Tryd.func73, Tryd.ntmps73
    go_wp2
    go_ret
    exact ⟨rfl, rfl⟩
  · have hx : L.getD k 0 = 0 := by rw [List.getD, List.getElem?_eq_none (by omega)]; rfl
    rw [hx]
    clear h hx
    go_enter Tryd.func73, Tryd.ntmps73
    go_wp2
    go_ret
    exact ⟨rfl, rfl⟩

/-- The first difference of f and g, from k on, n places. -/
def lexC (f g : Nat → Int) : Nat → Nat → Int
  | 0, _ => 0
  | n + 1, k => if Lib.compareInt (f k) (g k) = 0 then lexC f g n (k + 1) else Lib.compareInt (f k) (g k)
def cmpV (A B : List Int) : Int := lexC (fun j => A.getD j 0) (fun j => B.getD j 0) (max A.length B.length) 0

def CmpRel (A B : List Int) (iv : Value) : Prop := ∃ k : Nat, k ≤ max A.length B.length ∧ iv = .int .i64 (k : Int) ∧ cmpV A B = lexC (fun j => A.getD j 0) (fun j => B.getD j 0) (max A.length B.length - k) k
theorem compare_range (x y : Int) : Lib.compareInt x y = 0 ∨ Lib.compareInt x y = 1 ∨ Lib.compareInt x y = -1 := by
  unfold Lib.compareInt
  split
  · exact .inr (.inr rfl)
  · split
    · exact .inr (.inl rfl)
    · exact .inl rfl

set_option maxHeartbeats 2000000 in
theorem compare_q (p q : Option Addr) (c d : Nat) (A B : List Int) (w : World) (ha : A.length ≤ 500) (hb : B.length ≤ 500) (hA : NumsAt w p A) (hB : NumsAt w q B) :
    Calls Tryd.prog 39 #[.slice p A.length c, .slice q B.length d] w fun e w' => e = .returned (.int .i64 (cmpV A B)) ∧ w = w' := by
  have cA := fun (k : Nat) (hk : k ≤ 1000) => part_q p c A k w (by omega) hk hA
  have cB := fun (k : Nat) (hk : k ≤ 1000) => part_q q d B k w (by omega) hk hB
  obtain ⟨M, hM⟩ : ∃ M, max A.length B.length = M := ⟨_, rfl⟩
  have hMi : max (A.length : Int) (B.length : Int) = (M : Int) := by omega
  have hM1 : M ≤ 500 := by omega
  have HV := Lib.hid (show cmpV A B = lexC (fun j => A.getD j 0) (fun j => B.getD j 0) M 0 by unfold cmpV; rw [hM])
  have CA := Lib.hid cA; have CB := Lib.hid cB
  clear cA cB hA hB hM
  generalize cmpV A B = V at *
  obtain ⟨f, hf⟩ : ∃ f : Nat → Int, f = fun j => A.getD j 0 := ⟨_, rfl⟩
  obtain ⟨g, hg⟩ : ∃ g : Nat → Int, g = fun j => B.getD j 0 := ⟨_, rfl⟩
  have HF := Lib.hid (show ∀ (k : Nat) (hk : k ≤ 1000), Calls Tryd.prog 73 #[.slice p A.length c, .int .i64 k] w fun e w' => e = .returned (.int .i64 (f k)) ∧ w = w' from fun (k : Nat) hk => by rw [hf]; exact CA.out k hk)
  have HG := Lib.hid (show ∀ (k : Nat) (hk : k ≤ 1000), Calls Tryd.prog 73 #[.slice q B.length d, .int .i64 k] w fun e w' => e = .returned (.int .i64 (g k)) ∧ w = w' from fun (k : Nat) hk => by rw [hg]; exact CB.out k hk)
  rw [← hf, ← hg] at HV
  clear CA CB hf hg
  generalize A.length = a at *
  generalize B.length = b at *
  go_enter Tryd.func39, Tryd.ntmps39
  go_wp2_with fail
  go_loop [5, 6, 12] (fun _ _ iv => ∃ k : Nat, k ≤ M ∧ iv = .int .i64 (k : Int) ∧ V = lexC f g (M - k) k) (fun _ _ iv => M - (intOf iv).toNat)
  case atStart => exact ⟨0, by omega, rfl, HV.out⟩
  case round =>
    clear HV
    obtain ⟨k, hk, rfl, hV⟩ := hrel
    by_cases hlt : k < M
    · have hd : decide ((k : Int) < (M : Int)) = true := by rw [decide_eq_true_eq]; omega
      have hV' : V = if Lib.compareInt (f k) (g k) = 0 then lexC f g (M - (k + 1)) (k + 1) else Lib.compareInt (f k) (g k) := by
        rw [hV, show M - k = (M - (k + 1)) + 1 from by omega]; rfl
      have cC := fun W => Tryd.cmp_Compare_int (f k) (g k) W
      generalize Lib.compareInt (f k) (g k) = x at *
      have HV' := Lib.hid hV'; have CC := Lib.hid cC
      clear hV hV' cC
      by_cases hx : x = 0
      · subst hx
        go_wp2_with fail
        refine (HF.out k (by omega)).mono ?_
        rintro e w' ⟨rfl, rfl⟩
        go_wp2_with fail
        refine (HG.out k (by omega)).mono ?_
        rintro e w' ⟨rfl, rfl⟩
        go_wp2_with fail
        refine (CC.out _).mono ?_
        rintro e w' ⟨rfl, rfl⟩
        go_wp2_with fail
        go_round
        case rel => exact ⟨k + 1, by omega, by go_num, by have := HV'.out; simpa using this⟩
        case measure => simp [intOf]; omega
      · have hne : (x == 0) = false := by simpa using hx
        have hne2 : (x != 0) = true := by simpa using hx
        have hE : V = x := by have := HV'.out; rwa [if_neg hx] at this
        have HE := Lib.hid hE
        clear hE HV'
        go_wp2_with fail
        refine (HF.out k (by omega)).mono ?_
        rintro e w' ⟨rfl, rfl⟩
        go_wp2_with fail
        refine (HG.out k (by omega)).mono ?_
        rintro e w' ⟨rfl, rfl⟩
        go_wp2_with fail
        refine (CC.out _).mono ?_
        rintro e w' ⟨rfl, rfl⟩
        go_wp2_with fail
        go_ret
        exact ⟨by rw [HE.out]; rfl, rfl⟩
    · have hk2 : k = M := by omega
      subst hk2
      have h0 : V = 0 := by rw [hV, Nat.sub_self]; rfl
      have H0 := Lib.hid h0
      clear h0 hV
      go_wp2_with fail
      go_ret
      exact ⟨by rw [H0.out]; rfl, rfl⟩

set_option maxHeartbeats 2000000 in
theorem same_q (p q : Option Addr) (c d : Nat) (A B : List Int) (w : World) (ha : A.length ≤ 500) (hb : B.length ≤ 500) (hA : NumsAt w p A) (hB : NumsAt w q B) :
    Calls Tryd.prog 49 #[.slice p A.length c, .slice q B.length d] w fun e w' => e = .returned (.bool (decide (A = B))) ∧ Below w.heap.size w w' := by
  by_cases hl : A.length = B.length
  · obtain ⟨N, hN⟩ : ∃ N, A.length = N := ⟨_, rfl⟩
    have hNb : B.length = N := by omega
    have hext : (∀ j, j < N → A.getD j 0 = B.getD j 0) → A = B := fun h => List.ext_getElem hl fun j h1 h2 => by
      have := h j (by omega)
      rw [List.getD, List.getD, List.getElem?_eq_getElem h1, List.getElem?_eq_getElem h2] at this
      exact this
    have hA' := fun j (hj : j < N) => hA j (by omega)
    have hB' := fun j (hj : j < N) => hB j (by omega)
    obtain ⟨f, hf⟩ : ∃ f : Nat → Int, f = fun j => A.getD j 0 := ⟨_, rfl⟩
    obtain ⟨g, hg⟩ : ∃ g : Nat → Int, g = fun j => B.getD j 0 := ⟨_, rfl⟩
    have HA := Lib.hid (show ∀ j, j < N → ∃ b o, p = some ⟨b, o, none⟩ ∧ w.cell? ⟨b, o + j, none⟩ = some (.int .i64 (f j)) from fun j hj => by rw [hf]; exact hA' j hj)
    have HB := Lib.hid (show ∀ j, j < N → ∃ b o, q = some ⟨b, o, none⟩ ∧ w.cell? ⟨b, o + j, none⟩ = some (.int .i64 (g j)) from fun j hj => by rw [hg]; exact hB' j hj)
    have HE := Lib.hid (show (∀ j, j < N → f j = g j) → decide (A = B) = true from fun h => decide_eq_true (hext (by rw [hf, hg] at h; exact h)))
    have HNE := Lib.hid (show ∀ j, j < N → f j ≠ g j → decide (A = B) = false from fun j hj h => decide_eq_false (fun e => h (by rw [hf, hg, e])))
    generalize decide (A = B) = D at *
    rw [hN, hNb]
    have hN5 : N ≤ 500 := by omega
    clear hA hB hA' hB' hf hg hext hNb hN hl ha hb
    go_enter Tryd.func49, Tryd.ntmps49
    go_wp2_with fail
    go_loopw [5] (fun iv wr => ∃ k : Nat, k ≤ N ∧ iv = .int .i64 (k : Int) ∧ (∀ j, j < k → f j = g j) ∧ Below w.heap.size w wr) (fun iv _ => N - (intOf iv).toNat)
    case atStart => exact ⟨0, by omega, rfl, fun j hj => by omega, Below.refl _ _⟩
    case round =>
      obtain ⟨k, hk, rfl, hall, hbel⟩ := hrel
      have HALL := Lib.hid hall
      clear hall
      by_cases hlt : k < N
      · obtain ⟨b, o, rfl, hc⟩ := HA.out k hlt
        obtain ⟨b2, o2, rfl, hc2⟩ := HB.out k hlt
        have hi0 : (0 : Int) ≤ (k : Int) := by omega
        have hi1 : (k : Int) < (N : Int) := by omega
        have hd : decide ((k : Int) < (N : Int)) = true := by rw [decide_eq_true_eq]; omega
        have hd1 : wr.cell? ⟨b, o + k, none⟩ = some (.int .i64 (f k)) := cell_later' hbel hc
        have hd2 : wr.cell? ⟨b2, o2 + k, none⟩ = some (.int .i64 (g k)) := cell_later' hbel hc2
        have HBEL := Lib.hid hbel
        clear hbel
        have HE2 := Lib.hid (HNE.out k hlt)
        obtain ⟨x, hx⟩ : ∃ x, f k = x := ⟨_, rfl⟩
        obtain ⟨y, hy⟩ : ∃ y, g k = y := ⟨_, rfl⟩
        have HXY := Lib.hid (show (x = y → f k = g k) ∧ (x ≠ y → f k ≠ g k) from ⟨fun h => by rw [hx, hy, h], fun h => by rw [hx, hy]; exact h⟩)
        rw [hx] at hd1 hc
        rw [hy] at hd2 hc2
        clear hx hy
        clear hc hc2
        by_cases hxy : x = y
        · have HQ := Lib.hid (HXY.out.1 hxy)
          clear HXY
          subst hxy
          go_wp2_with fail
          go_quiet (fail)
          go_wp2_with fail
          go_roundw
          case rel => exact ⟨k + 1, by omega, by go_num, fun j hj => by
            rcases Nat.lt_succ_iff_lt_or_eq.1 hj with h | h
            · exact HALL.out j h
            · rw [h]; exact HQ.out, below_drewN HBEL.out _⟩
          case measure => simp [intOf]; omega
        · have hne : (x == y) = false := by simpa using hxy
          have hne2 : (x != y) = true := by simpa using hxy
          have HF := Lib.hid (HE2.out (HXY.out.2 hxy))
          go_wp2_with fail
          go_quiet (fail)
          go_wp2_with fail
          go_ret
          exact ⟨by rw [HF.out]; rfl, below_drewN HBEL.out _⟩
      · have hk2 : k = N := by omega
        subst hk2
        have HT := Lib.hid (HE.out HALL.out)
        go_wp2_with fail
        go_ret
        exact ⟨by rw [HT.out]; rfl, hbel⟩
  · have hne : decide (A = B) = false := decide_eq_false (fun e => hl (by rw [e]))
    rw [hne]
    have h1 : ((A.length : Int) == (B.length : Int)) = false := beq_eq_false_iff_ne.2 (by omega)
    have h2 : ((A.length : Int) != (B.length : Int)) = true := by simp; omega
    clear hA hB hne
    generalize A.length = a at *
    generalize B.length = b at *
    clear hl
    go_enter Tryd.func49, Tryd.ntmps49
    go_wp2_with fail
    go_ret
    exact ⟨rfl, Below.refl _ _⟩
end Go.Proofs.YtdhochjcigingaaDoor
