/- der.appendLength below 128, der.contents and der.appendElements of elements without elements. -/
import Derived.Test.YtppodhbfjnekcaaList
namespace Go.Proofs.Ytppodhbfjnekcaa
open Go.RowKit

def AppPost (w : World) (base : Nat) (v : Value) (bl : List UInt8) (e : Ending) (w' : World) : Prop :=
  ∃ v', e = .returned v' ∧ w'.ownsRow base 5 1 v' bl.length (u8s bl) ∧ ∀ B, B ≤ w.heap.size → (∀ g, v.ownBlock = some g → B ≤ g) → Below B w w'

set_option maxHeartbeats 1000000 in
theorem appendLength_short (base : Nat) (v : Value) (bl : List UInt8) (n : Nat) (w : World) (hown : w.ownsRow base 5 1 v bl.length (u8s bl)) (hn : n < 128) (hbl : bl.length ≤ 1000000) (hbase : base ≤ w.heap.size) :
    Calls Try.prog 61 #[v, .int .i64 n] w (AppPost w base v (bl ++ [byteOf n])) := by
  obtain ⟨i0, hi, hz0, hz1, hz2⟩ := info_parts info5
  have hnz : (n : Int) % 256 = n := by omega
  have HZ := Lib.hid hnz; clear hnz
  have hd1 : (n : Int) < 128 := by omega
  have HN := Lib.hid hn; clear hn
  go_enter Try.func61, Try.ntmps61
  go_wp2_with (at_builtin; refine wpList_append_own _ rfl _ _ 27 rfl base 5 i0 (.int .u8 0) 1 1 Try.underlying27 hi hz0 hz1 hz2 rfl (by decide) _ _ _ rfl (hown.alloc _) ⟨w.heap.size, 0, none⟩ 1 1 [.int .u8 n] rfl rfl (by intro j u hj; match j, hj with | 0, hj => (simp at hj; subst hj; simp [Addr.add])) (by intro u hu; simp at hu; subst hu; rfl) (by unfold maxLen; omega) (by omega) (by simp; omega) ?_; intro v' w1 hown' hgrow _)
  have hg2 : (w.alloc (.cells #[Value.int .u8 n] 5)).grownBy w1 v.ownBlock := hgrow
  go_ret
  have e : u8s bl ++ [Value.int .u8 n] = u8s (bl ++ [byteOf n]) := by simp [u8s, byteOf_toNat, HZ.out]
  rw [e] at hown'
  refine ⟨v', rfl, by rw [List.length_append]; exact hown', fun B hB hg => ?_⟩
  exact ((Below.refl _ _).alloc hB _).grown hg2 (by simp; omega) hg

set_option maxHeartbeats 1000000 in
theorem contents_leaf {t : Int} {sv ev : Value} (d : Int) (w : World) :
    Calls Try.prog 60 #[.agg #[.int .i64 t, sv, .bool false, ev], .int .i64 d] w fun e w' => e = .returned (.tuple #[sv, .bool true]) ∧ Below w.heap.size w w' := by
  go_enter Try.func60, Try.ntmps60
  go_wp2
  go_ret2
  exact ⟨rfl, (Below.refl _ _).alloc (Nat.le_refl _) _⟩

def encX (x : Int × Bool × List UInt8) : List UInt8 := byteOf x.1 :: byteOf x.2.2.length :: x.2.2
def encAll : List (Int × Bool × List UInt8) → List UInt8
  | [] => []
  | x :: l => encX x ++ encAll l

theorem encAll_snoc (l : List (Int × Bool × List UInt8)) (x : Int × Bool × List UInt8) : encAll (l ++ [x]) = encAll l ++ encX x := by
  induction l with
  | nil => simp [encAll]
  | cons y l ih => simp [encAll, ih]

theorem encAll_take (l : List (Int × Bool × List UInt8)) (k : Nat) (h : k < l.length) : encAll (l.take (k + 1)) = encAll (l.take k) ++ encX (l.getD k default) := by
  rw [List.take_succ_eq_append_getElem h, encAll_snoc]
  simp [List.getD, h]

theorem encAll_le (l : List (Int × Bool × List UInt8)) (k : Nat) : (encAll (l.take k)).length ≤ (encAll l).length := by
  induction l generalizing k with
  | nil => simp [encAll]
  | cons x l ih => cases k with
    | zero => simp [encAll]
    | succ k => have := ih k; simp only [List.take_succ_cons, encAll, List.length_append]; omega

/-- An element that is written in short. -/
structure Short (x : Int × Bool × List UInt8) : Prop where
  shape : shapeB x.1 x.2.1 x.2.2.length 0 = true
  nb : x.2.1 = false
  ne : x.2.2 ≠ []
  len : x.2.2.length < 128

theorem own_slice {w : World} {base : Nat} {e : TypeId} {size : Nat} {v : Value} {n : Nat} {xs : List Value} (h : w.ownsRow base e size v n xs) : ∃ p c, v = .slice p n c := by
  rcases h.2 with ⟨hv, h0⟩ | ⟨g, cap, cur, hv, _⟩
  · exact ⟨none, 0, by rw [hv, h0]⟩
  · exact ⟨_, _, hv⟩

def EncPost (w : World) (bl : List UInt8) (e : Ending) (w' : World) : Prop :=
  ∃ v', e = .returned (.tuple #[v', .bool true]) ∧ w'.ownsRow w.heap.size 5 1 v' bl.length (u8s bl) ∧ Below w.heap.size w w'

set_option maxRecDepth 100000 in
set_option maxHeartbeats 4000000 in
theorem appendElements_leaves (b o n c : Nat) (d : Int) (ls : List Leaf) (xs : List (Int × Bool × List UInt8)) (w : World) (hl : ls.length = n) (hn : 0 < n) (hd : d ≤ 16) (h : Leaves w b o ls) (hr : Reads w ls xs) (hp : Plain w b) (hs : ∀ i, i < n → Short (xs.getD i default)) (htot : (encAll xs).length ≤ 4096) :
    Calls Try.prog 38 #[.slice none 0 0, .int .i64 d, .slice (some ⟨b, o, none⟩) n c] w (EncPost w (encAll xs)) := by
  obtain ⟨i0, hi, hz0, hz1, hz2⟩ := info_parts info5
  have hbl := hp.lt
  have hxl : xs.length = n := by rw [← hr.len]; exact hl
  have HXL := Lib.hid hxl; clear hxl
  have HL := Lib.hid hl; clear hl
  have HLV := Lib.hid h; clear h
  have HR := Lib.hid hr; clear hr
  have HS := Lib.hid hs; clear hs
  have HT := Lib.hid htot; clear htot
  have hnb : n ≤ 4096 := by
    have h2 : ∀ m, m ≤ n → 2 * m ≤ (encAll (xs.take m)).length := by
      intro m hm
      induction m with
      | zero => simp
      | succ m ih =>
        rw [encAll_take xs m (by rw [HXL.out]; omega), List.length_append]
        have := ih (by omega)
        simp only [encX, List.length_cons]
        omega
    have h3 := h2 n (Nat.le_refl _)
    have h4 := encAll_le xs n
    have := HT.out
    omega
  go_enter Try.func38, Try.ntmps38
  go_wp2_with fail
  go_loopw [0, 15] (fun bv i wr => ∃ (k : Nat) (bl : List UInt8), k ≤ n ∧ i = .int .i64 k ∧ wr.ownsRow w.heap.size 5 1 bv bl.length (u8s bl) ∧ Hid (bl = encAll (xs.take k)) ∧ bl.length ≤ 4096 ∧ Below w.heap.size w wr) (fun _ i _ => n - (intOf i).toNat)
  case atStart => exact ⟨0, [], by omega, rfl, World.ownsRow_nil _ _ _ _, Lib.hid (by simp [encAll]), by simp, Below.refl _ _⟩
  case round =>
    obtain ⟨k, bl, hk, rfl, hown, HB, hbl2, hbr⟩ := hrel
    obtain ⟨pb, capb, rfl⟩ := own_slice hown
    by_cases hlt : k < n
    · obtain ⟨x, hx⟩ : ∃ x, x = ls.getD k default := ⟨_, rfl⟩
      obtain ⟨y, hy⟩ : ∃ y, y = xs.getD k default := ⟨_, rfl⟩
      have he := (HLV.out.mono hbr) k (by rw [HL.out]; exact hlt)
      have htg := HR.out.tag k (by rw [HL.out]; exact hlt)
      have hnb := HR.out.nb k (by rw [HL.out]; exact hlt)
      have hby := HR.out.bytes k (by rw [HL.out]; exact hlt)
      have hsh := HS.out k hlt
      have hst := encAll_take xs k (by rw [HXL.out]; exact hlt)
      have hle := encAll_le xs (k + 1)
      rw [hst, ← HB.out, List.length_append] at hle
      rw [← hx] at he htg hnb hby
      rw [← hy] at htg hnb hby hsh hst hle
      have HX := Lib.hid hx; clear hx
      have HY := Lib.hid hy; clear hy
      obtain ⟨t, sp, ll, cl, nb, ep, ec⟩ := x
      obtain ⟨t', nb', l⟩ := y
      obtain ⟨hshape, hfalse, hne, hlen⟩ := hsh
      simp only at htg hnb hby hshape hfalse hne hlen he
      subst htg; subst hnb; subst hfalse
      obtain ⟨p', c', hv, _, hcells⟩ := id hby
      unfold Leaf.bv at hv
      simp only [Value.slice.injEq] at hv
      obtain ⟨rfl, rfl, rfl⟩ := hv
      rcases hcells with hcells | ⟨cb, co, rfl, hcells⟩
      · exact absurd hcells hne
      have hl0 := List.length_pos_iff.2 hne
      have hcb := World.block_lt_of_cell? _ _ (hcells 0 hl0)
      simp only at hcb
      have HC := Lib.hid hcells; clear hcells
      have HST := Lib.hid hst; clear hst
      have hsz := hbr.size
      have htot : bl.length + (2 + l.length) ≤ 4096 := by
        have := HT.out
        simp only [encX, List.length_cons] at hle
        omega
      clear hle hby hne
      obtain ⟨e0, e1, e2, e3⟩ := he
      have hshp := fun W => hasShape_any (t := t) (nb := false) (ll := l.length) (cl := cl) (kk := 0) (ck := ec) (pl := some ⟨cb, co, none⟩) (pk := ep) W
      simp only [hshape] at hshp
      have HSH := Lib.hid hshape; clear hshape
      have hd' : decide ((16 : Int) < d) = false := by simp; omega
      go_wp2_with fail
      refine (hshp _).mono ?_
      rintro e w2 ⟨rfl, hb2⟩
      have hB2 : Below (wr.heap.size + 1) (wr.alloc (.cells #[.int .i64 t, .slice (some ⟨cb, co, none⟩) l.length cl, .bool false, .slice ep 0 ec] 30)) w2 := hb2.mono (by simp)
      obtain ⟨⟨k0, k1, k2, k3⟩, _, hz⟩ := res_kept hB2
      go_wp2_with fail
      refine (contents_leaf _ _).mono ?_
      rintro e w3 ⟨rfl, hb3⟩
      have hB3 := Below.trans hB2 (hb3.mono (by have := hB2.size; simp at this; omega))
      clear k0 k1 k2 k3 hz
      obtain ⟨⟨k0, k1, k2, k3⟩, _, hz⟩ := res_kept hB3
      go_wp2_with fail
      have hlit : (w3.alloc (.cells #[Value.int .u8 (t % 256)] 5)).ownsRow w3.heap.size 5 1 (.slice (some ⟨w3.heap.size, 0, none⟩) 1 1) [byteOf t].length (u8s [byteOf t]) := by
        have := World.ownsRow_lit (base := w3.heap.size) (e := 5) (size := 1) w3 #[Value.int .u8 (t % 256)] 1 (by omega) (by unfold maxLen; omega) rfl
        simpa [u8s, byteOf_toNat] using this
      refine (appendLength_short w3.heap.size _ [byteOf t] l.length _ hlit hlen (by simp) (by simp)).mono ?_
      rintro e w4 ⟨v4, rfl, hown4, hb4⟩
      have hb34 : Below w3.heap.size w3 w4 := ((Below.refl w3.heap.size w3).alloc (Nat.le_refl _) _).trans (hb4 w3.heap.size (by simp) (by intro g hg; cases hg; exact Nat.le_refl _))
      clear hb4
      obtain ⟨g4, cap4, rfl, hg4, hg4s, _⟩ := own_form hown4 (by simp)
      have hw3 : wr.heap.size ≤ w3.heap.size := by have := hB3.size; simp at this; omega
      have hbw4 : Below wr.heap.size wr w4 := (below_of_res hB3).trans (hb34.mono hw3)
      have hownb := own_below hown hbw4
      have hsrc4 := (hown4.cells (g := g4) rfl)
      have hcc : ∀ j, j < l.length → w4.cell? ⟨cb, co + j, none⟩ = some (.int .u8 (l.getD j 0).toNat) := fun j hj => cell_later (hbr.trans (hbw4.mono (by omega))) (HC.out j hj)
      have HSRC4 := Lib.hid hsrc4; clear hsrc4
      have HCC := Lib.hid hcc; clear hcc
      have hsz4 := hbw4.size
      clear k0 k1 k2 k3 hz e0 e1 e2 e3
      have hlen2 : ([byteOf t] ++ [byteOf l.length]).length = 2 := rfl
      rw [hlen2] at hown4
      have hbw4w : Below w.heap.size w w4 := hbr.trans (hbw4.mono hsz)
      go_wp2_with (first | (at_builtin; refine wpList_append_own _ rfl (.tmp 52) (.tmp 53) 27 rfl w.heap.size 5 i0 (.int .u8 0) 1 1 Try.underlying27 hi hz0 hz1 hz2 rfl (by decide) _ _ _ rfl hownb ⟨g4, 0, none⟩ 2 cap4 (u8s ([byteOf t] ++ [byteOf l.length])) rfl rfl HSRC4.out (u8s_one _) (by unfold maxLen; omega) (by omega) (by omega) ?_; intro v5 w5 hown5 hgrow5 _; have hb5 : Below w.heap.size w w5 := hbw4w.grown hgrow5 (by omega) (fun k hk => (hownb.lt k hk).1); have hsrc5 := Bts.cells (c := cl) (fun j hj => cell_later hb5 (HC.out j hj)) rfl; have hsz5 := hgrow5.size) | (at_builtin; refine wpList_append_own _ rfl (.tmp 54) (.tmp 55) 27 rfl w.heap.size 5 i0 (.int .u8 0) 1 1 Try.underlying27 hi hz0 hz1 hz2 rfl (by decide) _ _ _ rfl hown5 ⟨cb, co, none⟩ l.length cl (u8s l) rfl (by rw [u8s_length]; omega) hsrc5 (u8s_one _) (by unfold maxLen; omega) (by omega) (by omega) ?_; intro v6 w6 hown6 hgrow6 _))
      have hb6 : Below w.heap.size w w6 := hb5.grown hgrow6 (by omega) (fun k hk => (hown5.lt k hk).1)
      go_roundw
      case rel =>
        refine ⟨k + 1, bl ++ encX (t, false, l), by omega, by go_num, ?_, Lib.hid ?_, ?_, hb6⟩
        · have e : u8s (bl ++ encX (t, false, l)) = u8s bl ++ u8s ([byteOf t] ++ [byteOf l.length]) ++ u8s l := by simp [u8s, encX]
          rw [e, show (bl ++ encX (t, false, l)).length = bl.length + 2 + l.length by simp [encX]; omega]
          exact hown6
        · rw [HST.out, ← HB.out]
        · simp only [List.length_append, encX, List.length_cons]; omega
      case measure => simp [intOf]; omega
    · go_wp2
      go_ret2
      refine ⟨_, rfl, ?_, hbr⟩
      rw [show encAll xs = bl by rw [HB.out, List.take_of_length_le (by rw [HXL.out]; omega)]]
      exact hown
end Go.Proofs.Ytppodhbfjnekcaa
