/- der.Encode of a list of elements without elements. -/
import Derived.Test.YtppodhbfjnekcaaEnc
import Derived.Deep.Onto
namespace Go.Proofs.Ytppodhbfjnekcaa
open Go.RowKit

def ContPost (w : World) (bl : List UInt8) (e : Ending) (w' : World) : Prop :=
  ∃ v', e = .returned (.tuple #[v', .bool true]) ∧ w'.ownsRow w.heap.size 5 1 v' bl.length (u8s bl) ∧ Below w.heap.size w w'

theorem leaf_block {w : World} {b o : Nat} {ls : List Leaf} {n : Nat} (hl : ls.length = n) (hn : 0 < n) (h : Leaves w b o ls) : b < w.heap.size := by
  have := World.block_lt_of_cell? _ _ (h 0 (by omega)).c0
  exact this

set_option maxHeartbeats 1000000 in
theorem contents_list (g n c : Nat) (d : Int) (ls : List Leaf) (xs : List (Int × Bool × List UInt8)) (w : World) (hl : ls.length = n) (hn : 0 < n) (hd0 : 0 ≤ d) (hd : d < 16) (h : Leaves w g 0 ls) (hr : Reads w ls xs) (hp : Plain w g) (hs : ∀ i, i < n → Short (xs.getD i default)) (htot : (encAll xs).length ≤ 4096) :
    Calls Try.prog 60 #[.agg #[.int .i64 48, .slice none 0 0, .bool true, .slice (some ⟨g, 0, none⟩) n c], .int .i64 d] w (ContPost w (encAll xs)) := by
  have hW := (Below.refl w.heap.size w).alloc (Nat.le_refl _) (.cells #[.int .i64 48, .slice none 0 0, .bool true, .slice (some ⟨g, 0, none⟩) n c] 30)
  have hrec := appendElements_leaves g 0 n c (d + 1) ls xs _ hl hn (by omega) (h.mono hW) (hr.mono hW) (hp.mono hW) hs htot
  clear h hr hp hs htot hl
  go_enter Try.func60, Try.ntmps60
  go_wp2_with fail
  refine hrec.mono ?_
  rintro e w1 ⟨v', rfl, hown, hb⟩
  go_wp2
  go_ret2
  exact ⟨v', rfl, hown.mono (by simp), below_step hW hb⟩

set_option maxRecDepth 100000 in
set_option maxHeartbeats 4000000 in
theorem appendElements_list (b g n c cb : Nat) (ls : List Leaf) (xs : List (Int × Bool × List UInt8)) (w : World) (hl : ls.length = n) (hn : 0 < n) (hE : El w b 0 48 (.slice none 0 0) true (.slice (some ⟨g, 0, none⟩) n c)) (h : Leaves w g 0 ls) (hr : Reads w ls xs) (hp : Plain w g) (hs : ∀ i, i < n → Short (xs.getD i default)) (htot : (encAll xs).length < 128) (hpos : 0 < (encAll xs).length) :
    Calls Try.prog 38 #[.slice none 0 0, .int .i64 1, .slice (some ⟨b, 0, none⟩) 1 cb] w (EncPost w (48 :: byteOf (encAll xs).length :: encAll xs)) := by
  obtain ⟨i0, hi, hz0, hz1, hz2⟩ := info_parts info5
  obtain ⟨e0, e1, e2, e3⟩ := hE
  have hshp := fun W => hasShape_any (t := 48) (nb := true) (ll := 0) (cl := 0) (kk := n) (ck := c) (pl := none) (pk := some ⟨g, 0, none⟩) W
  simp only [show shapeB 48 true 0 n = true from rfl] at hshp
  have hcont := fun {W : World} (hb : Below w.heap.size w W) => contents_list g n c 1 ls xs W hl hn (by omega) (by omega) (h.mono hb) (hr.mono hb) (hp.mono hb) hs (by omega)
  generalize hbl : encAll xs = bl at htot hpos hcont ⊢
  have HBL := Lib.hid hbl; clear hbl
  clear h hr hp hs hl
  rw [Nat.zero_add] at e1 e2 e3
  go_enter Try.func38, Try.ntmps38
  go_wp2_with fail
  refine wp_loop_rounds 2 ?_; rw [rounds_succ]
  go_wp2_with fail
  refine (hshp _).mono ?_
  rintro e w2 ⟨rfl, hb2⟩
  have hB2 : Below (w.heap.size + 1) (w.alloc (.cells #[.int .i64 48, .slice none 0 0, .bool true, .slice (some ⟨g, 0, none⟩) n c] 30)) w2 := hb2.mono (by simp)
  obtain ⟨⟨k0, k1, k2, k3⟩, _, hz⟩ := res_kept hB2
  go_wp2_with fail
  refine (hcont (below_of_res hB2)).mono ?_
  rintro e w3 ⟨v3, rfl, hown3, hb3⟩
  have hB3 := Below.trans hB2 (hb3.mono (by have := hB2.size; simp at this; omega))
  clear k0 k1 k2 k3 hz
  obtain ⟨⟨k0, k1, k2, k3⟩, _, hz⟩ := res_kept hB3
  obtain ⟨g3, cap3, rfl, hg3, hg3s, _⟩ := own_form hown3 hpos
  go_wp2_with fail
  have hlit : (w3.alloc (.cells #[Value.int .u8 48] 5)).ownsRow w3.heap.size 5 1 (.slice (some ⟨w3.heap.size, 0, none⟩) 1 1) [(48 : UInt8)].length (u8s [48]) := by
    have := World.ownsRow_lit (base := w3.heap.size) (e := 5) (size := 1) w3 #[Value.int .u8 48] 1 (by omega) (by unfold maxLen; omega) rfl
    exact this
  refine (appendLength_short w3.heap.size _ [48] bl.length _ hlit htot (by simp) (by simp)).mono ?_
  rintro e w4 ⟨v4, rfl, hown4, hb4⟩
  have hb34 : Below w3.heap.size w3 w4 := ((Below.refl w3.heap.size w3).alloc (Nat.le_refl _) _).trans (hb4 w3.heap.size (by simp) (by intro g hg; cases hg; exact Nat.le_refl _))
  clear hb4
  obtain ⟨g4, cap4, rfl, hg4, hg4s, _⟩ := own_form hown4 (by simp)
  have hown34 := own_below hown3 hb34
  have hbw4 : Below w.heap.size w w4 := below_step (below_of_res hB3) hb34
  have hownb : w4.ownsRow w.heap.size 5 1 (.slice none 0 0) 0 [] := World.ownsRow_nil _ _ _ _
  have hsrc4 := (hown4.cells (g := g4) rfl)
  have HSRC4 := Lib.hid hsrc4; clear hsrc4
  have hsz4 := hbw4.size
  have hsz3 := (below_of_res hB3).size
  have hsz2 := hB2.size
  simp only [World.size_alloc] at hsz2
  have hlen2 : ([(48 : UInt8)] ++ [byteOf bl.length]).length = 2 := rfl
  rw [hlen2] at hown4
  clear k0 k1 k2 k3 hz e0 e1 e2 e3 hcont hshp
  have hbl' : bl.length ≤ 1000 := by omega
  go_wp2_with (first | (at_builtin; refine wpList_append_own _ rfl (.tmp 52) (.tmp 53) 27 rfl w.heap.size 5 i0 (.int .u8 0) 1 1 Try.underlying27 hi hz0 hz1 hz2 rfl (by decide) _ _ _ rfl hownb ⟨g4, 0, none⟩ 2 cap4 (u8s ([48] ++ [byteOf bl.length])) rfl rfl HSRC4.out (u8s_one _) (by unfold maxLen; omega) (by omega) (by omega) ?_; intro v5 w5 hown5 hgrow5 _; have hb5 : Below w4.heap.size w4 w5 := (Below.refl w4.heap.size w4).grown hgrow5 (Nat.le_refl _) (fun k hk => (by cases hk)); have hsrc5 := (own_below hown34 hb5).cells (g := g3) rfl; have hsz5 := hgrow5.size) | (at_builtin; refine wpList_append_own _ rfl (.tmp 54) (.tmp 55) 27 rfl w.heap.size 5 i0 (.int .u8 0) 1 1 Try.underlying27 hi hz0 hz1 hz2 rfl (by decide) _ _ _ rfl hown5 ⟨g3, 0, none⟩ bl.length cap3 (u8s bl) rfl (by rw [u8s_length]; omega) hsrc5 (u8s_one _) (by unfold maxLen; omega) (by omega) (by omega) ?_; intro v6 w6 hown6 hgrow6 _))
  have hb6 : Below w.heap.size w w6 := (below_step hbw4 hb5).grown hgrow6 (by omega) (fun k hk => (hown5.lt k hk).1)
  have hB6 := Lib.hid hb6
  clear hb6 hlit hown34 hown3 hownb
  rw [rounds_succ]
  go_wp2
  go_ret2
  refine ⟨v6, rfl, ?_, hB6.out⟩
  have e : u8s (48 :: byteOf bl.length :: bl) = [] ++ u8s ([48] ++ [byteOf bl.length]) ++ u8s bl := by simp [u8s]
  rw [e, show (48 :: byteOf (bl.length : Int) :: bl).length = 0 + 2 + bl.length by simp; omega]
  exact hown6

def EncodePost (w : World) (bl : List UInt8) (e : Ending) (w' : World) : Prop :=
  ∃ v', e = .returned (.tuple #[v', .int .i64 0]) ∧ Bts w' v' bl ∧ Below w.heap.size w w'

set_option maxHeartbeats 1000000 in
theorem encode_list (g n c : Nat) (ls : List Leaf) (xs : List (Int × Bool × List UInt8)) (w : World) (hl : ls.length = n) (hn : 0 < n) (h : Leaves w g 0 ls) (hr : Reads w ls xs) (hp : Plain w g) (hs : ∀ i, i < n → Short (xs.getD i default)) (htot : (encAll xs).length < 128) (hpos : 0 < (encAll xs).length) :
    Calls Try.prog 12 #[.agg #[.int .i64 48, .slice none 0 0, .bool true, .slice (some ⟨g, 0, none⟩) n c]] w (EncodePost w (48 :: byteOf (encAll xs).length :: encAll xs)) := by
  have hW := ((Below.refl w.heap.size w).alloc (Nat.le_refl _) (.cells #[.int .i64 48, .slice none 0 0, .bool true, .slice (some ⟨g, 0, none⟩) n c] 30)).alloc (by simp) (.cells #[.int .i64 48, .slice none 0 0, .bool true, .slice (some ⟨g, 0, none⟩) n c] 30)
  have hE : El ((w.alloc (.cells #[.int .i64 48, .slice none 0 0, .bool true, .slice (some ⟨g, 0, none⟩) n c] 30)).alloc (.cells #[.int .i64 48, .slice none 0 0, .bool true, .slice (some ⟨g, 0, none⟩) n c] 30)) (w.heap.size + 1) 0 48 (.slice none 0 0) true (.slice (some ⟨g, 0, none⟩) n c) := by
    constructor <;> simp
  have hrec := appendElements_list (w.heap.size + 1) g n c 1 ls xs _ hl hn hE (h.mono hW) (hr.mono hW) (hp.mono hW) hs htot hpos
  generalize encAll xs = bl at hrec ⊢
  clear h hr hp hs htot hl hpos
  go_enter Try.func12, Try.ntmps12
  go_wp2_with fail
  refine hrec.mono ?_
  rintro e w1 ⟨v', rfl, hown, hb⟩
  obtain ⟨g3, cap3, rfl, _, _, _⟩ := own_form hown (by simp)
  go_wp2
  go_ret2
  exact ⟨_, rfl, own_bts hown (by simp), below_step hW hb⟩
end Go.Proofs.Ytppodhbfjnekcaa
