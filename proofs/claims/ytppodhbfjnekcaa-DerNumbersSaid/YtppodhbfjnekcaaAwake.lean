/- The example of the chapter. -/
import Derived.Test.YtppodhbfjnekcaaEncList
namespace Go.Proofs.Ytppodhbfjnekcaa
open Go.RowKit

theorem intB_5 : intB 5 = [5] := by
  unfold intB; rw [leB_short (by omega)]; rfl

theorem intB_129 : intB (-129) = [255, 127] := by
  unfold intB; rw [leB_long (by omega), show (-129 : Int) / 256 = -1 by omega, leB_short (by omega)]; rfl

def exBytes : List UInt8 := [48, 7, 2, 1, 5, 2, 2, 255, 127]
def exXs : List (Int × Bool × List UInt8) := [(2, false, [5]), (2, false, [255, 127])]

theorem exEnc : 48 :: byteOf ((encAll exXs).length : Int) :: encAll exXs = exBytes := by decide

theorem exShort : ∀ i, i < 2 → Short (exXs.getD i default) := by
  intro i hi
  match i, hi with
  | 0, _ => exact ⟨by decide, by decide, by decide, by decide⟩
  | 1, _ => exact ⟨by decide, by decide, by decide, by decide⟩

/-- The two elements in a new row. -/
theorem ex_leaves (w : World) (n : Nat) (hn : w.heap.size = n) (x y : Leaf) : Leaves (w.alloc (.cells #[.int .i64 x.t, .slice x.sp x.ll x.cl, .bool x.nb, .slice x.ep 0 x.ec, .int .i64 y.t, .slice y.sp y.ll y.cl, .bool y.nb, .slice y.ep 0 y.ec] 30)) n 0 [x, y] := by
  subst hn
  intro i hi
  match i, hi with
  | 0, _ => constructor <;> simp
  | 1, _ => constructor <;> simp

set_option maxRecDepth 100000 in
set_option maxHeartbeats 4000000 in
theorem awake_any (w : World) : Calls Try.prog 9 #[] w fun e w' => e = .returned (.bool true) ∧ Below w.heap.size w w' := by
  have h5 := int_der 5 w (by omega) (by omega)
  have h9 := fun W => int_der (-129) W (by omega) (by omega)
  rw [intB_5] at h5
  simp only [intB_129] at h9
  go_enter Try.func9, Try.ntmps9
  go_wp2_with fail
  refine h5.mono ?_
  rintro e w1 ⟨v5, rfl, hv5, hb1⟩
  go_wp2_with fail
  refine (h9 w1).mono ?_
  rintro e w2 ⟨v9, rfl, hv9, hb2⟩
  have hv5' := hv5.mono hb2
  obtain ⟨p5, c5, rfl, _, _⟩ := id hv5'
  obtain ⟨p9, c9, rfl, _, _⟩ := id hv9
  have hb12 := below_step hb1 hb2
  have hb3 := (Below.refl w2.heap.size w2).alloc (Nat.le_refl _) (.cells #[.int .i64 2, .slice p5 1 c5, .bool false, .slice none 0 0, .int .i64 2, .slice p9 2 c9, .bool false, .slice none 0 0] 30)
  have hlist := list_leaves w2.heap.size 0 2 2 [⟨2, p5, 1, c5, false, none, 0⟩, ⟨2, p9, 2, c9, false, none, 0⟩] exXs _ rfl (by omega) (ex_leaves w2 _ rfl ⟨2, p5, 1, c5, false, none, 0⟩ ⟨2, p9, 2, c9, false, none, 0⟩)
    ⟨rfl, by intro i hi; (match i, hi with | 0, _ => rfl | 1, _ => rfl), by intro i hi; (match i, hi with | 0, _ => rfl | 1, _ => rfl), by intro i hi; (match i, hi with | 0, _ => exact hv5'.mono hb3 | 1, _ => exact hv9.mono hb3)⟩
    ⟨_, _, heap_alloc_new w2 _⟩ (by simp [sizeL])
  clear h5 h9 hv5
  go_wp2_with fail
  refine hlist.mono ?_
  rintro e w4 ⟨g, cap, ls, rfl, hl, hlv, hrd, hpl, hb4⟩
  go_wp2_with fail
  refine (encode_list g 2 cap ls exXs w4 hl (by omega) hlv hrd hpl exShort (by decide) (by decide)).mono ?_
  rintro e w5 ⟨v, rfl, hv, hb5⟩
  rw [exEnc] at hv
  have hB : Below w.heap.size w w5 := below_step (below_step (below_step hb12 hb3) hb4) hb5
  have hcv := hv.convert (P := Try.prog) 27 5 9 (by kernel_rfl) (by kernel_rfl) (by kernel_rfl)
  have hlit := World.ownsRow_lit (base := w5.heap.size) (e := 5) (size := 1) w5 #[.int .u8 48, .int .u8 7, .int .u8 2, .int .u8 1, .int .u8 5, .int .u8 2, .int .u8 2, .int .u8 255, .int .u8 127] 9 (by omega) (by unfold maxLen; omega) rfl
  have hcv2 := (own_bts (l := exBytes) hlit (by omega)).convert (P := Try.prog) 27 5 9 (by kernel_rfl) (by kernel_rfl) (by kernel_rfl)
  clear hlist hlit hv5' hv9 hlv hrd
  go_wp2
  go_ret
  exact ⟨rfl, hB.alloc (by have := hB.size; omega) _⟩
end Go.Proofs.Ytppodhbfjnekcaa
