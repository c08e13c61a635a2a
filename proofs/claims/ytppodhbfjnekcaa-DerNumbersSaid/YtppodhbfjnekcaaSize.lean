/- der.size of elements of which nothing has been met. -/
import Derived.Test.YtppodhbfjnekcaaShape
import Derived.Test.YtppodhbfjnekcaaMaps
namespace Go.Proofs.Ytppodhbfjnekcaa
open Go.RowKit

/-- An element without elements. -/
structure Leaf where
  t : Int
  sp : Option Addr
  ll : Nat
  cl : Nat
  nb : Bool
  ep : Option Addr
  ec : Nat
instance : Inhabited Leaf := ⟨⟨0, none, 0, 0, false, none, 0⟩⟩

/-- A row of such elements. -/
def Leaves (w : World) (b o : Nat) (ls : List Leaf) : Prop := ∀ i, i < ls.length → El w b (o + i * 4) (ls.getD i default).t (.slice (ls.getD i default).sp (ls.getD i default).ll (ls.getD i default).cl) (ls.getD i default).nb (.slice (ls.getD i default).ep 0 (ls.getD i default).ec)

theorem Leaves.mono {w w' : World} {b o : Nat} {ls : List Leaf} (h : Leaves w b o ls) (hb : Below w.heap.size w w') : Leaves w' b o ls := fun i hi => (h i hi).mono hb

def sizeL : List Leaf → Nat
  | [] => 0
  | x :: l => 64 + x.ll + sizeL l

theorem sizeL_snoc (l : List Leaf) (x : Leaf) : sizeL (l ++ [x]) = sizeL l + (64 + x.ll) := by
  induction l with
  | nil => simp [sizeL]
  | cons y l ih => simp only [List.cons_append, sizeL, ih]; omega

theorem sizeL_take (l : List Leaf) (k : Nat) (h : k < l.length) : sizeL (l.take (k + 1)) = sizeL (l.take k) + (64 + (l.getD k default).ll) := by
  rw [List.take_succ_eq_append_getElem h, sizeL_snoc]
  simp [List.getD, h]

theorem sizeL_le (l : List Leaf) (k : Nat) : sizeL (l.take k) ≤ sizeL l := by
  induction l generalizing k with
  | nil => simp [sizeL]
  | cons x l ih => cases k with
    | zero => simp [sizeL]
    | succ k => have := ih k; simp only [List.take_succ_cons, sizeL]; omega

theorem sizeL_len (l : List Leaf) : 64 * l.length ≤ sizeL l := by
  induction l with
  | nil => simp
  | cons x l ih => simp only [List.length_cons, sizeL]; omega

/-- The call has drawn only. -/
def Drew (w : World) (v : Value) (e : Ending) (w' : World) : Prop := e = .returned v ∧ ∃ q, w' = w.drewN q

/-- What has been met is none of the elements. -/
def Fresh (ml : List (Addr × Int)) (b o n : Nat) : Prop := ∀ i, i < n → getP ⟨b, o + i * 4, none⟩ ml = none

theorem MapP.drew {w : World} {r : Nat} {l : List (Addr × Int)} (h : MapP w r l) : MapP w.drew r l := h

set_option maxRecDepth 100000 in
set_option maxHeartbeats 1000000 in
theorem size_leaves (b o c r : Nat) (ls : List Leaf) (ml : List (Addr × Int)) (w : World) (n : Nat) (hn : ls.length = n) (hl : Leaves w b o ls) (hm : MapP w r ml) (hp : Plain w b) (hf : Fresh ml b o n) (hs : sizeL ls ≤ 2147483647) :
    Calls Try.prog 62 #[.slice (some ⟨b, o, none⟩) n c, .map (some r)] w (Drew w (.int .i64 (sizeL ls))) := by
  have hnb : n ≤ 33554432 := by have := sizeL_len ls; omega
  have HN := Lib.hid hn; clear hn
  have HL := Lib.hid hl; clear hl
  have HF := Lib.hid hf; clear hf
  go_enter Try.func62, Try.ntmps62
  go_wp2_with fail
  go_loopw [5, 9] (fun a i wr => ∃ (k : Nat) (s : Nat) (q : Nat), k ≤ n ∧ i = .int .i64 k ∧ a = .int .i64 s ∧ s ≤ 2147483647 ∧ Hid (s = sizeL (ls.take k)) ∧ wr = w.drewN q) (fun _ i _ => n - (intOf i).toNat)
  case atStart => exact ⟨0, 0, 0, by omega, rfl, rfl, by omega, Lib.hid rfl, rfl⟩
  case round =>
    obtain ⟨k, s, q, hk, rfl, rfl, hsm, HS, rfl⟩ := hrel
    by_cases hlt : k < n
    · obtain ⟨x, hx⟩ : ∃ x, x = ls.getD k default := ⟨_, rfl⟩
      have he := HL.out k (by rw [HN.out]; exact hlt)
      rw [← hx] at he
      have hstep := sizeL_take ls k (by rw [HN.out]; exact hlt)
      have hle := sizeL_le ls (k + 1)
      rw [hstep, ← HS.out, ← hx] at hle
      have HX := Lib.hid hx; clear hx
      have HST := Lib.hid hstep; clear hstep
      obtain ⟨e0, e1, e2, e3⟩ := he
      have hlk : (Instr.lookup 92 (.map (some r)) (.pointer (some ⟨b, o + k * 4, none⟩)) false).run Try.prog (w.drewN (q + 1)) = .ok (.int .i64 0) (w.drewN (q + 1)) := by
        have := run_lookup_p (w := w.drewN (q + 1)) (r := r) (l := ml) (a := ⟨b, o + k * 4, none⟩) hm hp
        rw [lookP_get, HF.out k hlt] at this
        exact this
      have hsx : s + (64 + x.ll) ≤ 2147483647 := by omega
      clear hle
      go_wp2_with fail
      go_region
      go_wp2
      go_roundw
      case rel =>
        exact ⟨k + 1, s + (64 + x.ll), q + 1, by omega, by go_num, by congr 1; omega, hsx, Lib.hid (by rw [HST.out, HS.out, HX.out]), rfl⟩
      case measure => simp [intOf]; omega
    · go_wp2
      go_ret
      exact ⟨by rw [HS.out, List.take_of_length_le (by rw [HN.out]; omega)]; rfl, q, rfl⟩
end Go.Proofs.Ytppodhbfjnekcaa
