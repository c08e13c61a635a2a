/- The law of reductions: the region that leaves one requirement out. -/
import Derived.Test.YtcppmkimfoajaaaRdF
import Derived.Test.YtcppmkimfoajaaaRdG
namespace Go.Proofs.Ytcppmkimfoajaaa
open Go.RowKit
set_option linter.all false

/-- append of requirements, none or more, at the operation. -/
theorem wp_apprq {o : Oper} {a : Act} {w : World} {K : Act → World → Prop} {Q : Exit → Act → World → Prop} (s x : Operand) (hsk : (∃ i, s = .tmp i) ∨ s = .const (.slice none 0 0)) (hxk : ∃ i, x = .tmp i)
    (ho : o.op = .call { callee := .builtin .append, args := #[s, x], argTypes := #[31, 31] }) (ht : o.type = 31)
    (base : Nat) (v : Value) (n : Nat) (L M : List Rq) (hs : a.eval s = v) (hown : w.ownsRow base 87 2 v n (flatR L)) (A : Option Addr) (c : Nat) (hx : a.eval x = .slice A M.length c)
    (hM : M ≠ [] → ∃ ad, A = some ad ∧ ∀ (j : Nat) (u : Value), (flatR M)[j]? = some u → w.cell? (ad.add j) = some u) (h63 : n + M.length ≤ 5000) (hbase : base ≤ w.heap.size)
    (h : ∀ v' w', w'.ownsRow base 87 2 v' (n + M.length) (flatR (L ++ M)) → w.grownBy w' v.ownBlock → Below base w w' → K (a.put o.dst v') w') : o.wp Try.prog a w K Q := by
  obtain ⟨i0, hi, hz0, hz1, hz2⟩ := info_parts info87
  by_cases hm : M = []
  · subst hm
    have h' := h v w (by rw [List.append_nil]; exact hown) (World.grownBy.refl _ _) (Below.refl _ _)
    have HK := Lib.hid h'
    clear h h'
    obtain ⟨d, op, ty, ps, af, gd⟩ := o
    simp only at ho ht
    subst ho; subst ht
    obtain ⟨y, rfl⟩ := hxk
    have e1 : a.tmps[y]?.getD undef = .slice A 0 c := (Array.getD_eq_getD_getElem? ..).symm.trans hx
    rcases hown.2 with ⟨hv, h0⟩ | ⟨q, cap, cur, hv, _, _, hc, _⟩
    · subst hv; subst h0
      clear hown hM h63 hx
      rcases hsk with ⟨z, rfl⟩ | rfl
      · have e0 : a.tmps[z]?.getD undef = .slice none 0 0 := (Array.getD_eq_getD_getElem? ..).symm.trans hs
        clear hs
        cases A
        all_goals
          go_simp
          exact HK.out
      · clear hs
        cases A
        all_goals
          go_simp
          exact HK.out
    · subst hv
      rcases hsk with ⟨z, rfl⟩ | rfl
      · have e0 : a.tmps[z]?.getD undef = .slice (some ⟨q, 0, none⟩) n cap := (Array.getD_eq_getD_getElem? ..).symm.trans hs
        clear hs hown hM h63 hx
        cases A
        all_goals
          go_simp
          exact HK.out
      · cases hs
  · obtain ⟨ad, hA, hcs⟩ := hM hm
    subst hA
    have hpos : 0 < M.length := List.length_pos_iff.2 hm
    obtain ⟨d, op, ty, ps, af, gd⟩ := o
    simp only at ho ht
    subst ho; subst ht
    refine wp_append_lies w s x 31 rfl base 87 i0 (.agg #[.int .i64 0, .int .i64 0]) 2 16 (by kernel_rfl) hi hz0 hz1 hz2 rfl (by decide) v n (flatR L) hs hown ad M.length c (flatR M) hx (flatR_length M) hcs (flatR_one M) hpos (by unfold maxLen; omega) (by omega) hbase w.heap.size rfl ?_
    intro g cap w' ho' hg' hq' _
    refine h _ w' (by rw [flatR_append]; exact ho') hg' ⟨hg'.os, hg'.tape, hg'.output, hg'.size, fun k hk => hg'.block k (by omega) (fun e => by have := (hown.lt k e.symm).1; omega)⟩

def GL (S b o N c k : Nat) (P : List Rq) (l : Array Bool) (i : Nat) (v : Value) (W : World) : Prop := match i with
  | 0 => v = .slice (some ⟨b, o, none⟩) N c
  | 1 => v = .int .i64 (k : Int)
  | 2 => v = .slice (some ⟨b, o, none⟩) k c
  | 3 => l.getD 8 false = false → W.ownsRow S 87 2 v k (flatR (P.take k))
  | 4 => v = .slice (some ⟨b, o, none⟩) N c
  | 5 => v = .int .i64 (k : Int)
  | 6 => v = .int .i64 ((k : Int) + 1)
  | 7 => ∃ A cc, v = .slice A (N - (k + 1)) cc ∧ (k + 1 < N → A = some ⟨b, o + (k + 1) * 2, none⟩)
  | 8 => W.ownsRow S 87 2 v (k + (P.drop (k + 1)).length) (flatR (P.take k ++ P.drop (k + 1)))
  | 9 => W.ownsRow S 87 2 v (k + (P.drop (k + 1)).length) (flatR (P.take k ++ P.drop (k + 1)))
  | _ => True
section
variable {S b o N c k : Nat} {P : List Rq} {l : Array Bool} {W W' : World}
theorem GL.mono {j : Nat} {u : Value} (h : GL S b o N c k P l j u W) (i : Nat) : GL S b o N c k P (l.setIfInBounds i true) j u W := by
  match j with
  | 0 => exact h
  | 1 => exact h
  | 2 => exact h
  | 3 => exact fun hl => h (set_false hl)
  | 4 => exact h
  | 5 => exact h
  | 6 => exact h
  | 7 => exact h
  | 8 => exact h
  | 9 => exact h
  | _ + 10 => exact h
theorem GL.other {j : Nat} {u : Value} (h : GL S b o N c k P l j u W) (i : Nat) (h3 : j = 3 → GL S b o N c k P (l.setIfInBounds i true) 3 u W') (h8 : j = 8 ∨ j = 9 → False) : GL S b o N c k P (l.setIfInBounds i true) j u W' := by
  match j with
  | 0 => exact h
  | 1 => exact h
  | 2 => exact h
  | 3 => exact h3 rfl
  | 4 => exact h
  | 5 => exact h
  | 6 => exact h
  | 7 => exact h
  | 8 => exact (h8 (.inl rfl)).elim
  | 9 => exact (h8 (.inr rfl)).elim
  | _ + 10 => exact h
end
end Go.Proofs.Ytcppmkimfoajaaa
