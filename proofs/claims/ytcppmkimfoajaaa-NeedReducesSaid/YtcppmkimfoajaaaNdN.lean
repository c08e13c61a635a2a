/- Appends of the program's own requirements, of any number, onto a row of one's own. -/
import Derived.Test.YtcppmkimfoajaaaNdK
import Derived.Deep.AppendLies
namespace Go.Proofs.Ytcppmkimfoajaaa
open Go.RowKit
set_option linter.all false

theorem reqs_of_own' {W : World} {base n : Nat} {v : Value} {L : List Rq} (h : W.ownsRow base 120 2 v n (flatR L)) (hn : L.length = n) : ∃ a c, v = .slice a n c ∧ n ≤ c ∧ ReqsAt W a L ∧ ∀ b o, a = some ⟨b, o, none⟩ → base ≤ b := by
  rcases h.2 with ⟨hv, h0⟩ | ⟨q, cap, cur, hv, hbq, _, hc, _⟩
  · refine ⟨none, 0, by rw [hv, h0], by omega, fun j hj => by omega, fun b o e => by cases e⟩
  · refine ⟨some ⟨q, 0, none⟩, cap, hv, hc, fun j hj => ?_, fun b o e => by injection e with e; injection e with e1 e2; omega⟩
    rw [hv] at h
    obtain ⟨e1, e2⟩ := flatR_get L j hj
    refine ⟨q, 0, rfl, ?_, ?_⟩
    · rw [Nat.zero_add, h.cellAt _ (by omega)]; exact e1
    · rw [Nat.zero_add, h.cellAt _ (by omega)]; exact e2

theorem wpList_apprq' {ops : Array Oper} {rest : List Oper} {o : Oper} {a : Act} {w : World} {Q : Exit → Act → World → Prop} (hgd : o.guard = none) (s x : Operand) (hsk : (∃ i, s = .tmp i) ∨ s = .const (.slice none 0 0)) (hxk : ∃ i, x = .tmp i)
    (ho : o.op = .call { callee := .builtin .append, args := #[s, x], argTypes := #[119, 119] }) (ht : o.type = 119)
    (base : Nat) (v : Value) (n : Nat) (L M : List Rq) (hs : a.eval s = v) (hown : w.ownsRow base 120 2 v n (flatR L)) (A : Option Addr) (c : Nat) (hx : a.eval x = .slice A M.length c)
    (hM : M ≠ [] → ∃ ad, A = some ad ∧ ∀ (j : Nat) (u : Value), (flatR M)[j]? = some u → w.cell? (ad.add j) = some u) (h63 : n + M.length ≤ 5000) (hbase : base ≤ w.heap.size)
    (h : ∀ v' w', w'.ownsRow base 120 2 v' (n + M.length) (flatR (L ++ M)) → w.grownBy w' v.ownBlock → Below base w w' → wpList Try.prog ops Q rest (a.put o.dst v') w') : wpList Try.prog ops Q (o :: rest) a w := by
  obtain ⟨i0, hi, hz0, hz1, hz2⟩ := info_parts info120
  by_cases hm : M = []
  · subst hm
    have h' := h v w (by rw [List.append_nil]; exact hown) (World.grownBy.refl _ _) (Below.refl _ _)
    have H := Lib.hid h'
    clear h h'
    refine wpList_plain hgd fun K hK => ?_
    have HK := Lib.hid (hK _ _ H.out)
    clear hK
    obtain ⟨d, op, ty, ps, af, gd⟩ := o
    simp only at ho ht hgd
    subst ho; subst ht; subst hgd
    obtain ⟨y, rfl⟩ := hxk
    have e1 : a.tmps[y]?.getD undef = .slice A 0 c := (Array.getD_eq_getD_getElem? ..).symm.trans hx
    rcases hown.2 with ⟨hv, h0⟩ | ⟨q, cap, cur, hv, _, _, hc, _⟩
    · subst hv; subst h0
      clear hown hM h63 hx
      rcases hsk with ⟨z, rfl⟩ | rfl
      · have e0 : a.tmps[z]?.getD undef = .slice none 0 0 := (Array.getD_eq_getD_getElem? ..).symm.trans hs
        clear hs
        cases A
        all_goals
          go_simp
          exact HK.out
      · clear hs
        cases A
        all_goals
          go_simp
          exact HK.out
    · subst hv
      rcases hsk with ⟨z, rfl⟩ | rfl
      · have e0 : a.tmps[z]?.getD undef = .slice (some ⟨q, 0, none⟩) n cap := (Array.getD_eq_getD_getElem? ..).symm.trans hs
        clear hs hown hM h63 hx
        cases A
        all_goals
          go_simp
          exact HK.out
      · cases hs
  · obtain ⟨ad, hA, hcs⟩ := hM hm
    subst hA
    have hpos : 0 < M.length := List.length_pos_iff.2 hm
    refine wpList_append_lies w hgd s x 119 ho base 120 i0 (.agg #[.int .i64 0, .int .i64 0]) 2 16 (by kernel_rfl) hi hz0 hz1 hz2 rfl (by decide) v n (flatR L) hs hown ad M.length c (flatR M) hx (flatR_length M) hcs (flatR_one M) hpos (by unfold maxLen; omega) (by omega) hbase w.heap.size rfl ?_
    intro g cap w' ho' hg' hq' _
    refine h _ w' (by rw [flatR_append]; exact ho') hg' ⟨hg'.os, hg'.tape, hg'.output, hg'.size, fun k hk => hg'.block k (by omega) (fun e => by have := (hown.lt k e.symm).1; omega)⟩
end Go.Proofs.Ytcppmkimfoajaaa
