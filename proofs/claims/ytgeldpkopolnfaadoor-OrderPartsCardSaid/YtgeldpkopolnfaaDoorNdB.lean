/- Appends of requirements, of any number, onto a row of one's own. -/
import Derived.Test.YtgeldpkopolnfaaDoorNdA
import Derived.Deep.AppendLies
namespace Go.Proofs.YtgeldpkopolnfaaDoor
open Go.RowKit
set_option linter.all false

theorem info87 : (Tryd.prog.info? 47).map (fun i => (i.zero, i.size, i.bytes)) = some (some (.agg #[.int .i64 0, .int .i64 0]), 2, 16) := by kernel_rfl
def flatR (L : List Rq) : List Value := L.flatMap fun x => [.int .i64 x.1, .int .i64 x.2]
theorem flatR_cons (x : Rq) (L : List Rq) : flatR (x :: L) = [.int .i64 x.1, .int .i64 x.2] ++ flatR L := by unfold flatR; rw [List.flatMap_cons]
theorem flatR_append (L M : List Rq) : flatR (L ++ M) = flatR L ++ flatR M := by unfold flatR; rw [List.flatMap_append]
theorem flatR_length (L : List Rq) : (flatR L).length = L.length * 2 := by
  induction L with
  | nil => rfl
  | cons x L ih => rw [flatR_cons, List.length_append, ih]; simp; omega
theorem flatR_get (L : List Rq) : ∀ j, j < L.length → (flatR L)[j * 2]? = some (.int .i64 (L.getD j rq0).1) ∧ (flatR L)[j * 2 + 1]? = some (.int .i64 (L.getD j rq0).2) := by
  induction L with
  | nil => intro j hj; simp at hj
  | cons x L ih =>
    intro j hj
    rw [flatR_cons]
    cases j with
    | zero => exact ⟨rfl, rfl⟩
    | succ j =>
      obtain ⟨h1, h2⟩ := ih j (by simpa using hj)
      have e : ∀ m, ([Value.int .i64 x.1, .int .i64 x.2] ++ flatR L)[(j + 1) * 2 + m]? = (flatR L)[j * 2 + m]? := fun m => by
        rw [List.getElem?_append_right (by simp; omega)]
        congr 1
        simp; omega
      exact ⟨(e 0).trans h1, (e 1).trans h2⟩
theorem flatR_one (L : List Rq) : ∀ u ∈ flatR L, u.oneCell' = true := by
  intro u hu
  unfold flatR at hu
  rw [List.mem_flatMap] at hu
  obtain ⟨x, _, hx⟩ := hu
  simp only [List.mem_cons, List.not_mem_nil, or_false] at hx
  rcases hx with rfl | rfl <;> rfl

/-- The requirements from the k-th on, of a row that is read. -/
theorem reqs_cells {W : World} {b o : Nat} {L : List Rq} (h : ReqsAt W (some ⟨b, o, none⟩) L) (k m : Nat) (hk : k + m ≤ L.length) : ∀ (j : Nat) (u : Value), (flatR ((L.drop k).take m))[j]? = some u → W.cell? ((⟨b, o + k * 2, none⟩ : Addr).add j) = some u := by
  intro j u hu
  have hadd : (⟨b, o + k * 2, none⟩ : Addr).add j = ⟨b, o + k * 2 + j, none⟩ := by unfold Addr.add; split <;> simp_all
  rw [hadd]
  have hjl := (List.getElem?_eq_some_iff.1 hu).1
  rw [flatR_length, List.length_take, List.length_drop] at hjl
  have hjk : j / 2 < m := by omega
  obtain ⟨b', o', e, c0, c1⟩ := h (k + j / 2) (by omega)
  injection e with e; injection e with e1 e2
  subst e1; subst e2
  have hget := flatR_get ((L.drop k).take m) (j / 2) (by rw [List.length_take, List.length_drop]; omega)
  have hd : ((L.drop k).take m).getD (j / 2) rq0 = L.getD (k + j / 2) rq0 := by
    rw [List.getD, List.getD, List.getElem?_take, if_pos hjk, List.getElem?_drop]
  rw [hd] at hget
  rcases Nat.mod_two_eq_zero_or_one j with h0 | h0
  · rw [show j / 2 * 2 = j by omega] at hget
    rw [hu] at hget
    rw [show o + k * 2 + j = o + (k + j / 2) * 2 by omega, c0]
    exact hget.1.symm
  · rw [show j / 2 * 2 + 1 = j by omega] at hget
    rw [hu] at hget
    rw [show o + k * 2 + j = o + (k + j / 2) * 2 + 1 by omega, c1]
    exact hget.2.symm

theorem reqs_of_own {W : World} {base n : Nat} {v : Value} {L : List Rq} (h : W.ownsRow base 47 2 v n (flatR L)) (hn : L.length = n) : ∃ a c, v = .slice a n c ∧ n ≤ c ∧ ReqsAt W a L ∧ ∀ b o, a = some ⟨b, o, none⟩ → base ≤ b := by
  rcases h.2 with ⟨hv, h0⟩ | ⟨q, cap, cur, hv, hbq, _, hc, _⟩
  · refine ⟨none, 0, by rw [hv, h0], by omega, fun j hj => by omega, fun b o e => by cases e⟩
  · refine ⟨some ⟨q, 0, none⟩, cap, hv, hc, fun j hj => ?_, fun b o e => by injection e with e; injection e with e1 e2; omega⟩
    rw [hv] at h
    obtain ⟨e1, e2⟩ := flatR_get L j hj
    refine ⟨q, 0, rfl, ?_, ?_⟩
    · rw [Nat.zero_add, h.cellAt _ (by omega)]; exact e1
    · rw [Nat.zero_add, h.cellAt _ (by omega)]; exact e2

/-- append of requirements, none or more, onto a row of one's own, at a plain region's list. -/
theorem wpList_apprq {ops : Array Oper} {rest : List Oper} {o : Oper} {a : Act} {w : World} {Q : Exit → Act → World → Prop} (hgd : o.guard = none) (s x : Operand) (hsk : (∃ i, s = .tmp i) ∨ s = .const (.slice none 0 0)) (hxk : ∃ i, x = .tmp i)
    (ho : o.op = .call { callee := .builtin .append, args := #[s, x], argTypes := #[27, 27] }) (ht : o.type = 27)
    (base : Nat) (v : Value) (n : Nat) (L M : List Rq) (hs : a.eval s = v) (hown : w.ownsRow base 47 2 v n (flatR L)) (A : Option Addr) (c : Nat) (hx : a.eval x = .slice A M.length c)
    (hM : M ≠ [] → ∃ ad, A = some ad ∧ ∀ (j : Nat) (u : Value), (flatR M)[j]? = some u → w.cell? (ad.add j) = some u) (h63 : n + M.length ≤ 5000) (hbase : base ≤ w.heap.size)
    (h : ∀ v' w', w'.ownsRow base 47 2 v' (n + M.length) (flatR (L ++ M)) → w.grownBy w' v.ownBlock → Below base w w' → wpList Tryd.prog ops Q rest (a.put o.dst v') w') : wpList Tryd.prog ops Q (o :: rest) a w := by
  obtain ⟨i0, hi, hz0, hz1, hz2⟩ := info_parts info87
  by_cases hm : M = []
  · subst hm
    have h' := h v w (by rw [List.append_nil]; exact hown) (World.grownBy.refl _ _) (Below.refl _ _)
    have H := Lib.hid h'
    clear h h'
    refine wpList_plain hgd fun K hK => ?_
    have HK := Lib.hid (hK _ _ H.out)
    clear hK
    obtain ⟨d, op, ty, ps, af, gd⟩ := o
    simp only at ho ht hgd
    subst ho; subst ht; subst hgd
    obtain ⟨y, rfl⟩ := hxk
    have e1 : a.tmps[y]?.getD undef = .slice A 0 c := (Array.getD_eq_getD_getElem? ..).symm.trans hx
    rcases hown.2 with ⟨hv, h0⟩ | ⟨q, cap, cur, hv, _, _, hc, _⟩
    · subst hv; subst h0
      clear hown hM h63 hx
      rcases hsk with ⟨z, rfl⟩ | rfl
      · have e0 : a.tmps[z]?.getD undef = .slice none 0 0 := (Array.getD_eq_getD_getElem? ..).symm.trans hs
        clear hs
        cases A
        all_goals
          go_simp
          exact HK.out
      · clear hs
        cases A
        all_goals
          go_simp
          exact HK.out
    · subst hv
      rcases hsk with ⟨z, rfl⟩ | rfl
      · have e0 : a.tmps[z]?.getD undef = .slice (some ⟨q, 0, none⟩) n cap := (Array.getD_eq_getD_getElem? ..).symm.trans hs
        clear hs hown hM h63 hx
        cases A
        all_goals
          go_simp
          exact HK.out
      · cases hs
  · obtain ⟨ad, hA, hcs⟩ := hM hm
    subst hA
    have hpos : 0 < M.length := List.length_pos_iff.2 hm
    refine wpList_append_lies w hgd s x 27 ho base 47 i0 (.agg #[.int .i64 0, .int .i64 0]) 2 16 (by kernel_rfl) hi hz0 hz1 hz2 rfl (by decide) v n (flatR L) hs hown ad M.length c (flatR M) hx (flatR_length M) hcs (flatR_one M) hpos (by unfold maxLen; omega) (by omega) hbase w.heap.size rfl ?_
    intro g cap w' ho' hg' hq' _
    refine h _ w' (by rw [flatR_append]; exact ho') hg' ⟨hg'.os, hg'.tape, hg'.output, hg'.size, fun k hk => hg'.block k (by omega) (fun e => by have := (hown.lt k e.symm).1; omega)⟩
end Go.Proofs.YtgeldpkopolnfaaDoor
