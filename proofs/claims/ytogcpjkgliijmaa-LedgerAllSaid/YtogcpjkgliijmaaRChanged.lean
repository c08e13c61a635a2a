/- The reference's Changed. -/
import Derived.Test.YtogcpjkgliijmaaChanged
namespace Go.Proofs.Ytogcpjkgliijmaa
open Go.RowKit

/-- The last decision on something, as the reference keeps it. -/
def LastR (l : List Dec) (k s : Int) (m : Nat) (lv : Value) : Prop :=
  (chg l k s m = [] ∧ lv = .int .i64 (-1)) ∨ ∃ (cc : List Nat) (x j : Nat), chg l k s m = cc ++ [x] ∧ j < m ∧ x < m ∧ lv = .int .i64 (j : Nat) ∧ (l.getD j dz).value = (l.getD x dz).value

theorem LastR.none {l : List Dec} {k s : Int} {m : Nat} {lv : Value} (h : LastR l k s m lv) (h0 : chg l k s m = []) : lv = .int .i64 (-1) := by
  rcases h with h | ⟨cc, x, j, h1, _⟩
  · exact h.2
  · rw [h0] at h1; simp at h1

theorem LastR.some {l : List Dec} {k s : Int} {m : Nat} {lv : Value} (h : LastR l k s m lv) {cc : List Nat} {x : Nat} (h0 : chg l k s m = cc ++ [x]) : ∃ j : Nat, j < m ∧ lv = .int .i64 (j : Nat) ∧ (l.getD j dz).value = (l.getD x dz).value := by
  rcases h with h | ⟨cc', x', j, h1, h2, _, h3, h4⟩
  · rw [h.1] at h0; simp at h0
  · rw [h1] at h0
    have := (List.append_inj' h0 rfl).2
    have hx : x' = x := by simpa using this
    subst hx
    exact ⟨j, h2, h3, h4⟩

theorem LastR.one {l : List Dec} {k s : Int} {m : Nat} {cc : List Nat} (h : chg l k s (m + 1) = cc ++ [m]) (_ : m < m + 1) : LastR l k s (m + 1) (.int .i64 (m : Nat)) :=
  .inr ⟨cc, m, m, h, by omega, by omega, rfl, rfl⟩

theorem LastR.more {l : List Dec} {k s : Int} {m : Nat} {cc : List Nat} {x : Nat} (h : chg l k s (m + 1) = cc ++ [x]) (hx : x < m + 1) (hm : m < l.length) (hxl : x < l.length) (hv : l[m].value = l[x].value) : LastR l k s (m + 1) (.int .i64 (m : Nat)) := by
  refine .inr ⟨cc, x, m, h, by omega, hx, rfl, ?_⟩
  have e2 : l.getD m dz = l[m] := by simp [List.getD, hm]
  have e3 : l.getD x dz = l[x] := by simp [List.getD, hxl]
  rw [e2, e3]; exact hv

theorem LastR.keep {l : List Dec} {k s : Int} {m : Nat} {lv : Value} (h : LastR l k s m lv) (he : chg l k s (m + 1) = chg l k s m) : LastR l k s (m + 1) lv := by
  rcases h with h | ⟨cc, x, j, h1, h2, h3, h4, h5⟩
  · exact .inl ⟨he.trans h.1, h.2⟩
  · exact .inr ⟨cc, x, j, he.trans h1, by omega, by omega, h4, h5⟩

set_option maxRecDepth 100000 in
set_option maxHeartbeats 4000000 in
theorem refchanged_any (w : World) {p : Option Addr} {c : Nat} (k s : Int) (l : List Dec) (hl : l.length ≤ 1000) (hr : Reads w p l) :
    Calls Try.prog 36 #[.agg #[.slice p l.length c], .int .i64 k, .int .i64 s] w (ChgPost w (chg l k s l.length)) := by
  obtain ⟨i0, hi, hz0, hz1, hz2⟩ := info_parts info3
  obtain ⟨B, hB⟩ : ∃ B, B = w.heap.size := ⟨_, rfl⟩
  have hW : Below w.heap.size w (w.alloc (.cells #[.slice p l.length c] 25)) := (Below.refl _ _).alloc (Nat.le_refl _) _
  have hrW := hr.mono hW
  have hz : (w.alloc (.cells #[.slice p l.length c] 25)).heap.size = B + 1 := by rw [hB]; simp
  have hbox : (w.alloc (.cells #[.slice p l.length c] 25)).cell? ⟨B, 0, none⟩ = some (.slice p l.length c) := by rw [hB]; simp
  have HW := Lib.hid hW; have HR := Lib.hid hrW; have HZ := Lib.hid hz; have HBX := Lib.hid hbox
  clear hW hr hrW hz hbox
  go_enter Try.func36, Try.ntmps36
  go_wp2_with fail
  rw [← hB]
  generalize w.alloc (.cells #[.slice p l.length c] 25) = W1 at *
  have HB := Lib.hid hB; clear hB
  have hbox := HBX.out
  go_wp2_with fail
  go_loopw [7, 8, 14] (fun v lv iv wr => ∃ m : Nat, m ≤ l.length ∧ iv = .int .i64 m ∧ LastR l k s m lv ∧ wr.ownsRow (B + 1) 3 1 v (chg l k s m).length (nats (chg l k s m)) ∧ Below W1.heap.size W1 wr) (fun _ _ iv _ => l.length - (intOf iv).toNat)
  case atStart => exact ⟨0, Nat.zero_le _, rfl, .inl ⟨rfl, rfl⟩, World.ownsRow_nil _ _ _ _, Below.refl _ _⟩
  case round =>
    clear hbox
    obtain ⟨m, hm, rfl, hlast, hown, hb⟩ := hrel
    have HLS := Lib.hid hlast
    clear hlast
    by_cases hlt : m < l.length
    · obtain ⟨b, o, rfl, hrow⟩ : ∃ b o, p = some ⟨b, o, none⟩ ∧ Row wr b o l := by
        rcases HR.out with h | ⟨b, o, hp, h⟩
        · subst h; simp at hlt
        · exact ⟨b, o, hp, h.mono hb⟩
      obtain ⟨c0, c1, c2, c3, c4⟩ := hrow m hlt
      have hbox := cell_later hb HBX.out
      have hszr := hb.size
      have hdec : Below W1.heap.size W1 (wr.alloc (.cells #[.int .i64 l[m].day, .int .i64 l[m].known, .int .i64 l[m].kind, .int .i64 l[m].subj, .int .i64 l[m].value] 27)) := hb.alloc hszr _
      have HD := Lib.hid hdec
      have HROW := Lib.hid hrow
      clear hdec hrow
      by_cases hk : l[m].kind = k
      · have bk : (l[m].kind != k) = false := by simpa using hk
        by_cases hs : l[m].subj = s
        · have bs : (l[m].subj != s) = false := by simpa using hs
          have hownd := (hown.alloc (.cells #[.int .i64 l[m].day, .int .i64 l[m].known, .int .i64 l[m].kind, .int .i64 l[m].subj, .int .i64 l[m].value] 27))
          rcases List.eq_nil_or_concat (chg l k s m) with h0 | ⟨cc, x, h0⟩
          · have hst := chg_first hlt hk hs h0
            have HST := Lib.hid hst
            rw [h0] at hownd
            obtain ⟨a7, cap7, rfl⟩ : ∃ a cap, u7 = .slice a 0 cap := by
              rcases hownd.2 with ⟨hv, _⟩ | ⟨q, cap, cur, hv, _⟩
              · exact ⟨none, 0, hv⟩
              · exact ⟨_, cap, hv⟩
            obtain rfl := HLS.out.none h0
            have HO := Lib.hid hownd
            clear hownd hown hb hk hs hst h0 HLS
            go_upto_region 7 with (fail)
            go_quiet (fail)
            have hb3 := below_drewN HD.out nq
            have ho3 : World.ownsRow (World.drewN (wr.alloc (.cells #[.int .i64 l[m].day, .int .i64 l[m].known, .int .i64 l[m].kind, .int .i64 l[m].subj, .int .i64 l[m].value] 27)) nq) (B + 1) 3 1 (.slice a7 0 cap7) 0 [] := HO.out
            generalize World.drewN (wr.alloc (.cells #[.int .i64 l[m].day, .int .i64 l[m].known, .int .i64 l[m].kind, .int .i64 l[m].subj, .int .i64 l[m].value] 27)) nq = W3 at *
            have HB3 := Lib.hid hb3; have HO3 := Lib.hid ho3
            clear hb3 ho3 HO
            have hsz3 := HB3.out.size
            have hz1' := HZ.out
            have hn : ∀ (j : Nat) (u : Value), ([.int .i64 (m : Int)] : List Value)[j]? = some u → (W3.alloc (.cells #[.int .i64 (m : Int)] 3)).cell? ((⟨W3.heap.size, 0, none⟩ : Addr).add j) = some u := by
              intro j u hu
              match j, hu with
              | 0, hu => simp at hu; subst hu; simp [Addr.add]
            have HN := Lib.hid hn; clear hn
            go_wp2_with (at_builtin; refine wpList_append_own _ rfl _ _ 22 rfl (B + 1) 3 i0 (.int .i64 0) 1 8 Try.underlying22 hi hz0 hz1 hz2 rfl (by decide) _ _ _ rfl (HO3.out.alloc _) ⟨W3.heap.size, 0, none⟩ 1 1 [.int .i64 m] rfl rfl HN.out (by intro u hu; simp at hu; subst hu; rfl) (by unfold maxLen; omega) (by omega) (by simp; omega) ?_; intro v' W5 hown' hgrow _; have hb5 := (HB3.out.alloc hsz3 (.cells #[.int .i64 (m : Int)] 3)).grown hgrow (by simp; omega) (fun k' hk' => by rw [hz1']; exact (HO3.out.lt k' hk').1); have HB5 := Lib.hid hb5; have HO5 := Lib.hid hown'; clear hb5 hown' hgrow)
            go_roundw
            case rel => exact ⟨m + 1, by omega, by go_num, LastR.one (cc := []) HST.out (by omega), by rw [HST.out]; exact HO5.out, HB5.out⟩
            case measure => simp [intOf]; omega
          · rw [List.concat_eq_append] at h0
            have hxm : x < m := chg_lt l k s m x (by rw [h0]; simp)
            have hcl := chg_len l k s m
            rw [h0] at hcl hownd
            have hln : (cc ++ [x]).length = cc.length + 1 := by simp
            rw [hln] at hcl hownd
            have hst := chg_more hlt hk hs h0 (by omega)
            obtain ⟨q7, cap7, rfl⟩ := own_form hownd (by omega)
            obtain ⟨j, hjm, rfl, hjv⟩ := HLS.out.some h0
            obtain ⟨d0, d1, d2, d3, d4⟩ := HROW.out j (by omega)
            have hbx : Below wr.heap.size wr (wr.alloc (.cells #[.int .i64 l[m].day, .int .i64 l[m].known, .int .i64 l[m].kind, .int .i64 l[m].subj, .int .i64 l[m].value] 27)) := (Below.refl _ _).alloc (Nat.le_refl _) _
            have d4' := cell_later hbx d4
            have hbox' := cell_later hbx hbox
            have hjl : j < l.length := by omega
            have e1 : decide ((j : Int) < 0) = false := by rw [decide_eq_false_iff_not]; omega
            have hx0 : (0 : Int) ≤ j := by omega
            have hxl : (j : Int) < l.length := by omega
            have hjx : l[j].value = l[x].value := by
              have e2 : l.getD j dz = l[j] := by simp [List.getD, hjl]
              have e3 : l.getD x dz = l[x] := by simp [List.getD, show x < l.length by omega]
              rw [e2, e3] at hjv; exact hjv
            clear hjv
            have HO := Lib.hid hownd; have HST := Lib.hid hst
            clear hownd hown hb hk hs hst h0 d0 d1 d2 d3 d4 hbx HLS
            by_cases hv : l[x].value = l[m].value
            · have bv : (l[j].value != l[m].value) = false := by rw [hjx]; simpa using hv
              have hst : chg l k s (m + 1) = cc ++ [x] := by rw [HST.out, if_pos hv]
              have HS2 := Lib.hid hst
              have hlr : LastR l k s (m + 1) (.int .i64 (m : Nat)) := LastR.more hst (by omega) hlt (by omega) (by simpa using hv.symm)
              have HLR := Lib.hid hlr
              clear hst HST hv hjx hlr
              go_upto_region 7 with (fail)
              clear hbox c0 c1 c2 c3
              go_quiet (fail)
              go_wp2_with fail
              go_roundw
              case rel => exact ⟨m + 1, by omega, by go_num, HLR.out, by rw [HS2.out, show (cc ++ [x]).length = cc.length + 1 by simp]; exact HO.out, below_drewN HD.out _⟩
              case measure => simp [intOf]; omega
            · have bv : (l[j].value != l[m].value) = true := by rw [hjx]; simpa using hv
              have hst : chg l k s (m + 1) = cc ++ [x] ++ [m] := by rw [HST.out, if_neg hv]
              have HS2 := Lib.hid hst
              have hlr : LastR l k s (m + 1) (.int .i64 (m : Nat)) := LastR.one hst (by omega)
              have HLR := Lib.hid hlr
              clear hst HST hv hjx hlr
              go_upto_region 7 with (fail)
              clear hbox c0 c1 c2 c3
              go_quiet (fail)
              have hb3 := below_drewN HD.out nq
              have ho3 : World.ownsRow (World.drewN (wr.alloc (.cells #[.int .i64 l[m].day, .int .i64 l[m].known, .int .i64 l[m].kind, .int .i64 l[m].subj, .int .i64 l[m].value] 27)) nq) (B + 1) 3 1 (.slice (some ⟨q7, 0, none⟩) (cc.length + 1) cap7) (cc.length + 1) (nats (cc ++ [x])) := HO.out
              clear d4'
              generalize World.drewN (wr.alloc (.cells #[.int .i64 l[m].day, .int .i64 l[m].known, .int .i64 l[m].kind, .int .i64 l[m].subj, .int .i64 l[m].value] 27)) nq = W3 at *
              have HB3 := Lib.hid hb3; have HO3 := Lib.hid ho3
              clear hb3 ho3 HO
              have hsz3 := HB3.out.size
              have hz1' := HZ.out
              have hn : ∀ (j : Nat) (u : Value), ([.int .i64 (m : Int)] : List Value)[j]? = some u → (W3.alloc (.cells #[.int .i64 (m : Int)] 3)).cell? ((⟨W3.heap.size, 0, none⟩ : Addr).add j) = some u := by
                intro j u hu
                match j, hu with
                | 0, hu => simp at hu; subst hu; simp [Addr.add]
              have HN := Lib.hid hn; clear hn
              go_wp2_with (at_builtin; refine wpList_append_own _ rfl _ _ 22 rfl (B + 1) 3 i0 (.int .i64 0) 1 8 Try.underlying22 hi hz0 hz1 hz2 rfl (by decide) _ _ _ rfl (HO3.out.alloc _) ⟨W3.heap.size, 0, none⟩ 1 1 [.int .i64 m] rfl rfl HN.out (by intro u hu; simp at hu; subst hu; rfl) (by unfold maxLen; omega) (by omega) (by simp; omega) ?_; intro v' W5 hown' hgrow _; have hb5 := (HB3.out.alloc hsz3 (.cells #[.int .i64 (m : Int)] 3)).grown hgrow (by simp; omega) (fun k' hk' => by rw [hz1']; exact (HO3.out.lt k' hk').1); have HB5 := Lib.hid hb5; have HO5 := Lib.hid hown'; clear hb5 hown' hgrow)
              go_roundw
              case rel => exact ⟨m + 1, by omega, by go_num, HLR.out, by rw [HS2.out, nats_snoc (cc ++ [x]) m, show (cc ++ [x] ++ [m]).length = cc.length + 1 + 1 by simp]; exact HO5.out, HB5.out⟩
              case measure => simp [intOf]; omega
        · have bs : (l[m].subj != s) = true := by simpa using hs
          have hno := chg_no (k := k) (s := s) hlt (fun h => hs h.2)
          have HNO := Lib.hid hno; have HOWN := Lib.hid hown; have HBB := Lib.hid hb
          clear hno hown hb hk hs
          go_wp2_with fail
          go_roundw
          case rel => exact ⟨m + 1, by omega, by go_num, HLS.out.keep HNO.out, by rw [HNO.out]; exact HOWN.out.alloc _, HD.out⟩
          case measure => simp [intOf]; omega
      · have bk : (l[m].kind != k) = true := by simpa using hk
        have hno := chg_no (k := k) (s := s) hlt (fun h => hk h.1)
        have HNO := Lib.hid hno; have HOWN := Lib.hid hown; have HBB := Lib.hid hb
        clear hno hown hb hk
        go_wp2_with fail
        go_roundw
        case rel => exact ⟨m + 1, by omega, by go_num, HLS.out.keep HNO.out, by rw [HNO.out]; exact HOWN.out.alloc _, HD.out⟩
        case measure => simp [intOf]; omega
    · have hm' : m = l.length := by omega
      subst hm'
      have HOWN := Lib.hid hown; have HBB := Lib.hid hb
      clear hown hb
      go_wp2_with fail
      go_ret
      exact ⟨_, rfl, own_less HOWN.out (by rw [HB.out]; omega), below_step HW.out HBB.out⟩
end Go.Proofs.Ytogcpjkgliijmaa
