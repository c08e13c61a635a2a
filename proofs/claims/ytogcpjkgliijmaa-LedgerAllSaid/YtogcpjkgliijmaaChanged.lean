/- ledger.Changed. -/
import Derived.Test.YtogcpjkgliijmaaDiffer
import Derived.BigQuiet
import Derived.OwnWalk
namespace Go.Proofs.Ytogcpjkgliijmaa
open Go.RowKit

theorem info3 : (Try.prog.info? 3).map (fun i => (i.zero, i.size, i.bytes)) = some (some (.int .i64 0), 1, 8) := by kernel_rfl

/-- The places among the first m decisions at which the value of something changes. -/
def chg (l : List Dec) (k s : Int) : Nat → List Nat
  | 0 => []
  | m + 1 => if (l.getD m dz).kind = k ∧ (l.getD m dz).subj = s ∧ (chg l k s m = [] ∨ (l.getD ((chg l k s m).getLastD 0) dz).value ≠ (l.getD m dz).value) then chg l k s m ++ [m] else chg l k s m

theorem chg_lt (l : List Dec) (k s : Int) : ∀ m, ∀ x ∈ chg l k s m, x < m := by
  intro m
  induction m with
  | zero => intro x h; cases h
  | succ m ih =>
    intro x h
    unfold chg at h
    split at h
    · rcases List.mem_append.1 h with h | h
      · have := ih x h; omega
      · simp at h; omega
    · have := ih x h; omega

theorem chg_len (l : List Dec) (k s : Int) : ∀ m, (chg l k s m).length ≤ m := by
  intro m
  induction m with
  | zero => simp [chg]
  | succ m ih =>
    unfold chg
    split
    · simp; omega
    · omega

theorem chg_no {l : List Dec} {k s : Int} {m : Nat} (h : m < l.length) (hn : ¬ (l[m].kind = k ∧ l[m].subj = s)) : chg l k s (m + 1) = chg l k s m := by
  have e : l.getD m dz = l[m] := by simp [List.getD, h]
  simp only [chg, e]
  rw [if_neg (fun h => hn ⟨h.1, h.2.1⟩)]

theorem chg_first {l : List Dec} {k s : Int} {m : Nat} (h : m < l.length) (hk : l[m].kind = k) (hs : l[m].subj = s) (h0 : chg l k s m = []) : chg l k s (m + 1) = [m] := by
  have e : l.getD m dz = l[m] := by simp [List.getD, h]
  simp only [chg, e]
  rw [if_pos ⟨hk, hs, .inl h0⟩, h0]; rfl

theorem chg_more {l : List Dec} {k s : Int} {m : Nat} (h : m < l.length) (hk : l[m].kind = k) (hs : l[m].subj = s) {c : List Nat} {x : Nat} (h0 : chg l k s m = c ++ [x]) (hx : x < l.length) :
    chg l k s (m + 1) = if l[x].value = l[m].value then c ++ [x] else c ++ [x] ++ [m] := by
  have e : l.getD m dz = l[m] := by simp [List.getD, h]
  have e2 : l.getD x dz = l[x] := by simp [List.getD, hx]
  simp only [chg, e, h0, List.getLastD_concat, e2]
  by_cases hv : l[x].value = l[m].value
  · rw [if_pos hv, if_neg]; rintro ⟨_, _, h | h⟩
    · simp at h
    · exact h hv
  · rw [if_neg hv, if_pos ⟨hk, hs, .inr hv⟩]

/-- The places, as the program holds them. -/
def nats (c : List Nat) : List Value := c.map fun n : Nat => .int .i64 n
theorem nats_snoc (c : List Nat) (x : Nat) : nats (c ++ [x]) = nats c ++ [.int .i64 x] := by simp [nats]

def ChgPost (w : World) (c : List Nat) (e : Ending) (w' : World) : Prop :=
  ∃ v, e = .returned v ∧ w'.ownsRow w.heap.size 3 1 v c.length (nats c) ∧ Below w.heap.size w w'

theorem own_less {w : World} {b b' : Nat} {e : TypeId} {size : Nat} {v : Value} {n : Nat} {xs : List Value} (h : w.ownsRow b e size v n xs) (hb : b' ≤ b) : w.ownsRow b' e size v n xs := by
  obtain ⟨h1, h2⟩ := h
  refine ⟨h1, ?_⟩
  rcases h2 with h2 | ⟨g, cap, cur, hv, hg, r⟩
  · exact .inl h2
  · exact .inr ⟨g, cap, cur, hv, Nat.le_trans hb hg, r⟩

set_option maxRecDepth 100000 in
set_option maxHeartbeats 4000000 in
theorem changed_any (w : World) {p : Option Addr} {c : Nat} (k s : Int) (l : List Dec) (hl : l.length ≤ 1000) (hc : l.length ≤ c) (hr : Reads w p l) :
    Calls Try.prog 35 #[.agg #[.slice p l.length c], .int .i64 k, .int .i64 s] w (ChgPost w (chg l k s l.length)) := by
  obtain ⟨i0, hi, hz0, hz1, hz2⟩ := info_parts info3
  obtain ⟨B, hB⟩ : ∃ B, B = w.heap.size := ⟨_, rfl⟩
  have hW : Below w.heap.size w (w.alloc (.cells #[.slice p l.length c] 25)) := (Below.refl _ _).alloc (Nat.le_refl _) _
  have hrW := hr.mono hW
  have hz : (w.alloc (.cells #[.slice p l.length c] 25)).heap.size = B + 1 := by rw [hB]; simp
  have hbox : (w.alloc (.cells #[.slice p l.length c] 25)).cell? ⟨B, 0, none⟩ = some (.slice p l.length c) := by rw [hB]; simp
  have HW := Lib.hid hW; have HR := Lib.hid hrW; have HZ := Lib.hid hz; have HBX := Lib.hid hbox
  clear hW hr hrW hz hbox
  go_enter Try.func35, Try.ntmps35
  go_wp2_with fail
  rw [← hB]
  generalize w.alloc (.cells #[.slice p l.length c] 25) = W1 at *
  have HB := Lib.hid hB; clear hB
  have hbox := HBX.out
  go_wp2_with fail
  go_loopw [7, 14] (fun v iv wr => ∃ m : Nat, m ≤ l.length ∧ iv = .int .i64 m ∧ wr.ownsRow (B + 1) 3 1 v (chg l k s m).length (nats (chg l k s m)) ∧ Below W1.heap.size W1 wr) (fun _ iv _ => l.length - (intOf iv).toNat)
  case atStart => exact ⟨0, Nat.zero_le _, rfl, World.ownsRow_nil _ _ _ _, Below.refl _ _⟩
  case round =>
    clear hbox
    obtain ⟨m, hm, rfl, hown, hb⟩ := hrel
    by_cases hlt : m < l.length
    · obtain ⟨b, o, rfl, hrow⟩ : ∃ b o, p = some ⟨b, o, none⟩ ∧ Row wr b o l := by
        rcases HR.out with h | ⟨b, o, hp, h⟩
        · subst h; simp at hlt
        · exact ⟨b, o, hp, h.mono hb⟩
      obtain ⟨c0, c1, c2, c3, c4⟩ := hrow m hlt
      have hbox := cell_later hb HBX.out
      have hszr := hb.size
      have hdec : Below W1.heap.size W1 (wr.alloc (.cells #[.int .i64 l[m].day, .int .i64 l[m].known, .int .i64 l[m].kind, .int .i64 l[m].subj, .int .i64 l[m].value] 27)) := hb.alloc hszr _
      have HD := Lib.hid hdec
      have HROW := Lib.hid hrow
      clear hdec hrow
      by_cases hk : l[m].kind = k
      · have bk : (l[m].kind != k) = false := by simpa using hk
        by_cases hs : l[m].subj = s
        · have bs : (l[m].subj != s) = false := by simpa using hs
          have hownd := (hown.alloc (.cells #[.int .i64 l[m].day, .int .i64 l[m].known, .int .i64 l[m].kind, .int .i64 l[m].subj, .int .i64 l[m].value] 27))
          rcases List.eq_nil_or_concat (chg l k s m) with h0 | ⟨cc, x, h0⟩
          · have hst := chg_first hlt hk hs h0
            have HST := Lib.hid hst
            rw [h0] at hownd
            obtain ⟨a7, cap7, rfl⟩ : ∃ a cap, u7 = .slice a 0 cap := by
              rcases hownd.2 with ⟨hv, _⟩ | ⟨q, cap, cur, hv, _⟩
              · exact ⟨none, 0, hv⟩
              · exact ⟨_, cap, hv⟩
            have HO := Lib.hid hownd
            clear hownd hown hb hk hs hst h0
            go_upto_region 7 with (fail)
            go_quiet (fail)
            have hb3 := below_drewN HD.out nq
            have ho3 : World.ownsRow (World.drewN (wr.alloc (.cells #[.int .i64 l[m].day, .int .i64 l[m].known, .int .i64 l[m].kind, .int .i64 l[m].subj, .int .i64 l[m].value] 27)) nq) (B + 1) 3 1 (.slice a7 0 cap7) 0 [] := HO.out
            generalize World.drewN (wr.alloc (.cells #[.int .i64 l[m].day, .int .i64 l[m].known, .int .i64 l[m].kind, .int .i64 l[m].subj, .int .i64 l[m].value] 27)) nq = W3 at *
            have HB3 := Lib.hid hb3; have HO3 := Lib.hid ho3
            clear hb3 ho3 HO
            have hsz3 := HB3.out.size
            have hz1' := HZ.out
            have hn : ∀ (j : Nat) (u : Value), ([.int .i64 (m : Int)] : List Value)[j]? = some u → (W3.alloc (.cells #[.int .i64 (m : Int)] 3)).cell? ((⟨W3.heap.size, 0, none⟩ : Addr).add j) = some u := by
              intro j u hu
              match j, hu with
              | 0, hu => simp at hu; subst hu; simp [Addr.add]
            have HN := Lib.hid hn; clear hn
            go_wp2_with (at_builtin; refine wpList_append_own _ rfl _ _ 22 rfl (B + 1) 3 i0 (.int .i64 0) 1 8 Try.underlying22 hi hz0 hz1 hz2 rfl (by decide) _ _ _ rfl (HO3.out.alloc _) ⟨W3.heap.size, 0, none⟩ 1 1 [.int .i64 m] rfl rfl HN.out (by intro u hu; simp at hu; subst hu; rfl) (by unfold maxLen; omega) (by omega) (by simp; omega) ?_; intro v' W5 hown' hgrow _; have hb5 := (HB3.out.alloc hsz3 (.cells #[.int .i64 (m : Int)] 3)).grown hgrow (by simp; omega) (fun k' hk' => by rw [hz1']; exact (HO3.out.lt k' hk').1); have HB5 := Lib.hid hb5; have HO5 := Lib.hid hown'; clear hb5 hown' hgrow)
            go_roundw
            case rel => exact ⟨m + 1, by omega, by go_num, by rw [HST.out]; exact HO5.out, HB5.out⟩
            case measure => simp [intOf]; omega
          · rw [List.concat_eq_append] at h0
            have hxm : x < m := chg_lt l k s m x (by rw [h0]; simp)
            have hcl := chg_len l k s m
            rw [h0] at hcl hownd
            have hln : (cc ++ [x]).length = cc.length + 1 := by simp
            rw [hln] at hcl hownd
            have hst := chg_more hlt hk hs h0 (by omega)
            obtain ⟨q7, cap7, rfl⟩ := own_form hownd (by omega)
            obtain ⟨d0, d1, d2, d3, d4⟩ := HROW.out x (by omega)
            have hx7 : (wr.alloc (.cells #[.int .i64 l[m].day, .int .i64 l[m].known, .int .i64 l[m].kind, .int .i64 l[m].subj, .int .i64 l[m].value] 27)).cell? ⟨q7, cc.length, none⟩ = some (.int .i64 x) := by
              rw [hownd.cellAt cc.length (by omega), nats_snoc]
              simp [nats]
            have hq7 := (hownd.lt q7 rfl)
            have hbx : Below wr.heap.size wr (wr.alloc (.cells #[.int .i64 l[m].day, .int .i64 l[m].known, .int .i64 l[m].kind, .int .i64 l[m].subj, .int .i64 l[m].value] 27)) := (Below.refl _ _).alloc (Nat.le_refl _) _
            have d4' := cell_later hbx d4
            have hbox' := cell_later hbx hbox
            have e1 : IntKind.i64.wrap (cc.length : Int) = cc.length := IntWalk.i64_in (cc.length : Int) (by omega)
            have e2 : ((cc.length : Int) + 1 == 0) = false := by simp; omega
            have e3 : (cc.length : Int) < cc.length + 1 := by omega
            have e4 : (0 : Int) ≤ cc.length := by omega
            have hx0 : (0 : Int) ≤ x := by omega
            have hxl : (x : Int) < l.length := by omega
            have HO := Lib.hid hownd; have HST := Lib.hid hst
            clear hownd hown hb hk hs hst h0 d0 d1 d2 d3 d4 hbx
            by_cases hv : l[x].value = l[m].value
            · have bv : (l[x].value != l[m].value) = false := by simpa using hv
              have hst : chg l k s (m + 1) = cc ++ [x] := by rw [HST.out, if_pos hv]
              have HS2 := Lib.hid hst
              clear hst HST hv
              go_upto_region 7 with (fail)
              clear hbox c0 c1 c2 c3
              go_quiet (fail)
              go_wp2_with fail
              go_roundw
              case rel => exact ⟨m + 1, by omega, by go_num, by rw [HS2.out, show (cc ++ [x]).length = cc.length + 1 by simp]; exact HO.out, below_drewN HD.out _⟩
              case measure => simp [intOf]; omega
            · have bv : (l[x].value != l[m].value) = true := by simpa using hv
              have hst : chg l k s (m + 1) = cc ++ [x] ++ [m] := by rw [HST.out, if_neg hv]
              have HS2 := Lib.hid hst
              clear hst HST hv
              go_upto_region 7 with (fail)
              clear hbox c0 c1 c2 c3
              go_quiet (fail)
              have hb3 := below_drewN HD.out nq
              have ho3 : World.ownsRow (World.drewN (wr.alloc (.cells #[.int .i64 l[m].day, .int .i64 l[m].known, .int .i64 l[m].kind, .int .i64 l[m].subj, .int .i64 l[m].value] 27)) nq) (B + 1) 3 1 (.slice (some ⟨q7, 0, none⟩) (cc.length + 1) cap7) (cc.length + 1) (nats (cc ++ [x])) := HO.out
              clear hx7 d4' hq7
              generalize World.drewN (wr.alloc (.cells #[.int .i64 l[m].day, .int .i64 l[m].known, .int .i64 l[m].kind, .int .i64 l[m].subj, .int .i64 l[m].value] 27)) nq = W3 at *
              have HB3 := Lib.hid hb3; have HO3 := Lib.hid ho3
              clear hb3 ho3 HO
              have hsz3 := HB3.out.size
              have hz1' := HZ.out
              have hn : ∀ (j : Nat) (u : Value), ([.int .i64 (m : Int)] : List Value)[j]? = some u → (W3.alloc (.cells #[.int .i64 (m : Int)] 3)).cell? ((⟨W3.heap.size, 0, none⟩ : Addr).add j) = some u := by
                intro j u hu
                match j, hu with
                | 0, hu => simp at hu; subst hu; simp [Addr.add]
              have HN := Lib.hid hn; clear hn
              go_wp2_with (at_builtin; refine wpList_append_own _ rfl _ _ 22 rfl (B + 1) 3 i0 (.int .i64 0) 1 8 Try.underlying22 hi hz0 hz1 hz2 rfl (by decide) _ _ _ rfl (HO3.out.alloc _) ⟨W3.heap.size, 0, none⟩ 1 1 [.int .i64 m] rfl rfl HN.out (by intro u hu; simp at hu; subst hu; rfl) (by unfold maxLen; omega) (by omega) (by simp; omega) ?_; intro v' W5 hown' hgrow _; have hb5 := (HB3.out.alloc hsz3 (.cells #[.int .i64 (m : Int)] 3)).grown hgrow (by simp; omega) (fun k' hk' => by rw [hz1']; exact (HO3.out.lt k' hk').1); have HB5 := Lib.hid hb5; have HO5 := Lib.hid hown'; clear hb5 hown' hgrow)
              go_roundw
              case rel => exact ⟨m + 1, by omega, by go_num, by rw [HS2.out, nats_snoc (cc ++ [x]) m, show (cc ++ [x] ++ [m]).length = cc.length + 1 + 1 by simp]; exact HO5.out, HB5.out⟩
              case measure => simp [intOf]; omega
        · have bs : (l[m].subj != s) = true := by simpa using hs
          have hno := chg_no (k := k) (s := s) hlt (fun h => hs h.2)
          have HNO := Lib.hid hno; have HOWN := Lib.hid hown; have HBB := Lib.hid hb
          clear hno hown hb hk hs
          go_wp2_with fail
          go_roundw
          case rel => exact ⟨m + 1, by omega, by go_num, by rw [HNO.out]; exact HOWN.out.alloc _, HD.out⟩
          case measure => simp [intOf]; omega
      · have bk : (l[m].kind != k) = true := by simpa using hk
        have hno := chg_no (k := k) (s := s) hlt (fun h => hk h.1)
        have HNO := Lib.hid hno; have HOWN := Lib.hid hown; have HBB := Lib.hid hb
        clear hno hown hb hk
        go_wp2_with fail
        go_roundw
        case rel => exact ⟨m + 1, by omega, by go_num, by rw [HNO.out]; exact HOWN.out.alloc _, HD.out⟩
        case measure => simp [intOf]; omega
    · have hm' : m = l.length := by omega
      subst hm'
      have HOWN := Lib.hid hown; have HBB := Lib.hid hb
      clear hown hb
      go_wp2_with fail
      go_ret
      exact ⟨_, rfl, own_less HOWN.out (by rw [HB.out]; omega), below_step HW.out HBB.out⟩
end Go.Proofs.Ytogcpjkgliijmaa
