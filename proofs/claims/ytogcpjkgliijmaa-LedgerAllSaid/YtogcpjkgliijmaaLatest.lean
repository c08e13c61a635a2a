/- ledger.Latest. -/
import Derived.Test.YtogcpjkgliijmaaUntil
namespace Go.Proofs.Ytogcpjkgliijmaa
open Go.RowKit

/-- The last one of the first decisions on something. -/
def latestK (l : List Dec) (k s : Int) : Nat → Option Dec
  | 0 => none
  | m + 1 => if (l.getD m dz).kind = k ∧ (l.getD m dz).subj = s then some (l.getD m dz) else latestK l k s m

theorem latestK_succ {l : List Dec} {k s : Int} {m : Nat} (h : m < l.length) : latestK l k s (m + 1) = if l[m].kind = k ∧ l[m].subj = s then some l[m] else latestK l k s m := by
  have e : l.getD m dz = l[m] := by simp [List.getD, h]
  simp only [latestK, e]

def LatestPost (w : World) (r : Option Dec) (e : Ending) (w' : World) : Prop := e = .returned (.tuple #[(r.getD dz).val, .bool r.isSome]) ∧ Below w.heap.size w w'

/-- On the way through Latest. -/
structure TInv (w W : World) (B : Nat) : Prop where
  res : W.heap[B + 1]? = some (.cells #[.int .i64 0, .int .i64 0, .int .i64 0, .int .i64 0, .int .i64 0] 27 (0, 0))
  below : Below B w W
  eq : B = w.heap.size

theorem res28_run {W : World} {b : Nat} {a0 a1 a2 a3 a4 : Int} {q : Bool} {a : Act} (hh : W.heap[b]? = some (.cells #[.int .i64 a0, .int .i64 a1, .int .i64 a2, .int .i64 a3, .int .i64 a4] 27 (0, 0))) (ht : a.tmps.getD 8 undef = .pointer (some ⟨b, 0, none⟩)) (ht9 : a.tmps.getD 9 undef = .bool q) :
    (results Try.f28 a.tmps).run Try.prog W = .ok (.tuple #[.agg #[.int .i64 a0, .int .i64 a1, .int .i64 a2, .int .i64 a3, .int .i64 a4], .bool q]) W := by
  have e0 := cell_of_row _ b 0 _ _ _ hh
  have e1 := cell_of_row _ b 1 _ _ _ hh
  have e2 := cell_of_row _ b 2 _ _ _ hh
  have e3 := cell_of_row _ b 3 _ _ _ hh
  have e4 := cell_of_row _ b 4 _ _ _ hh
  simp at e0 e1 e2 e3 e4 ht ht9
  clear hh
  simp [results, Try.results28, go_sem, ht, ht9, e0, e1, e2, e3, e4]

theorem latest_fin {w W : World} {B : Nat} {r : Option Dec} {a : Act} (h : TInv w W B) (ht : a.tmps.getD 8 undef = .pointer (some ⟨B + 1, 0, none⟩)) (ht9 : a.tmps.getD 9 undef = .bool r.isSome) (hd : a.defers = []) :
    bodyPost Try.prog Try.f28 (LatestPost w r) .ret a (resW W (B + 1) (r.getD dz).day (r.getD dz).known (r.getD dz).kind (r.getD dz).subj (r.getD dz).value) := by
  refine bodyPost_ret (res28_run (resW_heap _ _ _ _ _ h.res) ht ht9) hd ⟨rfl, ?_⟩
  have he := h.eq
  rw [← he]
  unfold resW
  exact ((((h.below.setCell (by simp only; omega) _).setCell (by simp only; omega) _).setCell (by simp only; omega) _).setCell (by simp only; omega) _).setCell (by simp only; omega) _

set_option maxHeartbeats 4000000 in
theorem latest_walk (w : World) {r : Option Dec} {p : Option Addr} {c : Nat} (k s day : Int) (l : List Dec) (hg : Good l) (hl : l.length ≤ 1000) (hc : l.length ≤ c) (hr : l = [] ∨ ∃ b o, p = some ⟨b, o, none⟩ ∧ Row w b o l)
    (hR : Hid (r = latestK l k s (cutN l day))) :
    Calls Try.prog 28 #[.agg #[.slice p l.length c], .int .i64 k, .int .i64 s, .int .i64 day] w (LatestPost w r) := by
  obtain ⟨B, hB⟩ : ∃ B, B = w.heap.size := ⟨_, rfl⟩
  have hW0 : Below w.heap.size w ((w.alloc (.cells #[.slice p l.length c] 25)).alloc (.cells #[.int .i64 0, .int .i64 0, .int .i64 0, .int .i64 0, .int .i64 0] 27)) := ((Below.refl _ _).alloc (Nat.le_refl _) _).alloc (by simp) _
  have hT0 : TInv w ((w.alloc (.cells #[.slice p l.length c] 25)).alloc (.cells #[.int .i64 0, .int .i64 0, .int .i64 0, .int .i64 0, .int .i64 0] 27)) B := by
    subst hB; exact ⟨heap_alloc2_new w _ _, hW0, rfl⟩
  have hcut := cutN_le l day
  have cU := until_any ((w.alloc (.cells #[.slice p l.length c] 25)).alloc (.cells #[.int .i64 0, .int .i64 0, .int .i64 0, .int .i64 0, .int .i64 0] 27)) (p := p) (c := c) day l hg hl hc (by
    rcases hr with h | ⟨b, o, hp, h⟩
    · exact .inl h
    · exact .inr ⟨b, o, hp, h.mono hW0⟩)
  generalize cutN l day = m at *
  have CU := Lib.hid cU; clear cU
  go_enter Try.func28, Try.ntmps28
  go_wp2_with fail
  refine CU.out.mono ?_
  rintro e w1 ⟨rfl, hb1⟩
  rw [← hB]
  have hsz : B + 2 ≤ w1.heap.size := by have := hb1.size; simp at this; omega
  have hT1 : TInv w w1 B := ⟨(hb1.block _ (by simp; omega)).trans hT0.res, by rw [hB]; exact below_step hW0 hb1, hT0.eq⟩
  clear hT0 hW0 hb1 CU
  have HB := Lib.hid hB; clear hB
  have HT := Lib.hid hT1; clear hT1
  go_wp2_with fail
  go_loop [11] (fun i => ∃ j : Nat, j ≤ m ∧ i = .int .i64 ((j : Int) - 1) ∧ latestK l k s m = latestK l k s j) (fun i => (intOf i + 1).toNat)
  case atStart => exact ⟨m, Nat.le_refl _, rfl, rfl⟩
  case round =>
    obtain ⟨j, hj, rfl, hlat⟩ := hrel
    have HL := Lib.hid hlat; clear hlat
    have e1 := HT.out.res
    have r0 := cell_of_row _ (B + 1) 0 _ _ _ e1
    have r1 := cell_of_row _ (B + 1) 1 _ _ _ e1
    have r2 := cell_of_row _ (B + 1) 2 _ _ _ e1
    have r3 := cell_of_row _ (B + 1) 3 _ _ _ e1
    have r4 := cell_of_row _ (B + 1) 4 _ _ _ e1
    have rf : ∀ i, w1.frozen? ⟨B + 1, i, none⟩ = false := fun i => by simp [World.frozen?, e1]
    simp at r0 r1 r2 r3 r4
    clear e1
    rcases Nat.eq_zero_or_pos j with h0 | h0
    · subst h0
      have hrn : r = none := by rw [hR.out, HL.out]; rfl
      subst hrn
      clear hR
      go_wp2_with fail
      exact latest_fin (r := none) HT.out rfl rfl rfl
    · obtain ⟨t, rfl⟩ : ∃ t, j = t + 1 := ⟨j - 1, by omega⟩
      rcases hr with h | ⟨b, o, hp, hrow⟩
      · subst h; simp at hcut; omega
      subst hp
      have hbw : Below w.heap.size w w1 := by rw [← HB.out]; exact HT.out.below
      obtain ⟨c0, c1, c2, c3, c4⟩ := (hrow.mono hbw) t (by omega)
      have hst := latestK_succ (l := l) (k := k) (s := s) (m := t) (by omega)
      have ht1 : (((t + 1 : Nat) : Int) - 1) = (t : Int) := by omega
      rw [ht1]
      clear ht1 hrow hbw
      by_cases hk : l[t].kind = k
      · have bk : (l[t].kind == k) = true := by simpa using hk
        by_cases hs : l[t].subj = s
        · have bs : (l[t].subj == s) = true := by simpa using hs
          rw [if_pos ⟨hk, hs⟩] at hst
          have hrs : r = some l[t] := by rw [hR.out, HL.out, hst]
          subst hrs
          have HK := Lib.hid hk; have HS := Lib.hid hs; clear hk hs hst hR
          go_wp2_with fail
          exact latest_fin (r := some l[t]) HT.out rfl rfl rfl
        · have bs : (l[t].subj == s) = false := by simpa using hs
          rw [if_neg (fun h => hs h.2)] at hst
          have HS := Lib.hid hst
          have HK := Lib.hid hk; clear hk hs hst
          go_wp2_with fail
          go_round
          case rel => exact ⟨t, by omega, rfl, HL.out.trans HS.out⟩
          case measure => simp [intOf]
      · have bk : (l[t].kind == k) = false := by simpa using hk
        rw [if_neg (fun h => hk h.1)] at hst
        have HS := Lib.hid hst
        clear hk hst
        go_wp2_with fail
        go_round
        case rel => exact ⟨t, by omega, rfl, HL.out.trans HS.out⟩
        case measure => simp [intOf]

theorem latest_any (w : World) {p : Option Addr} {c : Nat} (k s day : Int) (l : List Dec) (hg : Good l) (hl : l.length ≤ 1000) (hc : l.length ≤ c) (hr : l = [] ∨ ∃ b o, p = some ⟨b, o, none⟩ ∧ Row w b o l) :
    Calls Try.prog 28 #[.agg #[.slice p l.length c], .int .i64 k, .int .i64 s, .int .i64 day] w (LatestPost w (latestK l k s (cutN l day))) :=
  latest_walk w k s day l hg hl hc hr (Lib.hid rfl)
end Go.Proofs.Ytogcpjkgliijmaa
