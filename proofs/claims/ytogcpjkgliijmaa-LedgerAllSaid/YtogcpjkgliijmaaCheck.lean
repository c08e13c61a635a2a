/- Ledgers in memory, and ledger.Check. -/
import Derived.Test.YtogcpjkgliijmaaFollows
import Derived.StillTailTactics
import Derived.LoopTactic
namespace Go.Proofs.Ytogcpjkgliijmaa
open Go.RowKit

structure Dec where
  day : Int
  known : Int
  kind : Int
  subj : Int
  value : Int

def Dec.val (d : Dec) : Value := .agg #[.int .i64 d.day, .int .i64 d.known, .int .i64 d.kind, .int .i64 d.subj, .int .i64 d.value]
def Dec.ok (d : Dec) : Bool := validB d.day d.known d.kind d.subj d.value

/-- The cells of decisions in a row. -/
def Row (w : World) (b o : Nat) (l : List Dec) : Prop := ∀ j (h : j < l.length),
  w.cell? ⟨b, o + j * 5, none⟩ = some (.int .i64 l[j].day) ∧ w.cell? ⟨b, o + j * 5 + 1, none⟩ = some (.int .i64 l[j].known) ∧ w.cell? ⟨b, o + j * 5 + 2, none⟩ = some (.int .i64 l[j].kind) ∧
  w.cell? ⟨b, o + j * 5 + 3, none⟩ = some (.int .i64 l[j].subj) ∧ w.cell? ⟨b, o + j * 5 + 4, none⟩ = some (.int .i64 l[j].value)

theorem Row.mono {w W : World} {b o : Nat} {l : List Dec} (h : Row w b o l) (hb : Below w.heap.size w W) : Row W b o l := fun j hj => by
  obtain ⟨h0, h1, h2, h3, h4⟩ := h j hj
  exact ⟨cell_later hb h0, cell_later hb h1, cell_later hb h2, cell_later hb h3, cell_later hb h4⟩

theorem Row.take {w : World} {b o : Nat} {l : List Dec} (h : Row w b o l) (k : Nat) : Row w b o (l.take k) := fun j hj => by
  have hj' : j < l.length := by simp at hj; omega
  have e : (l.take k)[j] = l[j] := by simp
  rw [e]; exact h j hj'

/-- A slice of decisions. -/
def Decs (w : World) (v : Value) (l : List Dec) : Prop :=
  ∃ (p : Option Addr) (c : Nat), v = .slice p l.length c ∧ l.length ≤ 1000 ∧ l.length ≤ c ∧ (l = [] ∨ ∃ b o, p = some ⟨b, o, none⟩ ∧ Row w b o l)

theorem Decs.mono {w w' : World} {v : Value} {l : List Dec} (h : Decs w v l) (hb : Below w.heap.size w w') : Decs w' v l := by
  obtain ⟨p, c, hv, hl, hc, h⟩ := h
  refine ⟨p, c, hv, hl, hc, ?_⟩
  rcases h with h | ⟨b, o, hp, h⟩
  · exact .inl h
  · exact .inr ⟨b, o, hp, h.mono hb⟩

/-- The error of a decision behind others. -/
def foll (prev : Option Dec) (d : Dec) : Int :=
  if d.ok then (match prev with | none => 0 | some x => if decide (d.day < x.day) || decide (d.known < x.known) then 6 else 0) else 57

/-- The error of decisions behind others. -/
def chk : Option Dec → List Dec → Int
  | _, [] => 0
  | p, d :: l => if foll p d = 0 then chk (some d) l else foll p d

def lastOf (l : List Dec) (k : Nat) : Option Dec := (l.take k).getLast?

theorem chk_step (l : List Dec) (k : Nat) (h : k < l.length) :
    chk (lastOf l k) (l.drop k) = if foll (lastOf l k) l[k] = 0 then chk (lastOf l (k + 1)) (l.drop (k + 1)) else foll (lastOf l k) l[k] := by
  rw [List.drop_eq_getElem_cons h]
  have e : lastOf l (k + 1) = some l[k] := by
    unfold lastOf
    rw [List.take_succ_eq_append_getElem h, List.getLast?_concat]
  rw [e]
  rfl

theorem foll_bad {p : Option Dec} {d : Dec} (h : d.ok = false) : foll p d = 57 := by simp [foll, h]
theorem foll_none {d : Dec} (h : d.ok = true) : foll none d = 0 := by simp [foll, h]
theorem foll_some {x d : Dec} (h : d.ok = true) : foll (some x) d = if decide (d.day < x.day) || decide (d.known < x.known) then 6 else 0 := by simp [foll, h]
theorem lastOf_zero (l : List Dec) : lastOf l 0 = none := by simp [lastOf]
theorem lastOf_succ (l : List Dec) (k : Nat) (h : k < l.length) : lastOf l (k + 1) = some l[k] := by
  unfold lastOf
  rw [List.take_succ_eq_append_getElem h, List.getLast?_concat]

/-- follows, of a beginning of a list and a decision. -/
theorem follows_any (w : World) {p : Option Addr} {c : Nat} (l : List Dec) (k : Nat) (hk : k ≤ l.length) (hl : l.length ≤ 1000) (hr : l = [] ∨ ∃ b o, p = some ⟨b, o, none⟩ ∧ Row w b o l) (d : Dec) :
    Calls Try.prog 58 #[.slice p k c, d.val] w fun r w' => r = .returned (.int .i64 (foll (lastOf l k) d)) ∧ Below w.heap.size w w' := by
  by_cases hd : d.ok = true
  · rcases Nat.eq_zero_or_pos k with h0 | h0
    · subst h0
      rw [lastOf_zero, foll_none hd]
      exact follows_none p c _ _ _ _ _ w hd
    · obtain ⟨n, rfl⟩ : ∃ n, k = n + 1 := ⟨k - 1, by omega⟩
      rcases hr with h | ⟨b, o, rfl, hrow⟩
      · subst h; simp at hk
      · obtain ⟨h0, h1, _⟩ := hrow n (by omega)
        rw [lastOf_succ l n (by omega), foll_some hd]
        exact follows_some d.day d.known d.kind d.subj d.value b o n c _ _ w (by omega) h0 h1 _ _ hd rfl rfl
  · have hd' : d.ok = false := by simpa using hd
    rw [foll_bad hd']
    exact follows_bad _ _ _ _ _ _ w hd'

theorem ret_i {k : IntKind} {a b : Int} (h : a = b) : Ending.returned (.int k a) = .returned (.int k b) := by rw [h]

set_option maxHeartbeats 400000 in
theorem check_long (p : Option Addr) (n c : Nat) (w : World) (h : decide ((128 : Int) < (n : Int)) = true) :
    Calls Try.prog 22 #[.agg #[.slice p n c]] w fun r w' => r = .returned (.int .i64 3) ∧ Below w.heap.size w w' := by
  go_enter Try.func22, Try.ntmps22
  go_wp2
  go_ret
  exact ⟨rfl, (Below.refl _ _).alloc (Nat.le_refl _) _⟩

set_option maxHeartbeats 2000000 in
theorem check_any (w : World) {p : Option Addr} {c : Nat} (l : List Dec) (hl : l.length ≤ 128) (hc : l.length ≤ c) (hr : l = [] ∨ ∃ b o, p = some ⟨b, o, none⟩ ∧ Row w b o l) :
    Calls Try.prog 22 #[.agg #[.slice p l.length c]] w fun r w' => r = .returned (.int .i64 (chk none l)) ∧ Below w.heap.size w w' := by
  have h128 : decide ((128 : Int) < (l.length : Int)) = false := by simp; omega
  obtain ⟨n, hn⟩ : ∃ n, n = l.length := ⟨_, rfl⟩
  have hbx : Below w.heap.size w (w.alloc (.cells #[.slice p l.length c] 25)) := (Below.refl _ _).alloc (Nat.le_refl _) _
  have H := Lib.hid hr; clear hr
  go_enter Try.func22, Try.ntmps22
  go_wp2
  go_loopw [13] (fun i wr => ∃ k : Nat, k ≤ l.length ∧ i = .int .i64 k ∧ chk none l = chk (lastOf l k) (l.drop k) ∧ Below (w.heap.size + 1) (w.alloc (.cells #[.slice p l.length c] 25)) wr) (fun i _ => l.length - (intOf i).toNat)
  case atStart => exact ⟨0, Nat.zero_le _, rfl, by rw [lastOf_zero]; rfl, Below.refl _ _⟩
  case round =>
    obtain ⟨k, hk, rfl, hchk, hb⟩ := hrel
    have HC := Lib.hid hchk; clear hchk
    have hbox : wr.cell? ⟨w.heap.size, 0, none⟩ = some (.slice p l.length c) := by rw [hb.cell (p := ⟨w.heap.size, 0, none⟩) (by simp)]; simp
    have hsz : w.heap.size + 1 ≤ wr.heap.size := by have := hb.size; simp at this; omega
    by_cases hlt : k < l.length
    · rcases H.out with h | ⟨b, o, hp, hrow⟩
      · subst h; simp at hlt
      subst hp
      obtain ⟨c0, c1, c2, c3, c4⟩ := ((hrow.mono hbx).mono (hb.mono (by simp))) k hlt
      have hst := Lib.hid (chk_step l k hlt)
      go_wp2
      refine wp_region_still_tail 5 (by kernel_rfl) (by kernel_rfl) ?_
      generalize hW : wr.alloc _ = W
      change wpStill _ _ W.drew (fun a' => wpList _ _ _ _ a' W.drew) _ _
      have hw0 : W.cell? ⟨w.heap.size, 0, none⟩ = some (.slice (some ⟨b, o, none⟩) l.length c) := by rw [← hW, World.cell?_alloc_lt _ _ _ (by simp; omega)]; exact hbox
      have hw1 : W.cell? ⟨wr.heap.size, 0, none⟩ = some (.int .i64 l[k].day) ∧ W.cell? ⟨wr.heap.size, 1, none⟩ = some (.int .i64 l[k].known) ∧ W.cell? ⟨wr.heap.size, 2, none⟩ = some (.int .i64 l[k].kind) ∧ W.cell? ⟨wr.heap.size, 3, none⟩ = some (.int .i64 l[k].subj) ∧ W.cell? ⟨wr.heap.size, 4, none⟩ = some (.int .i64 l[k].value) := by subst hW; simp
      obtain ⟨e0, e1, e2, e3, e4⟩ := hw1
      have hbW : Below (w.heap.size + 1) (w.alloc (.cells #[.slice (some ⟨b, o, none⟩) l.length c] 25)) W := by subst hW; exact hb.alloc hsz _
      have hrW := Lib.hid (((hrow.mono hbx).mono (hb.mono (by simp))).mono (W := W) (by subst hW; exact (Below.refl _ _).alloc (Nat.le_refl _) _))
      clear hW c0 c1 c2 c3 c4 hbox
      simp only [List.take_succ_cons, List.take_zero, List.drop_succ_cons, List.drop_zero]
      have hkc : k ≤ c := by omega
      have hkc' : (k : Int) ≤ (c : Int) := by omega
      repeat still_step
      refine wpStill_nil ?_
      go_wp2_with fail
      have cF := follows_any W.drew (p := some ⟨b, o, none⟩) (c := c) l k hk (by omega) (.inr ⟨b, o, rfl, fun j hj => hrW.out j hj⟩) l[k]
      obtain ⟨x, hx⟩ : ∃ x, x = foll (lastOf l k) l[k] := ⟨_, rfl⟩
      rw [← hx] at cF
      have hbd : Below (w.heap.size + 1) (w.alloc (.cells #[.slice (some ⟨b, o, none⟩) l.length c] 25)) W.drew := hbW.drew
      have hst' := hst.out
      rw [← hx] at hst'
      have HX := Lib.hid hx; clear hx
      by_cases hx0 : x = 0
      · subst hx0
        rw [if_pos rfl] at hst'
        have HS := Lib.hid hst'; clear hst'
        refine cF.mono ?_
        rintro r w2 ⟨rfl, hb2⟩
        have hb3 := hbd.trans (hb2.mono (by have := hbd.size; simp at this; simp; omega))
        clear e0 e1 e2 e3 e4 hw0 hbW hbd
        go_wp2
        go_roundw
        case rel => exact ⟨k + 1, by omega, by go_num, HC.out.trans HS.out, hb3⟩
        case measure => simp [intOf]; omega
      · rw [if_neg hx0] at hst'
        have hxb : (x != 0) = true := by simpa using hx0
        have HS := Lib.hid hst'; clear hst' hx0
        refine cF.mono ?_
        rintro r w2 ⟨rfl, hb2⟩
        have hb3 := hbd.trans (hb2.mono (by have := hbd.size; simp at this; simp; omega))
        clear e0 e1 e2 e3 e4 hw0 hbW hbd
        go_wp2
        go_ret
        exact ⟨ret_i (by rw [HC.out, HS.out]), hbx.trans (hb3.mono (by omega))⟩
    · have hkl : k = l.length := by omega
      have hend : chk none l = 0 := by rw [HC.out, List.drop_of_length_le (by omega)]; rfl
      have HE := Lib.hid hend; clear hend
      go_wp2
      go_ret
      exact ⟨ret_i (by rw [HE.out]), hbx.trans (hb.mono (by omega))⟩
end Go.Proofs.Ytogcpjkgliijmaa
