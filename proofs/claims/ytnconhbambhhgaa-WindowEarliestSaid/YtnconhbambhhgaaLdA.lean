/- Loads of windows: how many changes each team makes in each window. -/
import Derived.Test.YtnconhbambhhgaaCalC
import Derived.Deep.MidRow
namespace Go.Proofs.Ytnconhbambhhgaa
open Go.RowKit
set_option linter.all false

/-- The first window that has the day. -/
def fi (d : Int) (L : List Win) : Nat := L.findIdx (inD d)
theorem fi_get {d : Int} {L : List Win} (h : fi d L < L.length) : inD d (L.getD (fi d L) win0) = true := by
  rw [List.getD, List.getElem?_eq_getElem h]
  exact List.findIdx_getElem (w := h)
theorem fi_not {d : Int} {L : List Win} {j : Nat} (h : j < fi d L) : inD d (L.getD j win0) = false := by
  have hl : j < L.length := Nat.lt_of_lt_of_le h List.findIdx_le_length
  rw [List.getD, List.getElem?_eq_getElem hl]
  exact List.not_of_lt_findIdx h
theorem fi_le (d : Int) (L : List Win) : fi d L ≤ L.length := List.findIdx_le_length
theorem findR_fi {d r : Int} {L : List Win} (h : FindR d L r) : (r = -1 ∧ fi d L = L.length) ∨ (r = (fi d L : Int) ∧ fi d L < L.length) := by
  rcases h with ⟨h1, h2⟩ | ⟨k, h1, h2, h3, h4⟩
  · refine .inl ⟨h1, ?_⟩
    rcases Nat.lt_or_ge (fi d L) L.length with h | h
    · have := h2 _ h
      rw [fi_get h] at this; cases this
    · exact Nat.le_antisymm (fi_le d L) h
  · have hle : fi d L = k := by
      rcases Nat.lt_trichotomy (fi d L) k with h | h | h
      · have := h4 _ h
        rw [fi_get (by omega)] at this; cases this
      · exact h
      · have := fi_not h
        rw [h3] at this; cases this
    rw [hle]; exact .inr ⟨h1, h2⟩
/-- Whether a team may work on a day. -/
def mayF (L : List Win) (T : Nat → List Int) (d team : Int) : Bool := decide (fi d L < L.length) && hasB team (T (fi d L))
theorem mayR_F {d r team : Int} {L : List Win} {T : Nat → List Int} (h : FindR d L r) : mayR r team T = mayF L T d team := by
  unfold mayR mayF
  rcases findR_fi h with ⟨h1, h2⟩ | ⟨h1, h2⟩
  · rw [h1, h2]; simp
  · rw [h1, decide_eq_true h2, decide_eq_true (by omega), Int.toNat_natCast]

/-- The changes of a team in a window, out of the first k. -/
def cnt (L : List Win) (TS DS : List Int) : Nat → Nat → Nat → Nat
  | 0, _, _ => 0
  | k + 1, i, t => cnt L TS DS k i t + if fi (DS.getD k 0) L = i ∧ TS.getD k 0 = (t : Int) then 1 else 0
theorem cnt_succ (L : List Win) (TS DS : List Int) (k i t : Nat) : cnt L TS DS (k + 1) i t = cnt L TS DS k i t + if fi (DS.getD k 0) L = i ∧ TS.getD k 0 = (t : Int) then 1 else 0 := rfl
theorem cnt_le (L : List Win) (TS DS : List Int) (k i t : Nat) : cnt L TS DS k i t ≤ k := by
  induction k with
  | zero => exact Nat.le_refl _
  | succ k ih => rw [cnt_succ]; split <;> omega
def cntL (L : List Win) (TS DS : List Int) (k : Nat) : List Value := (List.range 256).map fun x => .int .i64 (cnt L TS DS k (x / 8) (x % 8) : Int)
theorem cntL_length (L : List Win) (TS DS : List Int) (k : Nat) : (cntL L TS DS k).length = 256 := by unfold cntL; simp
theorem cntL_get (L : List Win) (TS DS : List Int) (k i t : Nat) (hi : i < 32) (ht : t < 8) : (cntL L TS DS k)[i * 8 + t]? = some (.int .i64 (cnt L TS DS k i t : Int)) := by
  unfold cntL
  rw [List.getElem?_map, List.getElem?_range (by omega)]
  simp only [Option.map_some]
  rw [show (i * 8 + t) / 8 = i by omega, show (i * 8 + t) % 8 = t by omega]
theorem cntL_zero (L : List Win) (TS DS : List Int) : (cntL L TS DS 0).toArray = Try.zeroCells82 := by
  have h1 : cntL L TS DS 0 = List.replicate 256 (.int .i64 0) := by
    unfold cntL
    rw [show (fun x => Value.int .i64 ((cnt L TS DS 0 (x / 8) (x % 8) : Nat) : Int)) = fun _ : Nat => Value.int .i64 0 from rfl, List.map_const', List.length_range]
  rw [h1]
  show _ = _
  kernel_rfl
theorem cntL_succ (L : List Win) (TS DS : List Int) (k i t : Nat) (hi : i < 32) (ht : t < 8) (h1 : fi (DS.getD k 0) L = i) (h2 : TS.getD k 0 = (t : Int)) :
    cntL L TS DS (k + 1) = (cntL L TS DS k).set (i * 8 + t) (.int .i64 ((cnt L TS DS k i t : Int) + 1)) := by
  apply List.ext_getElem?
  intro x
  rcases Nat.lt_or_ge x 256 with hx | hx
  · have e := cntL_get L TS DS (k + 1) (x / 8) (x % 8) (by omega) (by omega)
    have e' := cntL_get L TS DS k (x / 8) (x % 8) (by omega) (by omega)
    rw [show x / 8 * 8 + x % 8 = x by omega] at e e'
    rw [e]
    by_cases hxe : i * 8 + t = x
    · subst hxe
      rw [List.getElem?_set_self (by rw [cntL_length]; omega), show (i * 8 + t) / 8 = i by omega, show (i * 8 + t) % 8 = t by omega]
      rw [cnt_succ, if_pos ⟨h1, h2⟩, Int.natCast_add]; rfl
    · rw [List.getElem?_set_ne hxe, e']
      rw [cnt_succ, if_neg]
      · rfl
      · rintro ⟨a, b⟩
        rw [h1] at a
        rw [h2] at b
        omega
  · rw [List.getElem?_eq_none (by rw [cntL_length]; exact hx), List.getElem?_eq_none (by rw [List.length_set, cntL_length]; exact hx)]
theorem cntL_one (L : List Win) (TS DS : List Int) (k : Nat) : ∀ v ∈ cntL L TS DS k, v.oneCell' = true := by
  intro v hv
  unfold cntL at hv
  rw [List.mem_map] at hv
  obtain ⟨x, _, rfl⟩ := hv
  rfl
theorem u108 : Try.prog.underlying 82 = some (.array 32 80) := by kernel_rfl
theorem i108 : (Try.prog.info? 82).map (·.size) = some 256 := by kernel_rfl
theorem range_of_row {W : World} {b : Nat} {cs : List Value} {t : TypeId} {fr : Nat × Nat} (h : W.heap[b]? = some (.cells cs.toArray t fr)) : W.rangeAt b 0 cs := fun j v hv => by
  rw [Nat.zero_add, cell_of_row _ b j _ _ _ h, List.getElem?_toArray]; exact hv
theorem there_of_row {W : World} {b : Nat} {cs : Array Value} {t : TypeId} (h : W.heap[b]? = some (.cells cs t (0, 0))) : W.there b 0 cs.size := fun j hj => by
  refine ⟨?_, by simp [World.frozen?, h]⟩
  rw [Nat.zero_add, cell_of_row _ b j _ _ _ h, Array.getElem?_eq_getElem hj]; rfl
theorem zero_size : Try.zeroCells82.size = 256 := by
  show _ = _
  kernel_rfl
theorem setCells_other (b : Nat) : ∀ (vs : List Value) (o : Nat) (w : World) (k : Nat), k ≠ b → (w.setCells b o vs).heap[k]? = w.heap[k]?
  | [], _, _, _, _ => rfl
  | v :: r, o, w, k, h => by
    rw [World.setCells, setCells_other b r (o + 1) _ k h]
    exact heap_setCell_other w ⟨b, o, none⟩ k v h
theorem setCells_size (b : Nat) : ∀ (vs : List Value) (o : Nat) (w : World), (w.setCells b o vs).heap.size = w.heap.size
  | [], _, _ => rfl
  | v :: r, o, w => by
    rw [World.setCells, setCells_size b r (o + 1) _]
    simp [World.setCell]
theorem setCells_os (b : Nat) : ∀ (vs : List Value) (o : Nat) (w : World), (w.setCells b o vs).os = w.os ∧ (w.setCells b o vs).tape = w.tape ∧ (w.setCells b o vs).output = w.output
  | [], _, _ => ⟨rfl, rfl, rfl⟩
  | v :: r, o, w => by
    rw [World.setCells]
    exact setCells_os b r (o + 1) _
/-- Cells set in a block that is not below. -/
theorem below_setCells {n : Nat} {a w : World} (h : Below n a w) {b : Nat} (hb : n ≤ b) (o : Nat) (vs : List Value) : Below n a (w.setCells b o vs) := by
  obtain ⟨h1, h2, h3⟩ := setCells_os b vs o w
  exact ⟨h1.trans h.os, h2.trans h.tape, h3.trans h.output, by rw [setCells_size]; exact h.size, fun k hk => (setCells_other b vs o w k (by omega)).trans (h.block k hk)⟩
theorem res74_run {W : World} {b : Nat} {cs : List Value} {x : Value} {a : Act} (hr : W.rangeAt b 0 cs) (hl : cs.length = 256) (ht : a.tmps.getD 8 undef = .pointer (some ⟨b, 0, none⟩)) (hx : a.tmps.getD 9 undef = x) :
    (results Try.f34 a.tmps).run Try.prog W = .ok (.tuple #[.agg cs.toArray, x]) W := by
  have h := run_loadVar_mid (P := Try.prog) W b 0 82 cs _ hr u108 rfl (by rw [hl]; exact i108)
  simp at ht hx
  clear hr hl
  simp [results, Try.results34, ht, hx, asAddr, h]
theorem res50_run {W : World} {b : Nat} {cs : List Value} {x : Value} {a : Act} (hr : W.rangeAt b 0 cs) (hl : cs.length = 256) (ht : a.tmps.getD 8 undef = .pointer (some ⟨b, 0, none⟩)) (hx : a.tmps.getD 9 undef = x) :
    (results Try.f31 a.tmps).run Try.prog W = .ok (.tuple #[.agg cs.toArray, x]) W := by
  have h := run_loadVar_mid (P := Try.prog) W b 0 82 cs _ hr u108 rfl (by rw [hl]; exact i108)
  simp at ht hx
  clear hr hl
  simp [results, Try.results31, ht, hx, asAddr, h]
end Go.Proofs.Ytnconhbambhhgaa
