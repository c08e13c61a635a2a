/- A map from pointers to ints that the call made: what its operations do. -/
import Derived.Test.YtppodhbfjnekcaaBase
import Derived.WideMake
namespace Go.Proofs.Ytppodhbfjnekcaa
open Go.RowKit

/-- A block of cells of which none is frozen. -/
def Plain (w : World) (b : Nat) : Prop := ∃ (c : Array Value) (t : TypeId), w.heap[b]? = some (.cells c t (0, 0))

theorem Plain.lt {w : World} {b : Nat} (h : Plain w b) : b < w.heap.size := by
  obtain ⟨c, t, h⟩ := h
  exact (Array.getElem?_eq_some_iff.1 h).1

theorem Plain.mono {w w' : World} {b : Nat} (h : Plain w b) (hb : Below w.heap.size w w') : Plain w' b := by
  have hl := h.lt
  obtain ⟨c, t, h⟩ := h
  exact ⟨c, t, (hb.block b hl).trans h⟩

theorem run_noView {P : Program} {w : World} {a : Addr} (ha : Plain w a.block) : (noView a).run P w = .ok () w := by
  obtain ⟨ca, ta, ha⟩ := ha
  have hs : w.shape? a.block = some (ta, ca.size) := by simp [World.shape?, ha]
  simp [noView, viewAt, hs]

theorem run_stringish {P : Program} {w : World} {a : Addr} (ha : Plain w a.block) : (stringish a).run P w = .ok false w := by
  obtain ⟨ca, ta, ha⟩ := ha
  have hs : w.shape? a.block = some (ta, ca.size) := by simp [World.shape?, ha]
  have hf : w.frozen? a = false := by simp [World.frozen?, ha]
  have hf2 : w.frozen? ⟨a.block, ca.size, none⟩ = false := by simp [World.frozen?, ha]
  simp [stringish, hs, hf, hf2]

theorem run_mayBeOne {P : Program} {w : World} {a b : Addr} (ha : Plain w a.block) (hb : Plain w b.block) : (mayBeOne a b).run P w = .ok false w := by
  have h1 := run_stringish (P := P) ha
  have h2 := run_stringish (P := P) hb
  simp [mayBeOne, h1, h2]

theorem run_sameAddr {P : Program} {w : World} {a b : Addr} (ha : Plain w a.block) (hb : Plain w b.block) : (sameAddr a b).run P w = .ok (a == b) w := by
  have v1 := run_noView (P := P) ha
  have v2 := run_noView (P := P) hb
  have v3 := run_mayBeOne (P := P) ha hb
  obtain ⟨ca, ta, ha⟩ := ha
  obtain ⟨cb, tb, hb⟩ := hb
  unfold sameAddr
  by_cases h : a.block = b.block
  · simp [h]
  · have hne : (a == b) = false := by rw [beq_eq_false_iff_ne]; intro e; exact h (by rw [e])
    have fa : w.frozen? a = false := by simp [World.frozen?, ha]
    simp [h, hne, fa, v1, v2, v3, Result.andThen]

section
variable {w : World}

theorem run_eq72 {a b : Addr} (ha : Plain w a.block) (hb : Plain w b.block) : (Op.equal 72 (.pointer (some a)) (.pointer (some b))).run Try.prog w = .ok (a == b) w := by
  have hu : Try.prog.underlying 72 = some (.pointer 30) := by kernel_rfl
  have hs : (sizeOf 30).run Try.prog w = .ok 4 w := by kernel_rfl
  have h := run_sameAddr (P := Try.prog) ha hb
  show (Op.equalIn (9999 + 1) 72 (.pointer (some a)) (.pointer (some b))).run Try.prog w = _
  rw [Op.equalIn]
  simp [run_underlying hu, hs, h, Result.andThen]

/-- The entries of a map from pointers to ints. -/
def EntsAre : List MapEntry → List (Addr × Int) → Prop
  | [], [] => True
  | e :: es, (a, v) :: l => e.key = .pointer (some a) ∧ e.val = .int .i64 v ∧ EntsAre es l
  | _, _ => False

def PlainAll (w : World) (l : List (Addr × Int)) : Prop := ∀ x ∈ l, Plain w x.1.block

/-- What is looked up. -/
def lookP (a : Addr) : List (Addr × Int) → Nat → Option (Nat × Int)
  | [], _ => none
  | (b, v) :: l, i => if a == b then some (i, v) else lookP a l (i + 1)

theorem run_findAsking {a : Addr} (ha : Plain w a.block) : ∀ (es : List MapEntry) (l : List (Addr × Int)) (i : Nat), EntsAre es l → PlainAll w l →
    (Instr.findAsking 72 (.pointer (some a)) es i).run Try.prog w = .ok ((lookP a l i).map fun x => (x.1, .int .i64 x.2)) w
  | [], [], i, _, _ => by simp [Instr.findAsking, lookP]
  | e :: es, (b, v) :: l, i, h, hp => by
    obtain ⟨hk, hv, h⟩ := h
    have he := run_eq72 ha (hp (b, v) (by simp))
    have ih := run_findAsking ha es l (i + 1) h (fun x hx => hp x (by simp [hx]))
    rw [Instr.findAsking, hk]
    simp only [Sem.run_bind, he, Result.andThen]
    cases hab : a == b
    · simp only [lookP, hab, Bool.false_eq_true, if_false]
      exact ih
    · simp [lookP, hab, hv]
  | [], _ :: _, _, h, _ => by cases h
  | _ :: _, [], _, h, _ => by cases h

theorem run_findKey {a : Addr} (ha : Plain w a.block) (es : List MapEntry) (l : List (Addr × Int)) (h : EntsAre es l) (hp : PlainAll w l) :
    (Instr.findKey 72 (.pointer (some a)) es).run Try.prog w = .ok ((lookP a l 0).map fun x => (x.1, .int .i64 x.2)) w := by
  have hu : Try.prog.underlying 72 = some (.pointer 30) := by kernel_rfl
  unfold Instr.findKey
  cases es with
  | nil =>
    cases l with
    | nil => simp [run_underlying hu, Instr.findNow, lookP, Result.andThen]
    | cons x l => cases h
  | cons e es =>
    cases l with
    | nil => cases h
    | cons x l =>
      obtain ⟨b, v⟩ := x
      have hk := h.1
      have hn : Instr.findNow (.pointer 30) (.pointer (some a)) (e :: es) 0 = none := by
        simp [Instr.findNow, hk, Instr.sameNow]
      simp only [Sem.run_bind, run_underlying hu, Result.andThen, hn]
      exact run_findAsking ha (e :: es) ((b, v) :: l) 0 h hp

/-- The map's block. -/
def MapP (w : World) (r : Nat) (l : List (Addr × Int)) : Prop := ∃ es clock, w.heap[r]? = some (.map es clock) ∧ EntsAre es.toList l ∧ PlainAll w l

theorem run_lookup_p {r : Nat} {l : List (Addr × Int)} {a : Addr} (hm : MapP w r l) (ha : Plain w a.block) :
    (Instr.lookup 92 (.map (some r)) (.pointer (some a)) false).run Try.prog w = .ok (.int .i64 (((lookP a l 0).map (·.2)).getD 0)) w := by
  obtain ⟨es, clock, hb, he, hp⟩ := hm
  have hu : Try.prog.underlying 92 = some (.map 72 3) := by kernel_rfl
  have hu2 : Try.prog.underlying 72 = some (.pointer 30) := by kernel_rfl
  have hz : (zeroValue 3).run Try.prog w = .ok (.int .i64 0) w := by kernel_rfl
  have hf := run_findKey ha es.toList l he hp
  have hck : ∀ b, (Instr.checkKey b 10000 72 (.pointer (some a))).run Try.prog w = .ok () w := by
    intro b; rw [Instr.checkKey]; simp [run_underlying hu2, Result.andThen]
  simp only [Instr.lookup, Sem.run_bind, run_underlying hu, MapKept.run_getObj_map hb, Result.andThen, hck, hf, Sem.run_pure]
  cases lookP a l 0 <;> simp [hz, Result.andThen]

theorem run_lookup_p_ok {r : Nat} {l : List (Addr × Int)} {a : Addr} (hm : MapP w r l) (ha : Plain w a.block) :
    (Instr.lookup 92 (.map (some r)) (.pointer (some a)) true).run Try.prog w = .ok (.tuple #[.int .i64 (((lookP a l 0).map (·.2)).getD 0), .bool (lookP a l 0).isSome]) w := by
  obtain ⟨es, clock, hb, he, hp⟩ := hm
  have hu : Try.prog.underlying 92 = some (.map 72 3) := by kernel_rfl
  have hu2 : Try.prog.underlying 72 = some (.pointer 30) := by kernel_rfl
  have hz : (zeroValue 3).run Try.prog w = .ok (.int .i64 0) w := by kernel_rfl
  have hf := run_findKey ha es.toList l he hp
  have hck : ∀ b, (Instr.checkKey b 10000 72 (.pointer (some a))).run Try.prog w = .ok () w := by
    intro b; rw [Instr.checkKey]; simp [run_underlying hu2, Result.andThen]
  simp only [Instr.lookup, Sem.run_bind, run_underlying hu, MapKept.run_getObj_map hb, Result.andThen, hck, hf, Sem.run_pure]
  cases lookP a l 0 <;> simp [hz, Result.andThen]


/-- The value at a key. -/
def getP (a : Addr) : List (Addr × Int) → Option Int
  | [] => none
  | (b, v) :: l => if a == b then some v else getP a l

theorem lookP_get (a : Addr) : ∀ (l : List (Addr × Int)) (i : Nat), (lookP a l i).map (·.2) = getP a l
  | [], _ => rfl
  | (b, v) :: l, i => by
    unfold lookP getP
    cases a == b
    · simpa using lookP_get a l (i + 1)
    · rfl

theorem lookP_some (a : Addr) (l : List (Addr × Int)) (i : Nat) : (lookP a l i).isSome = (getP a l).isSome := by
  rw [← lookP_get a l i]; cases lookP a l i <;> rfl

/-- A value stored at a key. -/
def setP (a : Addr) (v : Int) : List (Addr × Int) → List (Addr × Int)
  | [] => [(a, v)]
  | (b, u) :: l => if a == b then (a, v) :: l else (b, u) :: setP a v l

theorem get_set_same (a : Addr) (v : Int) : ∀ l, getP a (setP a v l) = some v
  | [] => by simp [setP, getP]
  | (b, u) :: l => by
    unfold setP
    cases h : a == b
    · simpa [getP, h] using get_set_same a v l
    · simp [getP]

theorem get_set_other {a b : Addr} (v : Int) (h : (b == a) = false) : ∀ l, getP b (setP a v l) = getP b l
  | [] => by simp [setP, getP, h]
  | (c, u) :: l => by
    unfold setP
    cases hc : a == c
    · simp only [Bool.false_eq_true, if_false, getP]
      rw [get_set_other v h l]
    · have e : a = c := by simpa using hc
      subst e
      simp [getP, h]

theorem plainAll_set {a : Addr} {v : Int} {l : List (Addr × Int)} (h : PlainAll w l) (ha : Plain w a.block) : PlainAll w (setP a v l) := by
  induction l with
  | nil => intro x hx; simp [setP] at hx; subst hx; exact ha
  | cons y l ih =>
    obtain ⟨b, u⟩ := y
    intro x hx
    unfold setP at hx
    split at hx
    · simp only [List.mem_cons] at hx
      rcases hx with rfl | hx
      · exact ha
      · exact h x (by simp [hx])
    · simp only [List.mem_cons] at hx
      rcases hx with rfl | hx
      · exact h _ (by simp)
      · exact ih (fun z hz => h z (by simp [hz])) x hx

theorem ents_push {a : Addr} {v : Int} (e : MapEntry) (hk : e.key = .pointer (some a)) (hv : e.val = .int .i64 v) : ∀ (es : List MapEntry) (l : List (Addr × Int)) (i : Nat), EntsAre es l → lookP a l i = none → EntsAre (es ++ [e]) (setP a v l)
  | [], [], _, _, _ => ⟨hk, hv, trivial⟩
  | x :: es, (b, u) :: l, i, h, hn => by
    unfold lookP at hn
    unfold setP
    cases hab : a == b
    · simp only [hab, Bool.false_eq_true, if_false] at hn ⊢
      exact ⟨h.1, h.2.1, ents_push e hk hv es l (i + 1) h.2.2 hn⟩
    · simp [hab] at hn
  | [], _ :: _, _, h, _ => by cases h
  | _ :: _, [], _, h, _ => by cases h

theorem ents_modify {a : Addr} {v : Int} (f : MapEntry → MapEntry) (hk : ∀ e, (f e).key = .pointer (some a)) (hv : ∀ e, (f e).val = .int .i64 v) : ∀ (es : List MapEntry) (l : List (Addr × Int)) (j i : Nat) (u : Int), EntsAre es l → lookP a l j = some (i, u) → j ≤ i ∧ EntsAre (es.modify (i - j) f) (setP a v l)
  | [], [], _, _, _, _, h => by cases h
  | x :: es, (b, u') :: l, j, i, u, h, hn => by
    unfold lookP at hn
    unfold setP
    cases hab : a == b
    · simp only [hab, Bool.false_eq_true, if_false] at hn ⊢
      obtain ⟨h1, h2⟩ := ents_modify f hk hv es l (j + 1) i u h.2.2 hn
      refine ⟨by omega, ?_⟩
      obtain ⟨d, rfl⟩ : ∃ d, i = j + 1 + d := ⟨i - (j + 1), by omega⟩
      rw [show j + 1 + d - j = d + 1 by omega]
      rw [show j + 1 + d - (j + 1) = d by omega] at h2
      exact ⟨h.1, h.2.1, h2⟩
    · simp only [hab, if_true, Option.some.injEq, Prod.mk.injEq] at hn ⊢
      obtain ⟨rfl, rfl⟩ := hn
      refine ⟨Nat.le_refl _, ?_⟩
      rw [Nat.sub_self]
      exact ⟨hk _, hv _, h.2.2⟩
  | [], _ :: _, _, _, _, h, _ => by cases h
  | _ :: _, [], _, _, _, h, _ => by cases h

theorem lookP_key {a : Addr} : ∀ (es : List MapEntry) (l : List (Addr × Int)) (j i : Nat) (u : Int), EntsAre es l → lookP a l j = some (i, u) → j ≤ i ∧ (es[i - j]?).map (·.key) = some (.pointer (some a))
  | [], [], _, _, _, _, h => by cases h
  | x :: es, (b, u') :: l, j, i, u, h, hn => by
    unfold lookP at hn
    cases hab : a == b
    · simp only [hab, Bool.false_eq_true, if_false] at hn
      obtain ⟨h1, h2⟩ := lookP_key es l (j + 1) i u h.2.2 hn
      refine ⟨by omega, ?_⟩
      obtain ⟨d, rfl⟩ : ∃ d, i = j + 1 + d := ⟨i - (j + 1), by omega⟩
      rw [show j + 1 + d - j = d + 1 by omega]
      rw [show j + 1 + d - (j + 1) = d by omega] at h2
      simpa using h2
    · simp only [hab, if_true, Option.some.injEq, Prod.mk.injEq] at hn
      obtain ⟨rfl, rfl⟩ := hn
      have e : a = b := by simpa using hab
      simp [h.1, e]
  | [], _ :: _, _, _, _, h, _ => by cases h
  | _ :: _, [], _, _, _, h, _ => by cases h

/-- What a store into the map leaves. -/
structure Put (w w' : World) (r : Nat) : Prop where
  os : w'.os = w.os
  tape : w'.tape = w.tape
  output : w'.output = w.output
  size : w'.heap.size = w.heap.size
  block : ∀ b, b ≠ r → w'.heap[b]? = w.heap[b]?

theorem Put.plain {w' : World} {r b : Nat} {l : List (Addr × Int)} (h : Put w w' r) (hm : MapP w r l) (hb : Plain w b) : Plain w' b := by
  have hne : b ≠ r := by
    intro e; subst e
    obtain ⟨c, t, hc⟩ := hb
    obtain ⟨es, clock, hm, _⟩ := hm
    rw [hc] at hm; cases hm
  obtain ⟨c, t, hc⟩ := hb
  exact ⟨c, t, (h.block b hne).trans hc⟩

theorem run_update_p {r : Nat} {l : List (Addr × Int)} {a : Addr} (v : Int) (hm : MapP w r l) (ha : Plain w a.block) :
    ∃ w', (Instr.mapUpdate 92 (.map (some r)) (.pointer (some a)) (.int .i64 v)).run Try.prog w = .ok () w' ∧ MapP w' r (setP a v l) ∧ Put w w' r := by
  have hm0 := hm
  obtain ⟨es, clock, hb, he, hp⟩ := hm
  have hu : Try.prog.underlying 92 = some (.map 72 3) := by kernel_rfl
  have hu2 : Try.prog.underlying 72 = some (.pointer 30) := by kernel_rfl
  have hf := run_findKey ha es.toList l he hp
  have hck : ∀ b, (Instr.checkKey b 10000 72 (.pointer (some a))).run Try.prog w = .ok () w := by
    intro b; rw [Instr.checkKey]; simp [run_underlying hu2, Result.andThen]
  have hset := fun o => MapKept.run_setObj_map (P := Try.prog) o hb
  have hput : ∀ o, Put w { w with heap := w.heap.setIfInBounds r o } r := fun o => ⟨rfl, rfl, rfl, by simp, fun b hne => (MapKept.heap_set hb).2 b hne⟩
  have hpl : ∀ o, PlainAll { w with heap := w.heap.setIfInBounds r o } (setP a v l) := fun o x hx => (hput o).plain hm0 (plainAll_set hp ha x hx)
  cases hl : lookP a l 0 with
  | none =>
    rw [hl] at hf
    have hrun : (Instr.mapUpdate 92 (.map (some r)) (.pointer (some a)) (.int .i64 v)).run Try.prog w = .ok () { w with heap := w.heap.setIfInBounds r (.map (es.push { key := .pointer (some a), val := .int .i64 v, born := clock }) (clock + 1)) } := by
      simp only [Instr.mapUpdate, Sem.run_bind, run_underlying hu, MapKept.run_getObj_map hb, Result.andThen, hck, hf, Option.map_none, hset]
    refine ⟨_, hrun, ⟨_, _, (MapKept.heap_set hb).1, ?_, hpl _⟩, hput _⟩
    · rw [Array.toList_push]
      exact ents_push _ rfl rfl es.toList l 0 he hl
  | some x =>
    obtain ⟨i, u⟩ := x
    rw [hl] at hf
    have hkey : ((es[i]?).map (·.key)).getD (.pointer (some a)) = .pointer (some a) := by
      have := (lookP_key es.toList l 0 i u he hl).2
      rw [Nat.sub_zero, Array.getElem?_toList] at this
      rw [this]; rfl
    have hstay : (Instr.keyThatStays (.pointer (some a)) (.pointer (some a))).run Try.prog w = .ok (.pointer (some a)) w := by
      simp [Instr.keyThatStays, Instr.sameBits]
    have hrun : (Instr.mapUpdate 92 (.map (some r)) (.pointer (some a)) (.int .i64 v)).run Try.prog w = .ok () { w with heap := w.heap.setIfInBounds r (.map (es.modify i fun e => { e with key := .pointer (some a), val := .int .i64 v }) clock) } := by
      simp only [Instr.mapUpdate, Sem.run_bind, run_underlying hu, MapKept.run_getObj_map hb, Result.andThen, hck, hf, Option.map_some, hkey, hstay, hset]
    refine ⟨_, hrun, ⟨_, _, (MapKept.heap_set hb).1, ?_, hpl _⟩, hput _⟩
    · rw [Array.toList_modify]
      have := (ents_modify (a := a) (v := v) (fun e => { e with key := .pointer (some a), val := .int .i64 v }) (fun _ => rfl) (fun _ => rfl) es.toList l 0 i u he hl).2
      rwa [Nat.sub_zero] at this

end
end Go.Proofs.Ytppodhbfjnekcaa
