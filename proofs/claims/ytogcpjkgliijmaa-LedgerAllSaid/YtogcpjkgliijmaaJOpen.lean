/- journal.Open, journal.Whole, the reference's SameDecisions. -/
import Derived.Test.YtogcpjkgliijmaaJDec
import Derived.Test.YtogcpjkgliijmaaAddsM
namespace Go.Proofs.Ytogcpjkgliijmaa
open Go.RowKit

theorem decode_any (s : List UInt8) (i : Nat) (w : World) (hi : i ≤ s.length) (hs : s.length ≤ 100000) {D : Dec} {er n : Int} (hD : decAt s i = (D, er)) (hn : n = if er = 0 then (i : Int) + 12 else 0) :
    Calls Try.prog 53 #[.string ⟨s.toArray⟩, .int .i64 i] w fun e w' => e = .returned (.tuple #[D.val, .int .i64 n, .int .i64 er]) ∧ Below w.heap.size w w' :=
  decode_walk s i w hi hs (Lib.hid hD) (Lib.hid hn)

theorem OpenAs.le {s : List UInt8} {ds : List Dec} (h : OpenAs s ds) : 12 * ds.length ≤ s.length := by
  rcases Nat.eq_zero_or_pos ds.length with h0 | h0
  · omega
  · have h1 := h.1 (ds.length - 1) (by omega)
    unfold decAt at h1
    split at h1
    · injection h1 with _ h2; exact absurd h2 (by decide)
    · omega

/-- What Open answers. -/
def OpenPost (w : World) (ds : List Dec) (e : Ending) (w' : World) : Prop :=
  ∃ v, e = .returned (.tuple #[v, .int .i64 ((12 * ds.length : Nat) : Int)]) ∧ DV w' w.heap.size v ds ∧ Below w.heap.size w w'

def ORel (w : World) (ds : List Dec) (vv iv : Value) (wr : World) : Prop :=
  ∃ (k : Nat) (v : Value), v = vv ∧ iv = .int .i64 ((12 * k : Nat) : Int) ∧ k ≤ ds.length ∧ wr.ownsRow w.heap.size 27 5 v k (flat (ds.take k)) ∧ Below w.heap.size w wr

set_option maxHeartbeats 4000000 in
theorem open_any (s : List UInt8) (ds : List Dec) (w : World) (h : OpenAs s ds) (hs : s.length ≤ 100000) :
    Calls Try.prog 46 #[.string ⟨s.toArray⟩] w (OpenPost w ds) := by
  obtain ⟨i0, hi, hz0, hz1, hz2⟩ := info_parts info27
  have hle := h.le
  have H := Lib.hid h; clear h
  go_enter Try.func46, Try.ntmps46
  go_wp2_with fail
  go_loopw [4, 5] (fun vv iv wr => ORel w ds vv iv wr) (fun _ iv _ => 12 * ds.length + 1 - (intOf iv).toNat)
  case atStart => exact ⟨0, _, rfl, rfl, Nat.zero_le _, World.ownsRow_nil _ _ _ _, Below.refl _ _⟩
  case round =>
    obtain ⟨k, v, rfl, rfl, hk, hown, hb⟩ := hrel
    have hform : v = .slice none 0 0 ∨ ∃ q cap, v = .slice (some ⟨q, 0, none⟩) k cap := by
      rcases hown.2 with ⟨hv, _⟩ | ⟨q, cap, cur, hv, _⟩
      · exact .inl hv
      · exact .inr ⟨q, cap, hv⟩
    by_cases hlt : k < ds.length
    · have hd := H.out.1 k hlt
      obtain ⟨d, hde⟩ : ∃ d, d = ds[k] := ⟨_, rfl⟩
      rw [← hde] at hd
      have htk : ds.take (k + 1) = ds.take k ++ [d] := by rw [List.take_succ_eq_append_getElem hlt, hde]
      have cD := fun W => decode_any s (12 * k) W (by omega) hs hd (n := ((12 * (k + 1) : Nat) : Int)) (by rw [if_pos rfl]; omega)
      unfold Dec.val at cD
      have CD := Lib.hid cD; have HO := Lib.hid hown; have HB := Lib.hid hb; have HT := Lib.hid htk; have HF := Lib.hid hform
      clear cD hown hb htk hde hd hform
      go_wp2_with fail
      refine (CD.out _).mono ?_; rintro e W1 ⟨rfl, hb1⟩
      have ho1 := own_below HO.out hb1
      have hbw1 := HB.out.trans (hb1.mono HB.out.size)
      have ho2 := ho1.alloc (.cells #[.int .i64 d.day, .int .i64 d.known, .int .i64 d.kind, .int .i64 d.subj, .int .i64 d.value] 27)
      have hb2 := hbw1.alloc hbw1.size (.cells #[.int .i64 d.day, .int .i64 d.known, .int .i64 d.kind, .int .i64 d.subj, .int .i64 d.value] 27)
      have q0 : (W1.alloc (.cells #[.int .i64 d.day, .int .i64 d.known, .int .i64 d.kind, .int .i64 d.subj, .int .i64 d.value] 27)).cell? ⟨W1.heap.size, 0, none⟩ = some (.int .i64 d.day) := by simp
      have q1 : (W1.alloc (.cells #[.int .i64 d.day, .int .i64 d.known, .int .i64 d.kind, .int .i64 d.subj, .int .i64 d.value] 27)).cell? ⟨W1.heap.size, 1, none⟩ = some (.int .i64 d.known) := by simp
      have q2 : (W1.alloc (.cells #[.int .i64 d.day, .int .i64 d.known, .int .i64 d.kind, .int .i64 d.subj, .int .i64 d.value] 27)).cell? ⟨W1.heap.size, 2, none⟩ = some (.int .i64 d.kind) := by simp
      have q3 : (W1.alloc (.cells #[.int .i64 d.day, .int .i64 d.known, .int .i64 d.kind, .int .i64 d.subj, .int .i64 d.value] 27)).cell? ⟨W1.heap.size, 3, none⟩ = some (.int .i64 d.subj) := by simp
      have q4 : (W1.alloc (.cells #[.int .i64 d.day, .int .i64 d.known, .int .i64 d.kind, .int .i64 d.subj, .int .i64 d.value] 27)).cell? ⟨W1.heap.size, 4, none⟩ = some (.int .i64 d.value) := by simp
      have HO2 := Lib.hid ho2; have HB2 := Lib.hid hb2
      clear ho1 hbw1 ho2 hb2 hb1 CD HO HB
      go_upto_region 4 with (fail)
      generalize W1.heap.size = X at *
      generalize W1.alloc (.cells #[.int .i64 d.day, .int .i64 d.known, .int .i64 d.kind, .int .i64 d.subj, .int .i64 d.value] 27) = W2 at *
      have hone : ∀ u ∈ cells5 d, u.oneCell' = true := by
        intro u hu
        simp only [cells5, List.mem_cons, List.not_mem_nil, or_false] at hu
        rcases hu with rfl | rfl | rfl | rfl | rfl <;> rfl
      have H1 := Lib.hid hone
      have HN := Lib.hid (World.news_of_block (cs := (cells5 d).toArray) (t := 27) (fr := (0, 0)) (heap_alloc_new W2 _))
      have HO3 := Lib.hid (HO2.out.alloc (.cells (cells5 d).toArray 27))
      have hsz : w.heap.size ≤ W2.heap.size := HB2.out.size
      have hk1 : k ≤ 8334 := by omega
      clear hone
      go_wp2_with (at_builtin; refine wpList_append_own _ rfl _ _ 23 rfl w.heap.size 27 i0 (.agg #[.int .i64 0, .int .i64 0, .int .i64 0, .int .i64 0, .int .i64 0]) 5 40 Try.underlying23 hi hz0 hz1 hz2 rfl (by decide) _ _ _ rfl HO3.out ⟨W2.heap.size, 0, none⟩ 1 1 (cells5 d) rfl rfl HN.out H1.out (by unfold maxLen; omega) (by omega) (by simp; omega) ?_; intro v' W5 hown' hgrow _; have HOW := Lib.hid hown'; have HGR := Lib.hid hgrow; clear hown' hgrow)
      go_roundw
      case rel =>
        have hz : (W2.alloc (.cells (cells5 d).toArray 27)).heap.size = W2.heap.size + 1 := by simp
        exact ⟨k + 1, _, rfl, rfl, by omega, by rw [HT.out, flat_snoc]; exact HOW.out, (HB2.out.alloc hsz _).grown HGR.out (by simp; omega) (fun q hq => (HO2.out.lt q hq).1)⟩
      case measure => simp [intOf]; omega
    · have hkn : k = ds.length := by omega
      subst hkn
      obtain ⟨D, er, hd⟩ : ∃ D er, decAt s (12 * ds.length) = (D, er) := ⟨_, _, rfl⟩
      have her : er ≠ 0 := by have := H.out.2; rw [hd] at this; exact this
      have hne : (er != 0) = true := by simpa using her
      have cD := fun W => decode_any s (12 * ds.length) W (by omega) hs hd (n := 0) (by rw [if_neg her])
      unfold Dec.val at cD
      have CD := Lib.hid cD; have HO := Lib.hid hown; have HB := Lib.hid hb
      clear cD hown hb her hd hform
      go_wp2_with fail
      refine (CD.out _).mono ?_; rintro e W1 ⟨rfl, hb1⟩
      have ho1 := own_below HO.out hb1
      have hbw1 := HB.out.trans (hb1.mono HB.out.size)
      have ho2 := ho1.alloc (.cells #[.int .i64 D.day, .int .i64 D.known, .int .i64 D.kind, .int .i64 D.subj, .int .i64 D.value] 27)
      have hb2 := hbw1.alloc hbw1.size (.cells #[.int .i64 D.day, .int .i64 D.known, .int .i64 D.kind, .int .i64 D.subj, .int .i64 D.value] 27)
      rw [List.take_length] at ho2
      have HDV := Lib.hid (dv_of_own ho2); have HB2 := Lib.hid hb2
      clear ho1 hbw1 ho2 hb2 hb1 CD HO HB
      go_wp2_with fail
      go_ret2
      exact ⟨_, rfl, HDV.out, HB2.out⟩

theorem ext_take (s : List UInt8) (n : Nat) : (⟨s.toArray⟩ : ByteArray).extract 0 n = ⟨(s.take n).toArray⟩ := by
  apply ByteArray.ext
  simp [ByteArray.data_extract]

set_option maxHeartbeats 1000000 in
theorem whole_any (s : List UInt8) (ds : List Dec) (w : World) (h : OpenAs s ds) (hs : s.length ≤ 100000) :
    Calls Try.prog 51 #[.string ⟨s.toArray⟩] w fun e w' => e = .returned (.string ⟨(s.take (12 * ds.length)).toArray⟩) ∧ Below w.heap.size w w' := by
  have hle := h.le
  have cO := open_any s ds w h hs
  obtain ⟨n, hn⟩ : ∃ n, n = 12 * ds.length := ⟨_, rfl⟩
  unfold OpenPost at cO
  rw [← hn] at cO hle ⊢
  have CO := Lib.hid cO; clear cO h hn
  go_enter Try.func51, Try.ntmps51
  go_wp2_with fail
  refine CO.out.mono ?_; rintro e w1 ⟨v, rfl, hdv, hb⟩
  obtain ⟨p, c, rfl, _, _⟩ := hdv
  have HB := Lib.hid hb
  clear hb CO
  go_wp2_with fail
  go_ret
  exact ⟨by rw [← ext_take]; rfl, HB.out⟩

set_option maxHeartbeats 1000000 in
theorem samedecs_same (w : World) (pa pb : Option Addr) (ca cb : Nat) (l : List Dec) (ha : Reads w pa l) (hb : Reads w pb l) (hl : l.length ≤ 1000) :
    Calls Try.prog 50 #[.slice pa l.length ca, .slice pb l.length cb] w fun e w' => e = .returned (.bool true) ∧ Below w.heap.size w w' := by
  have cS := refsame_same w pa pb ca cb l ha hb hl
  have CS := Lib.hid cS; clear cS ha hb
  go_enter Try.func50, Try.ntmps50
  go_wp2_with fail
  refine CS.out.mono ?_; rintro e w1 ⟨rfl, hb⟩
  go_wp2_with fail
  go_ret
  exact ⟨rfl, hb⟩
end Go.Proofs.Ytogcpjkgliijmaa
