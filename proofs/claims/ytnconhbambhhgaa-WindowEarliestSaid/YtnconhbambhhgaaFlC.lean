/- window.Earliest of a good calendar, where the changes fit. -/
import Derived.Test.YtnconhbambhhgaaFlB
namespace Go.Proofs.Ytnconhbambhhgaa
open Go.RowKit
set_option linter.all false

theorem alloc3_0 (w : World) (a b c : Obj) : (((w.alloc a).alloc b).alloc c).heap[w.heap.size]? = some a := by
  rw [heap_alloc_old _ _ (by simp; omega), heap_alloc_old _ _ (by simp)]; exact heap_alloc_new _ _
theorem alloc3_1 (w : World) (a b c : Obj) : (((w.alloc a).alloc b).alloc c).heap[w.heap.size + 1]? = some b := by
  rw [heap_alloc_old _ _ (by simp)]
  have := heap_alloc_new (w.alloc a) b
  simpa using this
theorem alloc3_2 (w : World) (a b c : Obj) : (((w.alloc a).alloc b).alloc c).heap[w.heap.size + 1 + 1]? = some c := by
  have := heap_alloc_new ((w.alloc a).alloc b) c
  simpa using this
def EarlP (L : List Win) (T : Nat → List Int) (R TS DS : List Int) (team : Nat) (d : Int) (w : World) (e : Ending) (w' : World) : Prop := ∃ r ok, e = .returned (.tuple #[.int .i64 r, .bool ok, .int .i64 0]) ∧ FirstHR (roomF L TS DS R team) d team L T r ok ∧ Below w.heap.size w w'

set_option maxRecDepth 100000 in
set_option maxHeartbeats 4000000 in
theorem earliest_good (p q r ta da : Option Addr) (L : List Win) (T : Nat → List Int) (Q R TS DS : List Int) (c1 c2 c3 c4 c5 : Nat) (team : Nat) (d : Int) (w : World) (h : GoodCal w p q r L T Q R)
    (hTS : TeamsAt w ta TS) (hDS : TeamsAt w da DS) (hlen : DS.length = TS.length) (h24 : TS.length ≤ 24) (hts : TS.all (isT R.length) = true) (htm : team < R.length)
    (hmay : ∀ j, j < TS.length → mayF L T (DS.getD j 0) (TS.getD j 0) = true)
    (hfit : ∀ i t, i < L.length → t < R.length → (cnt L TS DS TS.length i t : Int) ≤ R.getD t 0) :
    Calls Try.prog 17 #[.agg #[.slice p L.length c1, .slice q Q.length c2, .slice r R.length c3], .slice ta TS.length c4, .slice da DS.length c5, .int .i64 (team : Int), .int .i64 d] w (EarlP L T R TS DS team d w) := by
  have hb0 := (((Below.refl w.heap.size w).alloc (Nat.le_refl _) (.cells #[.slice p L.length c1, .slice q Q.length c2, .slice r R.length c3] 38)).alloc (by simp) (.cells #[.int .i64 (team : Int)] 3)).alloc (by simp; omega) (.cells #[.int .i64 (team : Int)] 3)
  have hsz : (((w.alloc (.cells #[.slice p L.length c1, .slice q Q.length c2, .slice r R.length c3] 38)).alloc (.cells #[.int .i64 (team : Int)] 3)).alloc (.cells #[.int .i64 (team : Int)] 3)).heap.size = w.heap.size + 3 := by simp
  have hx : CalBox w.heap.size p q r L.length c1 Q.length c2 R.length c3 (((w.alloc (.cells #[.slice p L.length c1, .slice q Q.length c2, .slice r R.length c3] 38)).alloc (.cells #[.int .i64 (team : Int)] 3)).alloc (.cells #[.int .i64 (team : Int)] 3)) := by
    refine ⟨?_, ?_, ?_⟩ <;> rw [cell_of_row _ _ _ _ _ _ (alloc3_0 w _ _ _)] <;> rfl
  have ht : (((w.alloc (.cells #[.slice p L.length c1, .slice q Q.length c2, .slice r R.length c3] 38)).alloc (.cells #[.int .i64 (team : Int)] 3)).alloc (.cells #[.int .i64 (team : Int)] 3)).cell? ⟨w.heap.size + 1, 0, none⟩ = some (.int .i64 (team : Int)) := by
    rw [cell_of_row _ _ _ _ _ _ (alloc3_1 w _ _ _)]; rfl
  have hms : TeamsAt (((w.alloc (.cells #[.slice p L.length c1, .slice q Q.length c2, .slice r R.length c3] 38)).alloc (.cells #[.int .i64 (team : Int)] 3)).alloc (.cells #[.int .i64 (team : Int)] 3)) (some ⟨w.heap.size + 1 + 1, 0, none⟩) [(team : Int)] := fun j hj => by
    obtain rfl : j = 0 := by simp at hj; omega
    refine ⟨_, 0, rfl, ?_⟩
    rw [cell_of_row _ _ _ _ _ _ (alloc3_2 w _ _ _)]; rfl
  have hG := h.step hb0
  have CC := Lib.hid (fit_good p q r ta da (some ⟨w.heap.size + 1 + 1, 0, none⟩) L T Q R TS DS [(team : Int)] c1 c2 c3 c4 c5 1 _ hG (hTS.step hb0) (hDS.step hb0) hms hlen h24 (by simp) hts (by
    have : isT R.length (team : Int) = true := by
      unfold isT
      rw [decide_eq_true (by omega), decide_eq_true (by omega)]; rfl
    simp [this]) hmay)
  rw [hlen, show ([(team : Int)] : List Int).length = 1 from rfl] at CC
  have HG := Lib.hid hG; have HX := Lib.hid hx; have HB0 := Lib.hid hb0; have HSZ := Lib.hid hsz; have HT := Lib.hid ht
  have HFT := Lib.hid hfit
  have l1 := h.l1; have l3 := h.l3
  rw [hlen]
  obtain ⟨x0, x1, x2⟩ := hx
  clear h hTS hDS hlen hts hmay hfit hb0 hsz hms hG
  go_enter Try.func17, Try.ntmps17
  go_wp2_with fail
  generalize (((w.alloc (.cells #[.slice p L.length c1, .slice q Q.length c2, .slice r R.length c3] 38)).alloc (.cells #[.int .i64 (team : Int)] 3)).alloc (.cells #[.int .i64 (team : Int)] 3)) = W0 at *
  generalize hA : w.heap.size = A at *
  have HA := Lib.hid hA; clear hA
  refine (CC.out).mono ?_
  rintro e w1 ⟨cs, x, rfl, hF, hb1⟩
  have hcs : x = 0 ∧ cs = cntL L TS DS TS.length := by
    rcases hF with ⟨h1, h2, _⟩ | ⟨_, _, i, t, h3, h4, h5⟩
    · exact ⟨h1, h2⟩
    · have := HFT.out i t h3 h4; omega
  obtain ⟨rfl, hcs⟩ := hcs
  have hcl : cs.length = 256 := hF.length
  have hc1 : ∀ v ∈ cs, v.oneCell' = true := hF.one
  have hth : (w1.alloc (.cells Try.zeroCells82 82)).there w1.heap.size 0 256 := by
    have := there_of_row (heap_alloc_new w1 (.cells Try.zeroCells82 82))
    rwa [zero_size] at this
  have hst := run_storeCells_cells (P := Try.prog) w1.heap.size 0 cs 0 (w1.alloc (.cells Try.zeroCells82 82)) (fun j hj => by simpa using (hth j (by omega)).1) (fun j hj => by simpa using (hth j (by omega)).2) hc1
  rw [Nat.zero_add] at hst
  have hbz : Below w1.heap.size w1 ((w1.alloc (.cells Try.zeroCells82 82)).setCells w1.heap.size 0 cs) := below_setCells ((Below.refl _ _).alloc (Nat.le_refl _) _) (Nat.le_refl _) 0 cs
  have hrz := World.rangeAt_setCells_same (w1.alloc (.cells Try.zeroCells82 82)) w1.heap.size 0 cs (by rw [hcl]; exact hth)
  have HBZ := Lib.hid hbz; have HRZ := Lib.hid hrz; have HB1 := Lib.hid hb1
  clear hbz hrz hth hc1 hF hb1 x0 x1 x2 ht
  generalize (w1.alloc (.cells Try.zeroCells82 82)).setCells w1.heap.size 0 cs = wz at *
  rw [hcs] at HRZ
  clear hcs
  have hcl0 : ClAt wz w1.heap.size (A + 1) A p q r L.length c1 Q.length c2 R.length c3 L TS DS R team := by
    refine ⟨HRZ.out, ?_, (HX.out.step HB1.out).step HBZ.out, (HG.out.room.step HB1.out).step HBZ.out⟩
    exact cell_later' HBZ.out (cell_later' HB1.out HT.out)
  have CF := Lib.hid (firstH_any p q r c1 Q.length c2 R.length c3 L T d (team : Int) wz l1 ((HG.out.wins.step HB1.out).step HBZ.out) ((HG.out.ts.step HB1.out).step HBZ.out) (roomF L TS DS R team) w1.heap.size (A + 1) A (fun k W hk hW => holds_any w1.heap.size (A + 1) A p q r L.length c1 Q.length c2 c3 L TS DS R team k W (hcl0.step hW) (by omega) htm l3))
  have ht := hcl0.tm
  obtain ⟨x0, x1, x2⟩ := hcl0.box
  clear hcl0
  go_wp2_with fail
  refine (CF.out).mono ?_
  rintro e w2 ⟨rr, ok, rfl, hfr, hb2⟩
  have HB2 := Lib.hid (HB0.out.trans ((HB1.out.mono (by have := HSZ.out; omega)).trans ((HBZ.out.mono (by have := HSZ.out; have := HB1.out.size; omega)).trans (hb2.mono (by have := HSZ.out; have := HB1.out.size; have := HBZ.out.size; omega)))))
  have HFR := Lib.hid hfr
  clear hb2 hfr
  go_wp2_with fail
  exact bodyPost_ret (v := .tuple #[.int .i64 rr, .bool ok, .int .i64 0]) (by simp [results, Try.results17, go_sem]) rfl ⟨rr, ok, rfl, HFR.out, by rw [HA.out]; exact HB2.out⟩
end Go.Proofs.Ytnconhbambhhgaa
