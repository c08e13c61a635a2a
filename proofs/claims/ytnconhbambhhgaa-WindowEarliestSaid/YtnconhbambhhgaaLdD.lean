/- window.Fits of a good calendar, where all changes may be made. -/
import Derived.Test.YtnconhbambhhgaaLdC
namespace Go.Proofs.Ytnconhbambhhgaa
open Go.RowKit
set_option linter.all false

theorem FitR.length {L : List Win} {R TS DS : List Int} {cs : List Value} {e : Int} (h : FitR L R TS DS cs e) : cs.length = 256 := by
  rcases h with ⟨_, h, _⟩ | ⟨_, h, _⟩
  · rw [h, cntL_length]
  · rw [h]; exact List.length_replicate
theorem FitR.one {L : List Win} {R TS DS : List Int} {cs : List Value} {e : Int} (h : FitR L R TS DS cs e) : ∀ v ∈ cs, v.oneCell' = true := by
  rcases h with ⟨_, h, _⟩ | ⟨_, h, _⟩
  · rw [h]; exact cntL_one _ _ _ _
  · rw [h]; exact fun v hv => by rw [(List.mem_replicate.1 hv).2]; rfl

def FitsP (L : List Win) (R TS DS : List Int) (w : World) (e : Ending) (w' : World) : Prop := ∃ cs x, e = .returned (.int .i64 x) ∧ FitR L R TS DS cs x ∧ Below w.heap.size w w'

set_option maxRecDepth 100000 in
set_option maxHeartbeats 4000000 in
theorem fits_good (p q r ta da : Option Addr) (L : List Win) (T : Nat → List Int) (Q R TS DS : List Int) (c1 c2 c3 c4 c5 : Nat) (w : World) (h : GoodCal w p q r L T Q R)
    (hTS : TeamsAt w ta TS) (hDS : TeamsAt w da DS) (hlen : DS.length = TS.length) (h24 : TS.length ≤ 24) (hts : TS.all (isT R.length) = true)
    (hmay : ∀ j, j < TS.length → mayF L T (DS.getD j 0) (TS.getD j 0) = true) :
    Calls Try.prog 18 #[.agg #[.slice p L.length c1, .slice q Q.length c2, .slice r R.length c3], .slice ta TS.length c4, .slice da DS.length c5] w (FitsP L R TS DS w) := by
  have hb0 := (Below.refl w.heap.size w).alloc (Nat.le_refl _) (.cells #[.slice p L.length c1, .slice q Q.length c2, .slice r R.length c3] 38)
  have hsz : (w.alloc (.cells #[.slice p L.length c1, .slice q Q.length c2, .slice r R.length c3] 38)).heap.size = w.heap.size + 1 := by simp
  have CC := Lib.hid (fit_good p q r ta da none L T Q R TS DS [] c1 c2 c3 c4 c5 0 _ (h.step hb0) (hTS.step hb0) (hDS.step hb0) (fun j hj => by simp at hj) hlen h24 (by simp) hts rfl hmay)
  have HB0 := Lib.hid hb0; have HSZ := Lib.hid hsz
  rw [hlen] at CC ⊢
  rw [show ([] : List Int).length = 0 from rfl] at CC
  clear h hb0 hsz hTS hDS hts hmay hlen
  generalize hn : TS.length = n at *
  have HNN := Lib.hid hn
  clear hn
  generalize L.length = nL at *
  generalize R.length = nR at *
  generalize Q.length = nQ at *
  go_enter Try.func18, Try.ntmps18
  go_wp2_with fail
  generalize w.alloc (.cells #[.slice p nL c1, .slice q nQ c2, .slice r nR c3] 38) = W0 at *
  generalize hA : w.heap.size = A at *
  have HA := Lib.hid hA; clear hA
  refine (CC.out).mono ?_
  rintro e w1 ⟨cs, x, rfl, hF, hb1⟩
  have hcl := hF.length
  have hc1 := hF.one
  have hth : (w1.alloc (.cells Try.zeroCells82 82)).there w1.heap.size 0 256 := by
    have := there_of_row (heap_alloc_new w1 (.cells Try.zeroCells82 82))
    rwa [zero_size] at this
  have hst := run_storeCells_cells (P := Try.prog) w1.heap.size 0 cs 0 (w1.alloc (.cells Try.zeroCells82 82)) (fun j hj => by simpa using (hth j (by omega)).1) (fun j hj => by simpa using (hth j (by omega)).2) hc1
  rw [Nat.zero_add] at hst
  have hbz : Below A w ((w1.alloc (.cells Try.zeroCells82 82)).setCells w1.heap.size 0 cs) := HB0.out.trans ((hb1.mono (by have := HSZ.out; omega)).trans (below_setCells ((Below.refl _ _).alloc (by have := hb1.size; have := HSZ.out; omega) _) (by have := hb1.size; have := HSZ.out; omega) 0 cs))
  have HBZ := Lib.hid hbz; have HF := Lib.hid hF
  clear hbz hth hc1 hb1 hF
  generalize (w1.alloc (.cells Try.zeroCells82 82)).setCells w1.heap.size 0 cs = wz at *
  go_wp2_with fail
  go_ret
  exact ⟨cs, x, rfl, HF.out, by rw [HA.out]; exact HBZ.out⟩
end Go.Proofs.Ytnconhbambhhgaa
