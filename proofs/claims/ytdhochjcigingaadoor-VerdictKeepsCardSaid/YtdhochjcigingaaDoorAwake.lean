/- The sanity check of the statements of catalog. -/
import Derived.Test.YtdhochjcigingaaDoorSuites
namespace Go.Proofs.YtdhochjcigingaaDoor
open Go.RowKit
set_option linter.all false

def rsaT : List UInt8 := [114, 115, 97, 45, 50, 48, 52, 56]
theorem dig2048 : Lib.itoa 2048 = [50, 48, 52, 56] := by
  simp [Lib.itoa, Lib.decDigits]
theorem rsa_str : strS 5 2048 = 112 := by decide +kernel
theorem rsa_text : textS 5 2048 = rsaT := by
  unfold textS
  rw [rsa_str, dig2048]
  decide +kernel
theorem rsa_parse : parseA rsaT = 5 ∧ parseB rsaT = 2048 := by decide +kernel

theorem parse_rsa {m : Int} (w : World) (h : Tabs m w) : Calls Tryd.prog 12 #[.string ⟨#[114, 115, 97, 45, 50, 48, 52, 56]⟩] w (ParseP 5 2048 0 w) := by
  have := parse_good rsaT (by decide) w h (by decide) (by rw [rsa_parse.1, rsa_parse.2, rsa_text])
  rw [rsa_parse.1, rsa_parse.2] at this
  exact this
def RsaP (w : World) (e : Ending) (w' : World) : Prop := e = .returned (.string ⟨#[114, 115, 97, 45, 50, 48, 52, 56]⟩) ∧ Below w.heap.size w w'
theorem text_rsa {m : Int} (w : World) (h : Tabs m w) : Calls Tryd.prog 24 #[.agg #[.int .i64 5, .int .i64 2048]] w (RsaP w) := by
  have := text_any 5 2048 w h
  rw [rsa_text] at this
  exact this
theorem strength_rsa {m : Int} (w : World) (h : Tabs m w) : Calls Tryd.prog 22 #[.agg #[.int .i64 5, .int .i64 2048]] w (IntP 112 w) := by
  have := strength_any 5 2048 w h
  rwa [rsa_str] at this
def SuitesL (w : World) (e : Ending) (w' : World) : Prop := ∃ g cap, e = .returned (.slice (some ⟨g, 0, none⟩) 16 cap) ∧ Below w.heap.size w w'
theorem suites_len {m : Int} (w : World) (h : Tabs m w) : Calls Tryd.prog 34 #[] w (SuitesL w) :=
  (suites_any w h).mono fun e w' ⟨v, he, ho, hb⟩ => by
    rcases ho.2 with ⟨_, h0⟩ | ⟨g, cap, cur, hv, _⟩
    · cases h0
    · exact ⟨g, cap, by rw [he, hv], hb⟩

set_option maxHeartbeats 2000000 in
theorem awake_any {m : Int} (w : World) (h : Tabs m w) : Calls Tryd.prog 11 #[] w (BoolP true w) := by
  have hA : Below w.heap.size w (w.alloc (.cells #[.int .i64 5, .int .i64 2048] 23)) := (Below.refl _ _).alloc (Nat.le_refl _) _
  have HT := Lib.hid h
  have HA := Lib.hid hA
  clear h hA
  go_enter Tryd.func11, Tryd.ntmps11
  go_wp2_with fail
  refine (parse_rsa _ (HT.out.step HA.out)).mono ?_
  rintro e w1 ⟨rfl, hb1⟩
  obtain ⟨x0, x1, hb2, hz⟩ := box2 hb1
  have HB := Lib.hid (hb2.alloc (by omega) (.cells #[.int .i64 5, .int .i64 2048] 23))
  have hU : UB m w w.heap.size 5 2048 (w1.alloc (.cells #[.int .i64 5, .int .i64 2048] 23)) :=
    ⟨by rw [World.cell?_alloc_lt _ _ _ (by simpa using hz)]; exact x0, by rw [World.cell?_alloc_lt _ _ _ (by simpa using hz)]; exact x1, HT.out.step HB.out, HB.out, by simp; omega⟩
  clear hb1 hb2
  go_wp2_with fail
  refine (text_rsa _ hU.tabs).mono ?_
  rintro e w2 ⟨rfl, hb2⟩
  have hU2 := hU.step hb2
  have y0 := hU2.c0; have y1 := hU2.c1
  clear hb2 x0 x1
  go_wp2_with fail
  refine (strength_rsa _ hU2.tabs).mono ?_
  rintro e w3 ⟨rfl, hb3⟩
  have hU3 := hU2.step hb3
  clear hb3
  go_wp2_with fail
  refine (suites_len _ hU3.tabs).mono ?_
  rintro e w4 ⟨g, cap, rfl, hb4⟩
  have hU4 := hU3.step hb4
  clear hb4
  go_wp2_with fail
  go_ret
  exact ⟨rfl, hU4.below⟩
end Go.Proofs.YtdhochjcigingaaDoor
