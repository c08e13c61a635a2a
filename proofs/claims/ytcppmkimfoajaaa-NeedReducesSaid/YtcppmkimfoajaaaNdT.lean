/- need.Union. -/
import Derived.Test.YtcppmkimfoajaaaNdI
import Derived.Test.YtcppmkimfoajaaaNdE
namespace Go.Proofs.Ytcppmkimfoajaaa
open Go.RowKit
set_option linter.all false

theorem unionL_append (L M : List Rq) : unionL (L ++ M) [] = unionL L M :=
  asc_ext (unionL_asc _ _) (unionL_asc _ _) fun x => by rw [unionL_mem, unionL_mem]; simp
set_option maxRecDepth 100000 in
set_option maxHeartbeats 4000000 in
theorem union_any (a b : Option Addr) (c d : Nat) (L M : List Rq) (w : World) (hl : L.length ≤ 400) (hm : M.length ≤ 400) (hL : ReqsAt w a L) (hM : ReqsAt w b M)
    (CS : ∀ (a' : Option Addr) (c' : Nat) (L : List Rq) (w' : World), L.length ≤ 900 → ReqsAt w' a' L → Calls Try.prog 41 #[.slice a' L.length c'] w' (LstP (unionL L []) w')) :
    Calls Try.prog 20 #[.slice a L.length c, .slice b M.length d] w (LstP (unionL L M) w) := by
  have hb0 := (Below.refl w.heap.size w).alloc (Nat.le_refl _) (.cells #[.slice a L.length c, .slice b M.length d] 31)
  have cc := concat_any w.heap.size a b c d L M (w.alloc (.cells #[.slice a L.length c, .slice b M.length d] 31)) (by simp) hl hm (by simp) (by simp) (hL.step hb0) (hM.step hb0)
  have CC := Lib.hid cc; have HB0 := Lib.hid hb0; have HCS := Lib.hid CS
  have hlen : (L ++ M).length ≤ 900 := by rw [List.length_append]; omega
  have hsz : w.heap.size ≤ (w.alloc (.cells #[.slice a L.length c, .slice b M.length d] 31)).heap.size := by simp
  have HLEN := Lib.hid hlen; have HSZ := Lib.hid hsz
  clear cc hb0 CS hL hM hl hm hlen hsz
  generalize L.length = nL at *
  generalize M.length = nM at *
  go_enter Try.func20, Try.ntmps20
  go_wp2_with fail
  refine (CC.out).mono ?_
  rintro e w1 ⟨a1, c1, rfl, hc1, hr1, hb1, hn1⟩
  have cs := HCS.out a1 c1 (L ++ M) w1 HLEN.out hr1
  have HB1 := Lib.hid (HB0.out.trans (hb1.mono HSZ.out))
  have CS := Lib.hid cs
  generalize (L ++ M).length = n1 at *
  clear cs hc1 hr1 hb1 hn1
  go_wp2_with fail
  refine (CS.out).mono ?_
  rintro e w2 ⟨a2, c2, rfl, hc2, hr2, hb2, hn2⟩
  have HB2 := Lib.hid (HB1.out.trans (hb2.mono HB1.out.size)); have HC2 := Lib.hid hc2; have HR2 := Lib.hid hr2
  have HN2 := Lib.hid (fun b o e => Nat.le_trans HB1.out.size (hn2 b o e))
  clear hc2 hr2 hb2 hn2
  rw [unionL_append] at HC2 HR2 ⊢
  generalize hnn : (unionL L M).length = nn at *
  have HNN := Lib.hid hnn
  clear hnn
  go_wp2_with fail
  go_ret
  exact ⟨a2, c2, by rw [HNN.out]; rfl, by rw [HNN.out]; exact HC2.out, HR2.out, HB2.out, HN2.out⟩
end Go.Proofs.Ytcppmkimfoajaaa
