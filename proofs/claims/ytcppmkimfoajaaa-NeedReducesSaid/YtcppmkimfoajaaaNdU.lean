/- need.sorted of any list. -/
import Derived.Test.YtcppmkimfoajaaaNdQ
import Derived.Test.YtcppmkimfoajaaaNdV
namespace Go.Proofs.Ytcppmkimfoajaaa
open Go.RowKit Go.Sort Go.Proofs Go.Shelf Go.Lib
set_option linter.all false

set_option maxRecDepth 100000 in
set_option maxHeartbeats 2000000 in
theorem compact_nil (w : World) : Calls Try.prog 61 #[.slice none 0 0] w fun e w' => e = .returned (.slice none 0 0) ∧ w' = w := by
  go_enter Try.func61, Try.ntmps61
  go_wp2_with fail
  go_ret
  exact ⟨rfl, rfl⟩
set_option maxRecDepth 100000 in
set_option maxHeartbeats 4000000 in
theorem sorted_none (a : Option Addr) (c : Nat) (w : World) : Calls Try.prog 41 #[.slice a 0 c] w (LstP [] w) := by
  have CS := Lib.hid (sortFunc_nil)
  have CC := Lib.hid (compact_nil)
  go_enter Try.func41, Try.ntmps41
  go_wp2_with fail
  go_loopw [3, 5, 11] (fun v _ kv wr => kv = .int .i64 0 ∧ v = .slice none 0 0 ∧ Below w.heap.size w wr) (fun _ _ kv _ => 0)
  case atStart => exact ⟨rfl, rfl, Below.refl _ _⟩
  case round =>
    obtain ⟨rfl, rfl, hb⟩ := hrel
    have HB := Lib.hid hb
    clear hb
    go_wp2_with fail
    refine (CS.out _).mono ?_
    rintro e w2 ⟨rfl, rfl⟩
    go_wp2_with fail
    refine (CC.out _).mono ?_
    rintro e w2 ⟨rfl, rfl⟩
    go_wp2_with fail
    go_loopw [6, 8, 25] (fun v _ kv wr => kv = .int .i64 0 ∧ v = .slice none 0 0 ∧ Below w.heap.size w wr) (fun _ _ kv _ => 0)
    case atStart => exact ⟨rfl, rfl, HB.out⟩
    case round =>
      clear HB
      obtain ⟨rfl, rfl, hb⟩ := hrel
      go_wp2_with fail
      go_ret
      exact ⟨none, 0, rfl, Nat.le_refl _, ReqsAt.nil _ _, hb, fun b o e => by cases e⟩
theorem sorted_any (a : Option Addr) (c : Nat) (L : List Rq) (w : World) (hl : L.length ≤ 900) (hL : ReqsAt w a L) : Calls Try.prog 41 #[.slice a L.length c] w (LstP (unionL L []) w) := by
  rcases Nat.eq_zero_or_pos L.length with h | h
  · obtain rfl := List.eq_nil_of_length_eq_zero h
    exact sorted_none a c w
  · exact sorted_some a c L w h hl hL
end Go.Proofs.Ytcppmkimfoajaaa
