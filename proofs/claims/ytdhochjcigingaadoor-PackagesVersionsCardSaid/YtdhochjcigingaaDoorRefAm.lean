/- The document's among (64). -/
import Derived.Test.YtdhochjcigingaaDoorRefA
import Derived.LoopTactic
import Derived.Laws.Rows
namespace Go.Proofs.YtdhochjcigingaaDoor
open Go.RowKit
set_option linter.all false

def amS (b : Int) (l : List (Int × Int)) : Int := ((l.find? fun x => x.1 == b).map (·.2)).getD 0
theorem am_hit {b : Int} {l : List (Int × Int)} {k : Nat} (hk : k < l.length) (h : ∀ j, j < k → (l.getD j (0, 0)).1 ≠ b) (he : (l.getD k (0, 0)).1 = b) : amS b l = (l.getD k (0, 0)).2 := by
  have hg : ∀ j, j < l.length → ∀ hj : j < l.length, l.getD j (0, 0) = l[j] := fun j _ hj => by rw [List.getD, List.getElem?_eq_getElem hj]; rfl
  unfold amS
  rw [List.find?_eq_some_iff_getElem.2 ⟨by rw [hg k hk hk] at he; simpa using he, k, hk, rfl, fun j hj => by have e := h j hj; rw [hg j (by omega) (by omega)] at e; simpa using e⟩]
  rw [hg k hk hk]
  rfl
theorem am_none {b : Int} {l : List (Int × Int)} (h : ∀ j, j < l.length → (l.getD j (0, 0)).1 ≠ b) : amS b l = 0 := by
  unfold amS
  rw [List.find?_eq_none.2 (fun x hx => by
    obtain ⟨j, hj, rfl⟩ := List.mem_iff_getElem.1 hx
    have := h j hj
    rw [List.getD, List.getElem?_eq_getElem hj] at this
    simpa using this)]
  rfl

/-- Two rows of numbers. -/
def Two (W : World) (X V : Nat) (l : List (Int × Int)) : Prop := ∀ k, k < l.length → W.cell? ⟨X, k, none⟩ = some (.int .i64 (l.getD k (0, 0)).1) ∧ W.cell? ⟨V, k, none⟩ = some (.int .i64 (l.getD k (0, 0)).2)

set_option maxHeartbeats 1000000 in
theorem among_any (b : Int) (l : List (Int × Int)) (hl : l.length ≤ 3) (X V : Nat) (w : World) (h : Two w X V l) : Calls Tryd.prog 64 #[.int .i64 b, .slice (some ⟨X, 0, none⟩) l.length l.length, .slice (some ⟨V, 0, none⟩) l.length l.length] w fun e w' => e = .returned (.int .i64 (amS b l)) ∧ w = w' := by
  have H := Lib.hid h; clear h
  obtain ⟨n, hn⟩ : ∃ n, n = l.length := ⟨_, rfl⟩
  rw [← hn]
  have HN0 := Lib.hid hn
  have hn3 : n ≤ 3 := by omega
  clear hl hn
  go_enter Tryd.func64, Tryd.ntmps64
  go_wp2_with fail
  go_loopw [7] (fun i wr => ∃ k : Nat, k ≤ n ∧ i = .int .i64 (k : Int) ∧ (∀ j, j < k → (l.getD j (0, 0)).1 ≠ b) ∧ w = wr) (fun i _ => n - (intOf i).toNat)
  case atStart => exact ⟨0, by omega, rfl, fun j hj => by omega, rfl⟩
  case round =>
    obtain ⟨k, hk, rfl, hne, rfl⟩ := hrel
    have HNE := Lib.hid hne; clear hne
    by_cases hlt : k < n
    · obtain ⟨c0, c1⟩ := H.out k (by rw [← HN0.out]; exact hlt)
      by_cases he : (l.getD k (0, 0)).1 = b
      · have hq : ((l.getD k (0, 0)).1 == b) = true := by simpa using he
        have HE := Lib.hid he; clear he
        obtain ⟨x, hx⟩ : ∃ x, x = (l.getD k (0, 0)).1 := ⟨_, rfl⟩
        rw [← hx] at c0 hq
        clear hx
        obtain ⟨y, hy⟩ : ∃ y, y = (l.getD k (0, 0)).2 := ⟨_, rfl⟩
        rw [← hy] at c1
        have HY := Lib.hid hy; clear hy
        go_wp2_with fail
        go_ret
        exact ⟨ret_i (by rw [am_hit (by rw [← HN0.out]; exact hlt) HNE.out HE.out, HY.out]), rfl⟩
      · have hq : ((l.getD k (0, 0)).1 == b) = false := by simpa using he
        have HE := Lib.hid he; clear he c1
        obtain ⟨x, hx⟩ : ∃ x, x = (l.getD k (0, 0)).1 := ⟨_, rfl⟩
        rw [← hx] at c0 hq
        have HX := Lib.hid hx; clear hx
        go_wp2_with fail
        go_roundw
        case rel => exact ⟨k + 1, by omega, by go_num, fun j hj => by
          rcases Nat.lt_succ_iff_lt_or_eq.1 hj with h | h
          · exact HNE.out j h
          · subst h; exact HE.out, by first | rfl | trivial⟩
        case measure => simp [intOf]; omega
    · have hk' : k = n := by omega
      subst hk'
      go_wp2_with fail
      go_ret
      exact ⟨ret_i (by rw [am_none (fun j hj => HNE.out j (by rw [HN0.out]; exact hj))]), rfl⟩
end Go.Proofs.YtdhochjcigingaaDoor
