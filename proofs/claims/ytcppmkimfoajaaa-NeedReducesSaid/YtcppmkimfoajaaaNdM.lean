/- slices.SortFunc of requirements: the laying. -/
import Derived.Test.YtcppmkimfoajaaaNdL
import Derived.Test.YtcppmkimfoajaaaShelf
namespace Go.Proofs.Ytcppmkimfoajaaa
open Go.RowKit Go.Sort Go.Proofs Go.Shelf Go.Lib
set_option linter.all false
theorem sizeOf120 (w : World) : (Go.sizeOf 120).run Try.prog w = .ok 2 w := by
  obtain ⟨i0, hi, hz0, hz1, hz2⟩ := info_parts info120
  simp [Go.sizeOf, typeInfo, hi, hz1]
theorem isAgg120 (w : World) : (isAgg 120).run Try.prog w = .ok true w := by
  have h0 : (match Try.prog.underlying 120 with | some (.struct _) => true | _ => false) = true := by kernel_rfl
  cases hu : Try.prog.underlying 120 with
  | none => rw [hu] at h0; cases h0
  | some t =>
    cases t with
    | struct fs => simp [isAgg, run_underlying hu]
    | _ => rw [hu] at h0; cases h0
set_option maxRecDepth 100000 in
theorem sortFunc_any (blk cap : Nat) (d : Array Rq) (w : World) (h : RowR w blk d) (hb : blk < w.heap.size) (hs : d.size ≤ 1000) :
    Calls Try.prog 59 #[.slice (some ⟨blk, 0, none⟩) d.size cap, .func (.func 60) #[] #[]] w fun e w' => e = .returned (.tuple #[]) ∧ ∃ d' n os, PermIn 0 d.size d d' ∧ SortedIn lessB 0 d.size d' ∧ w' = sortWorldK encR 2 w blk 0 n d' os := by
  have eg : ∀ args w, (callFunc 60 args).run Try.prog w = .ok (.enter 60 args) w := enters_of Try.func60 (by kernel_rfl) rfl
  have hcon := AnyQ.slices_SortFunc Ytcp.sortReq 2 isAgg120 sizeOf120 encR (fun _ => rfl) (fun x v hv => by simp [encR] at hv; rcases hv with rfl | rfl <;> rfl) cmpR swoR 60 #[] blk 0 cap d w eg (cmpLays60 blk d.size w) h hb (by omega)
  change Calls Try.prog 59 _ _ _ at hcon
  refine hcon.mono ?_
  rintro e w' ⟨he, d', n, os, hp, hso, hw⟩
  exact ⟨he, d', n, os, hp, fun i j hi hij hj => by rw [← cmpR_lt]; exact hso i j hi hij hj, hw⟩
end Go.Proofs.Ytcppmkimfoajaaa
