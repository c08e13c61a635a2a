/-
  No cell of these rows narrows 'for every input' (looked for: loops, veiled, ifaces, maps, wideKeys, modest, calm, conditions, laid).
  DERIVED. THE GIVEN ROWS OF THIS SEAT. 3 by the template 'for every input the law returns true; each argument reads behind the call as it read before'; 0 by the template 'total and deterministic' (their statements: YtnconhbambhhgaaTotals.lean).
  GIVEN WITH THE SEED: the statements are not yours to turn. If you find one false, say at which input.
  Laid BY PROGRAM, IN A SANDBOX (cutbox-rows.mjs): the forced cells as the released guide's own fill.sh prints them over the translation 1ea0a9427cbc7c69… (all of the seat's roots in one cut). By AI agents, Wed Nov 11 2026. No macro, syntax, notation, axiom, sorry.
-/
import Derived.Test.YtnconhbambhhgaaChecked
import GoSem.Claim
import GoSem.ClaimJoined
import GoSem.ClaimMapViews
import Derived.JoinedTies
import Derived.KernelRfl
namespace Go.Proofs.Ytnconhbambhhgaa
/- THE CELL 'sum', in the pinned program and in every row, IS THE sha256 OF THE DUMP (.gsa) THAT YtnconhbambhhgaaProg.lean LOADS. Nothing in Lean hashes anything: it is a label: what it is worth is what the hold of that sum in a sandbox is worth. -/
noncomputable def Try.pinned : Pinned := { name := "ytnconhbambhhgaa", sum := "1ea0a9427cbc7c695a7c5969c629d8d242dad100b4c4a15890212cee68f98b55", checked := Try.checked }
namespace Rows
def none {H : Type} : Left H := { results := [], args := [] }

/-- 'cipherplanlaw28.NeedReduces': WHATEVER THE INPUT: true; the input reads as it did. -/
def needReducesSpec : ChangeSpec := { name := "needReduces", fn := fun _ => fun
  | [d] => { results := [.lit (.bool true)], args := [d] }
  | _ => none }
def needReducesRow : OpenClaim := { program := "ytnconhbambhhgaa", sum := "1ea0a9427cbc7c695a7c5969c629d8d242dad100b4c4a15890212cee68f98b55", func := "cipherplan/cipherplanlaw28.NeedReduces", spec := "needReduces", unfollowed := true, recurses := true, apart := false }
def NeedReducesSaid : Prop := needReducesRow.holds Try.pinned (OpenSpec.ofChange needReducesSpec)

/-- ITS FALSE NEIGHBOUR: 'it returns false'. Refute it at one input. -/
def needReducesWrong : ChangeSpec := { name := "needReduces", fn := fun _ => fun
  | [d] => { results := [.lit (.bool false)], args := [d] }
  | _ => none }
def NeedReducesWrongFalsely : Prop := needReducesRow.holds Try.pinned (OpenSpec.ofChange needReducesWrong)

/-- 'cipherplanlaw30.WindowEarliest': WHATEVER THE INPUT: true; the input reads as it did. -/
def windowEarliestSpec : ChangeSpec := { name := "windowEarliest", fn := fun _ => fun
  | [d1, d2] => { results := [.lit (.bool true)], args := [d1, d2] }
  | _ => none }
def windowEarliestRow : OpenClaim := { program := "ytnconhbambhhgaa", sum := "1ea0a9427cbc7c695a7c5969c629d8d242dad100b4c4a15890212cee68f98b55", func := "cipherplan/cipherplanlaw30.WindowEarliest", spec := "windowEarliest", unfollowed := true, recurses := true, apart := false }
def WindowEarliestSaid : Prop := windowEarliestRow.holds Try.pinned (OpenSpec.ofChange windowEarliestSpec)

/-- ITS FALSE NEIGHBOUR: 'it returns false'. Refute it at one input. -/
def windowEarliestWrong : ChangeSpec := { name := "windowEarliest", fn := fun _ => fun
  | [d1, d2] => { results := [.lit (.bool false)], args := [d1, d2] }
  | _ => none }
def WindowEarliestWrongFalsely : Prop := windowEarliestRow.holds Try.pinned (OpenSpec.ofChange windowEarliestWrong)

/-- 'cipherplanlaw30.WindowLoads': WHATEVER THE INPUT: true; the input reads as it did. -/
def windowLoadsSpec : ChangeSpec := { name := "windowLoads", fn := fun _ => fun
  | [d] => { results := [.lit (.bool true)], args := [d] }
  | _ => none }
def windowLoadsRow : OpenClaim := { program := "ytnconhbambhhgaa", sum := "1ea0a9427cbc7c695a7c5969c629d8d242dad100b4c4a15890212cee68f98b55", func := "cipherplan/cipherplanlaw30.WindowLoads", spec := "windowLoads", unfollowed := true, recurses := true, apart := false }
def WindowLoadsSaid : Prop := windowLoadsRow.holds Try.pinned (OpenSpec.ofChange windowLoadsSpec)

/-- ITS FALSE NEIGHBOUR: 'it returns false'. Refute it at one input. -/
def windowLoadsWrong : ChangeSpec := { name := "windowLoads", fn := fun _ => fun
  | [d] => { results := [.lit (.bool false)], args := [d] }
  | _ => none }
def WindowLoadsWrongFalsely : Prop := windowLoadsRow.holds Try.pinned (OpenSpec.ofChange windowLoadsWrong)

/- THE SECOND FORM. 'bulk': how many values and letters a reading holds, each counted each time it is reached (what is shared counts as often as it is met; a slice's spare places count too). A statement '..UptoSaid' is the law's where the arguments, and the package variables that the reading takes, are together of bulk at most 1048576: NARROWER than '..Said'. Prove '..Said' where nothing that the law and all that it calls make is longer than what came in: it says more and counts as full. Else prove '..UptoSaid'. A law counts once. -/
mutual
def uptoBulk {H : Type} : DataW H → Nat
  | .lit (.string bytes) => bytes.length + 1
  | .lit _ => 1
  | .nil => 1
  | .ptr d => uptoBulk d + 1
  | .slice elems spare => uptoBulkAll elems + uptoBulkAll spare + 1
  | .agg parts => uptoBulkAll parts + 1
  | .iface _ d => uptoBulk d + 1
  | .map entries => uptoBulkEntries entries + 1
  | .held _ => 1
def uptoBulkAll {H : Type} : List (DataW H) → Nat
  | [] => 0
  | d :: r => uptoBulk d + uptoBulkAll r
def uptoBulkEntries {H : Type} : List (Lit × DataW H) → Nat
  | [] => 0
  | x :: r => uptoBulkEntry x + uptoBulkEntries r
def uptoBulkEntry {H : Type} : Lit × DataW H → Nat
  | (.string bytes, d) => bytes.length + uptoBulk d + 1
  | (_, d) => uptoBulk d + 1
 end
def uptoSmall : (H : Type) → List (DataW H) → Bool := fun _ ds => decide (uptoBulkAll ds ≤ 1048576)
def OpenSpec.upto (s : _root_.Go.ChangeSpec) : _root_.Go.OpenSpec := { _root_.Go.OpenSpec.ofChange s with cond := some uptoSmall }

/-- 'cipherplanlaw28.NeedReduces', WHERE WHAT IT READS IS OF BULK AT MOST 1048576: true; the input reads as it did. -/
def needReducesUptoRow : OpenClaim := { program := "ytnconhbambhhgaa", sum := "1ea0a9427cbc7c695a7c5969c629d8d242dad100b4c4a15890212cee68f98b55", func := "cipherplan/cipherplanlaw28.NeedReduces", spec := "needReduces", unfollowed := true, recurses := true, apart := false, narrowed := true }
def NeedReducesUptoSaid : Prop := needReducesUptoRow.holds Try.pinned (OpenSpec.upto needReducesSpec)

/-- 'cipherplanlaw30.WindowEarliest', WHERE WHAT IT READS IS OF BULK AT MOST 1048576: true; the input reads as it did. -/
def windowEarliestUptoRow : OpenClaim := { program := "ytnconhbambhhgaa", sum := "1ea0a9427cbc7c695a7c5969c629d8d242dad100b4c4a15890212cee68f98b55", func := "cipherplan/cipherplanlaw30.WindowEarliest", spec := "windowEarliest", unfollowed := true, recurses := true, apart := false, narrowed := true }
def WindowEarliestUptoSaid : Prop := windowEarliestUptoRow.holds Try.pinned (OpenSpec.upto windowEarliestSpec)

/-- 'cipherplanlaw30.WindowLoads', WHERE WHAT IT READS IS OF BULK AT MOST 1048576: true; the input reads as it did. -/
def windowLoadsUptoRow : OpenClaim := { program := "ytnconhbambhhgaa", sum := "1ea0a9427cbc7c695a7c5969c629d8d242dad100b4c4a15890212cee68f98b55", func := "cipherplan/cipherplanlaw30.WindowLoads", spec := "windowLoads", unfollowed := true, recurses := true, apart := false, narrowed := true }
def WindowLoadsUptoSaid : Prop := windowLoadsUptoRow.holds Try.pinned (OpenSpec.upto windowLoadsSpec)

end Rows
end Go.Proofs.Ytnconhbambhhgaa
