/-
  No cell of these rows narrows 'for every input' (looked for: loops, veiled, ifaces, maps, wideKeys, modest, calm, conditions, laid).
  DERIVED. THE GIVEN ROWS OF THIS SEAT. 5 by the template 'for every input the law returns true; each argument reads behind the call as it read before'; 0 by the template 'total and deterministic' (their statements: YtcppmkimfoajaaaTotals.lean).
  GIVEN WITH THE SEED: the statements are not yours to turn. If you find one false, say at which input.
  Laid BY PROGRAM, IN A SANDBOX (cutbox-rows.mjs): the forced cells as the released guide's own fill.sh prints them over the translation d497a6832a5d7a7a… (all of the seat's roots in one cut). By AI agents, Wed Nov 11 2026. No macro, syntax, notation, axiom, sorry.
-/
import Derived.Test.YtcppmkimfoajaaaChecked
import GoSem.Claim
import GoSem.ClaimJoined
import GoSem.ClaimMapViews
import Derived.JoinedTies
import Derived.KernelRfl
namespace Go.Proofs.Ytcppmkimfoajaaa
/- THE CELL 'sum', in the pinned program and in every row, IS THE sha256 OF THE DUMP (.gsa) THAT YtcppmkimfoajaaaProg.lean LOADS. Nothing in Lean hashes anything: it is a label: what it is worth is what the hold of that sum in a sandbox is worth. -/
noncomputable def Try.pinned : Pinned := { name := "ytcppmkimfoajaaa", sum := "d497a6832a5d7a7a5de540a4c1f3c59a50fb4aac5b5d36f39f76ce69ea639caa", checked := Try.checked }
namespace Rows
def none {H : Type} : Left H := { results := [], args := [] }

/-- 'cipherplanlaw13.HandshakeRecords': WHATEVER THE INPUT: true; the input reads as it did. -/
def handshakeRecordsSpec : ChangeSpec := { name := "handshakeRecords", fn := fun _ => fun
  | [d1, d2] => { results := [.lit (.bool true)], args := [d1, d2] }
  | _ => none }
def handshakeRecordsRow : OpenClaim := { program := "ytcppmkimfoajaaa", sum := "d497a6832a5d7a7a5de540a4c1f3c59a50fb4aac5b5d36f39f76ce69ea639caa", func := "cipherplan/cipherplanlaw13.HandshakeRecords", spec := "handshakeRecords", inPlace := ["internal/bytealg.MakeNoZero"], unfollowed := true, recurses := true, apart := false }
def HandshakeRecordsSaid : Prop := handshakeRecordsRow.holds Try.pinned (OpenSpec.ofChange handshakeRecordsSpec)

/-- ITS FALSE NEIGHBOUR: 'it returns false'. Refute it at one input. -/
def handshakeRecordsWrong : ChangeSpec := { name := "handshakeRecords", fn := fun _ => fun
  | [d1, d2] => { results := [.lit (.bool false)], args := [d1, d2] }
  | _ => none }
def HandshakeRecordsWrongFalsely : Prop := handshakeRecordsRow.holds Try.pinned (OpenSpec.ofChange handshakeRecordsWrong)

/-- 'cipherplanlaw28.NeedReduces': WHATEVER THE INPUT: true; the input reads as it did. -/
def needReducesSpec : ChangeSpec := { name := "needReduces", fn := fun _ => fun
  | [d] => { results := [.lit (.bool true)], args := [d] }
  | _ => none }
def needReducesRow : OpenClaim := { program := "ytcppmkimfoajaaa", sum := "d497a6832a5d7a7a5de540a4c1f3c59a50fb4aac5b5d36f39f76ce69ea639caa", func := "cipherplan/cipherplanlaw28.NeedReduces", spec := "needReduces", unfollowed := true, recurses := true, apart := false }
def NeedReducesSaid : Prop := needReducesRow.holds Try.pinned (OpenSpec.ofChange needReducesSpec)

/-- ITS FALSE NEIGHBOUR: 'it returns false'. Refute it at one input. -/
def needReducesWrong : ChangeSpec := { name := "needReduces", fn := fun _ => fun
  | [d] => { results := [.lit (.bool false)], args := [d] }
  | _ => none }
def NeedReducesWrongFalsely : Prop := needReducesRow.holds Try.pinned (OpenSpec.ofChange needReducesWrong)

/-- 'cipherplanlaw28.NeedUnions': WHATEVER THE INPUT: true; the input reads as it did. -/
def needUnionsSpec : ChangeSpec := { name := "needUnions", fn := fun _ => fun
  | [d] => { results := [.lit (.bool true)], args := [d] }
  | _ => none }
def needUnionsRow : OpenClaim := { program := "ytcppmkimfoajaaa", sum := "d497a6832a5d7a7a5de540a4c1f3c59a50fb4aac5b5d36f39f76ce69ea639caa", func := "cipherplan/cipherplanlaw28.NeedUnions", spec := "needUnions", unfollowed := true, recurses := true, apart := false }
def NeedUnionsSaid : Prop := needUnionsRow.holds Try.pinned (OpenSpec.ofChange needUnionsSpec)

/-- ITS FALSE NEIGHBOUR: 'it returns false'. Refute it at one input. -/
def needUnionsWrong : ChangeSpec := { name := "needUnions", fn := fun _ => fun
  | [d] => { results := [.lit (.bool false)], args := [d] }
  | _ => none }
def NeedUnionsWrongFalsely : Prop := needUnionsRow.holds Try.pinned (OpenSpec.ofChange needUnionsWrong)

/-- 'cipherplanlaw30.WindowNext': WHATEVER THE INPUT: true; the input reads as it did. -/
def windowNextSpec : ChangeSpec := { name := "windowNext", fn := fun _ => fun
  | [d1, d2] => { results := [.lit (.bool true)], args := [d1, d2] }
  | _ => none }
def windowNextRow : OpenClaim := { program := "ytcppmkimfoajaaa", sum := "d497a6832a5d7a7a5de540a4c1f3c59a50fb4aac5b5d36f39f76ce69ea639caa", func := "cipherplan/cipherplanlaw30.WindowNext", spec := "windowNext", unfollowed := true, recurses := true, apart := false }
def WindowNextSaid : Prop := windowNextRow.holds Try.pinned (OpenSpec.ofChange windowNextSpec)

/-- ITS FALSE NEIGHBOUR: 'it returns false'. Refute it at one input. -/
def windowNextWrong : ChangeSpec := { name := "windowNext", fn := fun _ => fun
  | [d1, d2] => { results := [.lit (.bool false)], args := [d1, d2] }
  | _ => none }
def WindowNextWrongFalsely : Prop := windowNextRow.holds Try.pinned (OpenSpec.ofChange windowNextWrong)

/-- 'cipherplanlaw30.WindowFull': WHATEVER THE INPUT: true; the input reads as it did. -/
def windowFullSpec : ChangeSpec := { name := "windowFull", fn := fun _ => fun
  | [d1, d2, d3] => { results := [.lit (.bool true)], args := [d1, d2, d3] }
  | _ => none }
def windowFullRow : OpenClaim := { program := "ytcppmkimfoajaaa", sum := "d497a6832a5d7a7a5de540a4c1f3c59a50fb4aac5b5d36f39f76ce69ea639caa", func := "cipherplan/cipherplanlaw30.WindowFull", spec := "windowFull", unfollowed := true, recurses := true, apart := false }
def WindowFullSaid : Prop := windowFullRow.holds Try.pinned (OpenSpec.ofChange windowFullSpec)

/-- ITS FALSE NEIGHBOUR: 'it returns false'. Refute it at one input. -/
def windowFullWrong : ChangeSpec := { name := "windowFull", fn := fun _ => fun
  | [d1, d2, d3] => { results := [.lit (.bool false)], args := [d1, d2, d3] }
  | _ => none }
def WindowFullWrongFalsely : Prop := windowFullRow.holds Try.pinned (OpenSpec.ofChange windowFullWrong)

/- THE SECOND FORM. 'bulk': how many values and letters a reading holds, each counted each time it is reached (what is shared counts as often as it is met; a slice's spare places count too). A statement '..UptoSaid' is the law's where the arguments, and the package variables that the reading takes, are together of bulk at most 1048576: NARROWER than '..Said'. Prove '..Said' where nothing that the law and all that it calls make is longer than what came in: it says more and counts as full. Else prove '..UptoSaid'. A law counts once. -/
mutual
def uptoBulk {H : Type} : DataW H → Nat
  | .lit (.string bytes) => bytes.length + 1
  | .lit _ => 1
  | .nil => 1
  | .ptr d => uptoBulk d + 1
  | .slice elems spare => uptoBulkAll elems + uptoBulkAll spare + 1
  | .agg parts => uptoBulkAll parts + 1
  | .iface _ d => uptoBulk d + 1
  | .map entries => uptoBulkEntries entries + 1
  | .held _ => 1
def uptoBulkAll {H : Type} : List (DataW H) → Nat
  | [] => 0
  | d :: r => uptoBulk d + uptoBulkAll r
def uptoBulkEntries {H : Type} : List (Lit × DataW H) → Nat
  | [] => 0
  | x :: r => uptoBulkEntry x + uptoBulkEntries r
def uptoBulkEntry {H : Type} : Lit × DataW H → Nat
  | (.string bytes, d) => bytes.length + uptoBulk d + 1
  | (_, d) => uptoBulk d + 1
 end
def uptoSmall : (H : Type) → List (DataW H) → Bool := fun _ ds => decide (uptoBulkAll ds ≤ 1048576)
def OpenSpec.upto (s : _root_.Go.ChangeSpec) : _root_.Go.OpenSpec := { _root_.Go.OpenSpec.ofChange s with cond := some uptoSmall }

/-- 'cipherplanlaw13.HandshakeRecords', WHERE WHAT IT READS IS OF BULK AT MOST 1048576: true; the input reads as it did. -/
def handshakeRecordsUptoRow : OpenClaim := { program := "ytcppmkimfoajaaa", sum := "d497a6832a5d7a7a5de540a4c1f3c59a50fb4aac5b5d36f39f76ce69ea639caa", func := "cipherplan/cipherplanlaw13.HandshakeRecords", spec := "handshakeRecords", inPlace := ["internal/bytealg.MakeNoZero"], unfollowed := true, recurses := true, apart := false, narrowed := true }
def HandshakeRecordsUptoSaid : Prop := handshakeRecordsUptoRow.holds Try.pinned (OpenSpec.upto handshakeRecordsSpec)

/-- 'cipherplanlaw28.NeedReduces', WHERE WHAT IT READS IS OF BULK AT MOST 1048576: true; the input reads as it did. -/
def needReducesUptoRow : OpenClaim := { program := "ytcppmkimfoajaaa", sum := "d497a6832a5d7a7a5de540a4c1f3c59a50fb4aac5b5d36f39f76ce69ea639caa", func := "cipherplan/cipherplanlaw28.NeedReduces", spec := "needReduces", unfollowed := true, recurses := true, apart := false, narrowed := true }
def NeedReducesUptoSaid : Prop := needReducesUptoRow.holds Try.pinned (OpenSpec.upto needReducesSpec)

/-- 'cipherplanlaw28.NeedUnions', WHERE WHAT IT READS IS OF BULK AT MOST 1048576: true; the input reads as it did. -/
def needUnionsUptoRow : OpenClaim := { program := "ytcppmkimfoajaaa", sum := "d497a6832a5d7a7a5de540a4c1f3c59a50fb4aac5b5d36f39f76ce69ea639caa", func := "cipherplan/cipherplanlaw28.NeedUnions", spec := "needUnions", unfollowed := true, recurses := true, apart := false, narrowed := true }
def NeedUnionsUptoSaid : Prop := needUnionsUptoRow.holds Try.pinned (OpenSpec.upto needUnionsSpec)

/-- 'cipherplanlaw30.WindowNext', WHERE WHAT IT READS IS OF BULK AT MOST 1048576: true; the input reads as it did. -/
def windowNextUptoRow : OpenClaim := { program := "ytcppmkimfoajaaa", sum := "d497a6832a5d7a7a5de540a4c1f3c59a50fb4aac5b5d36f39f76ce69ea639caa", func := "cipherplan/cipherplanlaw30.WindowNext", spec := "windowNext", unfollowed := true, recurses := true, apart := false, narrowed := true }
def WindowNextUptoSaid : Prop := windowNextUptoRow.holds Try.pinned (OpenSpec.upto windowNextSpec)

/-- 'cipherplanlaw30.WindowFull', WHERE WHAT IT READS IS OF BULK AT MOST 1048576: true; the input reads as it did. -/
def windowFullUptoRow : OpenClaim := { program := "ytcppmkimfoajaaa", sum := "d497a6832a5d7a7a5de540a4c1f3c59a50fb4aac5b5d36f39f76ce69ea639caa", func := "cipherplan/cipherplanlaw30.WindowFull", spec := "windowFull", unfollowed := true, recurses := true, apart := false, narrowed := true }
def WindowFullUptoSaid : Prop := windowFullUptoRow.holds Try.pinned (OpenSpec.upto windowFullSpec)

end Rows
end Go.Proofs.Ytcppmkimfoajaaa
