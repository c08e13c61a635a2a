/-
  DERIVED. GIVEN WITH THE SEED: THE CARDS: each row of YtgeldpkopolnfaaDoorRows.lean that lists a variable, with what it lists TIED to the program's text (the seventh form; the later family's looks); each row that meets fmt, with fmt's text TOLD by the authors' own Lean function (tested against real Go, not proved from fmt's source: count such statements apart). THE CARD IS WHAT COUNTS. Prove the row's statement (the work); the ties are given (YtgeldpkopolnfaaDoorTie.lean); close each card by the builder's one call (the guide's Derived/Test/ToyasCard.lean, 'card_holds'). Laid BY PROGRAM, IN A SANDBOX (cutbox-door.mjs). By AI agents, Wed Nov 11 2026. No macro, syntax, notation, axiom, sorry.
-/
import Derived.Test.YtgeldpkopolnfaaDoorRows
import GoSem.ClaimSeven
namespace Go.Proofs.YtgeldpkopolnfaaDoor
namespace Rows

/-- THE TIED CARD OF 'cipherplanlaw29.OrderSets'. -/
def orderSetsCard : Claim7 := { stood := { row := orderSetsRow, standIns := [], harness := (true, "2ec1ef69d82fc81a26442311c43984240b979b013080cfb9ce7a490e89779971"), looks := false }, kinds := [], alts := [], laidByText := true, laidKinds := [.data], laidTests := true, laidLooks := .later }
def OrderSetsCardSaid : Prop := Claim7.holds Tryd.pinned (.plain (OpenSpec.ofChange orderSetsSpec)) orderSetsCard

/-- THE TIED CARD OF 'cipherplanlaw29.OrderParts'. -/
def orderPartsCard : Claim7 := { stood := { row := orderPartsRow, standIns := [], harness := (true, "2ec1ef69d82fc81a26442311c43984240b979b013080cfb9ce7a490e89779971"), looks := false }, kinds := [], alts := [], laidByText := true, laidKinds := [.data], laidTests := true, laidLooks := .later }
def OrderPartsCardSaid : Prop := Claim7.holds Tryd.pinned (.plain (OpenSpec.ofChange orderPartsSpec)) orderPartsCard

/-- THE TIED CARD OF 'cipherplanlaw29.OrderLoops'. -/
def orderLoopsCard : Claim7 := { stood := { row := orderLoopsRow, standIns := [], harness := (true, "2ec1ef69d82fc81a26442311c43984240b979b013080cfb9ce7a490e89779971"), looks := false }, kinds := [], alts := [], laidByText := true, laidKinds := [.data], laidTests := true, laidLooks := .later }
def OrderLoopsCardSaid : Prop := Claim7.holds Tryd.pinned (.plain (OpenSpec.ofChange orderLoopsSpec)) orderLoopsCard

/-- THE TIED CARD OF 'cipherplanlaw29.OrderFirst'. -/
def orderFirstCard : Claim7 := { stood := { row := orderFirstRow, standIns := [], harness := (true, "2ec1ef69d82fc81a26442311c43984240b979b013080cfb9ce7a490e89779971"), looks := false }, kinds := [], alts := [], laidByText := true, laidKinds := [.data], laidTests := true, laidLooks := .later }
def OrderFirstCardSaid : Prop := Claim7.holds Tryd.pinned (.plain (OpenSpec.ofChange orderFirstSpec)) orderFirstCard

/-- THE SECOND FORM's CARD OF 'cipherplanlaw29.OrderSets'. -/
def orderSetsUptoCard : Claim7 := { stood := { row := orderSetsUptoRow, standIns := [], harness := (true, "2ec1ef69d82fc81a26442311c43984240b979b013080cfb9ce7a490e89779971"), looks := false }, kinds := [], alts := [], laidByText := true, laidKinds := [.data], laidTests := true, laidLooks := .later }
def OrderSetsUptoCardSaid : Prop := Claim7.holds Tryd.pinned (.plain (OpenSpec.upto orderSetsSpec)) orderSetsUptoCard

/-- THE SECOND FORM's CARD OF 'cipherplanlaw29.OrderParts'. -/
def orderPartsUptoCard : Claim7 := { stood := { row := orderPartsUptoRow, standIns := [], harness := (true, "2ec1ef69d82fc81a26442311c43984240b979b013080cfb9ce7a490e89779971"), looks := false }, kinds := [], alts := [], laidByText := true, laidKinds := [.data], laidTests := true, laidLooks := .later }
def OrderPartsUptoCardSaid : Prop := Claim7.holds Tryd.pinned (.plain (OpenSpec.upto orderPartsSpec)) orderPartsUptoCard

/-- THE SECOND FORM's CARD OF 'cipherplanlaw29.OrderLoops'. -/
def orderLoopsUptoCard : Claim7 := { stood := { row := orderLoopsUptoRow, standIns := [], harness := (true, "2ec1ef69d82fc81a26442311c43984240b979b013080cfb9ce7a490e89779971"), looks := false }, kinds := [], alts := [], laidByText := true, laidKinds := [.data], laidTests := true, laidLooks := .later }
def OrderLoopsUptoCardSaid : Prop := Claim7.holds Tryd.pinned (.plain (OpenSpec.upto orderLoopsSpec)) orderLoopsUptoCard

/-- THE SECOND FORM's CARD OF 'cipherplanlaw29.OrderFirst'. -/
def orderFirstUptoCard : Claim7 := { stood := { row := orderFirstUptoRow, standIns := [], harness := (true, "2ec1ef69d82fc81a26442311c43984240b979b013080cfb9ce7a490e89779971"), looks := false }, kinds := [], alts := [], laidByText := true, laidKinds := [.data], laidTests := true, laidLooks := .later }
def OrderFirstUptoCardSaid : Prop := Claim7.holds Tryd.pinned (.plain (OpenSpec.upto orderFirstSpec)) orderFirstUptoCard
end Rows
end Go.Proofs.YtgeldpkopolnfaaDoor
