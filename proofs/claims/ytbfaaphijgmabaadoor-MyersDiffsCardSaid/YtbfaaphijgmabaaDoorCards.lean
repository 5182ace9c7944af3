/-
  DERIVED. GIVEN WITH THE SEED: THE CARDS: each row of YtbfaaphijgmabaaDoorRows.lean that lists a variable, with what it lists TIED to the program's text (the seventh form; the later family's looks); each row that meets fmt, with fmt's text TOLD by the authors' own Lean function (tested against real Go, not proved from fmt's source: count such statements apart). THE CARD IS WHAT COUNTS. Prove the row's statement (the work); the ties are given (YtbfaaphijgmabaaDoorTie.lean); close each card by the builder's one call (the guide's Derived/Test/ToyasCard.lean, 'card_holds'). Laid BY PROGRAM, IN A SANDBOX (cutbox-door.mjs). By AI agents, Wed Nov 11 2026. No macro, syntax, notation, axiom, sorry.
-/
import Derived.Test.YtbfaaphijgmabaaDoorRows
import GoSem.ClaimSeven
namespace Go.Proofs.YtbfaaphijgmabaaDoor
namespace Rows

/-- THE TIED CARD OF 'variorumlaw16.MyersMoves'. -/
def myersMovesCard : Claim7 := { stood := { row := myersMovesRow, standIns := [], harness := (true, "4be8a800d9b9ad07cb2fe31e0208dcedc1d8016a84649530e88979357ac768b5"), looks := false }, kinds := [], alts := [], laidByText := true, laidKinds := [.data, .pinned], laidTests := true, laidLooks := .later }
def MyersMovesCardSaid : Prop := Claim7.holds Tryd.pinned (.plain (OpenSpec.ofChange myersMovesSpec)) myersMovesCard

/-- THE TIED CARD OF 'variorumlaw16.MyersDiffs'. -/
def myersDiffsCard : Claim7 := { stood := { row := myersDiffsRow, standIns := [], harness := (true, "4be8a800d9b9ad07cb2fe31e0208dcedc1d8016a84649530e88979357ac768b5"), looks := false }, kinds := [], alts := [], laidByText := true, laidKinds := [.data, .pinned], laidTests := true, laidLooks := .later }
def MyersDiffsCardSaid : Prop := Claim7.holds Tryd.pinned (.plain (OpenSpec.ofChange myersDiffsSpec)) myersDiffsCard

/-- THE TIED CARD OF 'variorumlaw16.MyersApplies'. -/
def myersAppliesCard : Claim7 := { stood := { row := myersAppliesRow, standIns := [], harness := (true, "4be8a800d9b9ad07cb2fe31e0208dcedc1d8016a84649530e88979357ac768b5"), looks := false }, kinds := [], alts := [], laidByText := true, laidKinds := [.data, .pinned], laidTests := true, laidLooks := .later }
def MyersAppliesCardSaid : Prop := Claim7.holds Tryd.pinned (.plain (OpenSpec.ofChange myersAppliesSpec)) myersAppliesCard

/-- THE TIED CARD OF 'variorumlaw16.MyersBack'. -/
def myersBackCard : Claim7 := { stood := { row := myersBackRow, standIns := [], harness := (true, "4be8a800d9b9ad07cb2fe31e0208dcedc1d8016a84649530e88979357ac768b5"), looks := false }, kinds := [], alts := [], laidByText := true, laidKinds := [.data, .pinned], laidTests := true, laidLooks := .later }
def MyersBackCardSaid : Prop := Claim7.holds Tryd.pinned (.plain (OpenSpec.ofChange myersBackSpec)) myersBackCard

/-- THE TIED CARD OF 'variorumlaw16.MyersLeast'. -/
def myersLeastCard : Claim7 := { stood := { row := myersLeastRow, standIns := [], harness := (true, "4be8a800d9b9ad07cb2fe31e0208dcedc1d8016a84649530e88979357ac768b5"), looks := false }, kinds := [], alts := [], laidByText := true, laidKinds := [.data, .pinned], laidTests := true, laidLooks := .later }
def MyersLeastCardSaid : Prop := Claim7.holds Tryd.pinned (.plain (OpenSpec.ofChange myersLeastSpec)) myersLeastCard

/-- THE TIED CARD OF 'variorumlaw16.MyersTurned'. -/
def myersTurnedCard : Claim7 := { stood := { row := myersTurnedRow, standIns := [], harness := (true, "4be8a800d9b9ad07cb2fe31e0208dcedc1d8016a84649530e88979357ac768b5"), looks := false }, kinds := [], alts := [], laidByText := true, laidKinds := [.data, .pinned], laidTests := true, laidLooks := .later }
def MyersTurnedCardSaid : Prop := Claim7.holds Tryd.pinned (.plain (OpenSpec.ofChange myersTurnedSpec)) myersTurnedCard

/-- THE TIED CARD OF 'variorumlaw16.MyersAhead'. -/
def myersAheadCard : Claim7 := { stood := { row := myersAheadRow, standIns := [], harness := (true, "4be8a800d9b9ad07cb2fe31e0208dcedc1d8016a84649530e88979357ac768b5"), looks := false }, kinds := [], alts := [], laidByText := true, laidKinds := [.data, .pinned], laidTests := true, laidLooks := .later }
def MyersAheadCardSaid : Prop := Claim7.holds Tryd.pinned (.plain (OpenSpec.ofChange myersAheadSpec)) myersAheadCard

/-- THE SECOND FORM's CARD OF 'variorumlaw16.MyersMoves'. -/
def myersMovesUptoCard : Claim7 := { stood := { row := myersMovesUptoRow, standIns := [], harness := (true, "4be8a800d9b9ad07cb2fe31e0208dcedc1d8016a84649530e88979357ac768b5"), looks := false }, kinds := [], alts := [], laidByText := true, laidKinds := [.data, .pinned], laidTests := true, laidLooks := .later }
def MyersMovesUptoCardSaid : Prop := Claim7.holds Tryd.pinned (.plain (OpenSpec.upto myersMovesSpec)) myersMovesUptoCard

/-- THE SECOND FORM's CARD OF 'variorumlaw16.MyersDiffs'. -/
def myersDiffsUptoCard : Claim7 := { stood := { row := myersDiffsUptoRow, standIns := [], harness := (true, "4be8a800d9b9ad07cb2fe31e0208dcedc1d8016a84649530e88979357ac768b5"), looks := false }, kinds := [], alts := [], laidByText := true, laidKinds := [.data, .pinned], laidTests := true, laidLooks := .later }
def MyersDiffsUptoCardSaid : Prop := Claim7.holds Tryd.pinned (.plain (OpenSpec.upto myersDiffsSpec)) myersDiffsUptoCard

/-- THE SECOND FORM's CARD OF 'variorumlaw16.MyersApplies'. -/
def myersAppliesUptoCard : Claim7 := { stood := { row := myersAppliesUptoRow, standIns := [], harness := (true, "4be8a800d9b9ad07cb2fe31e0208dcedc1d8016a84649530e88979357ac768b5"), looks := false }, kinds := [], alts := [], laidByText := true, laidKinds := [.data, .pinned], laidTests := true, laidLooks := .later }
def MyersAppliesUptoCardSaid : Prop := Claim7.holds Tryd.pinned (.plain (OpenSpec.upto myersAppliesSpec)) myersAppliesUptoCard

/-- THE SECOND FORM's CARD OF 'variorumlaw16.MyersBack'. -/
def myersBackUptoCard : Claim7 := { stood := { row := myersBackUptoRow, standIns := [], harness := (true, "4be8a800d9b9ad07cb2fe31e0208dcedc1d8016a84649530e88979357ac768b5"), looks := false }, kinds := [], alts := [], laidByText := true, laidKinds := [.data, .pinned], laidTests := true, laidLooks := .later }
def MyersBackUptoCardSaid : Prop := Claim7.holds Tryd.pinned (.plain (OpenSpec.upto myersBackSpec)) myersBackUptoCard

/-- THE SECOND FORM's CARD OF 'variorumlaw16.MyersLeast'. -/
def myersLeastUptoCard : Claim7 := { stood := { row := myersLeastUptoRow, standIns := [], harness := (true, "4be8a800d9b9ad07cb2fe31e0208dcedc1d8016a84649530e88979357ac768b5"), looks := false }, kinds := [], alts := [], laidByText := true, laidKinds := [.data, .pinned], laidTests := true, laidLooks := .later }
def MyersLeastUptoCardSaid : Prop := Claim7.holds Tryd.pinned (.plain (OpenSpec.upto myersLeastSpec)) myersLeastUptoCard

/-- THE SECOND FORM's CARD OF 'variorumlaw16.MyersTurned'. -/
def myersTurnedUptoCard : Claim7 := { stood := { row := myersTurnedUptoRow, standIns := [], harness := (true, "4be8a800d9b9ad07cb2fe31e0208dcedc1d8016a84649530e88979357ac768b5"), looks := false }, kinds := [], alts := [], laidByText := true, laidKinds := [.data, .pinned], laidTests := true, laidLooks := .later }
def MyersTurnedUptoCardSaid : Prop := Claim7.holds Tryd.pinned (.plain (OpenSpec.upto myersTurnedSpec)) myersTurnedUptoCard

/-- THE SECOND FORM's CARD OF 'variorumlaw16.MyersAhead'. -/
def myersAheadUptoCard : Claim7 := { stood := { row := myersAheadUptoRow, standIns := [], harness := (true, "4be8a800d9b9ad07cb2fe31e0208dcedc1d8016a84649530e88979357ac768b5"), looks := false }, kinds := [], alts := [], laidByText := true, laidKinds := [.data, .pinned], laidTests := true, laidLooks := .later }
def MyersAheadUptoCardSaid : Prop := Claim7.holds Tryd.pinned (.plain (OpenSpec.upto myersAheadSpec)) myersAheadUptoCard
end Rows
end Go.Proofs.YtbfaaphijgmabaaDoor
