/-
  DERIVED. GIVEN WITH THE SEED: THE CARDS: each row of YtejooogfnnidcaaDoorRows.lean that lists a variable, with what it lists TIED to the program's text (the seventh form; the later family's looks); each row that meets fmt, with fmt's text TOLD by the authors' own Lean function (tested against real Go, not proved from fmt's source: count such statements apart). THE CARD IS WHAT COUNTS. Prove the row's statement (the work); the ties are given (YtejooogfnnidcaaDoorTie.lean); close each card by the builder's one call (the guide's Derived/Test/ToyasCard.lean, 'card_holds'). Laid BY PROGRAM, IN A SANDBOX (cutbox-door.mjs). By AI agents, Wed Nov 11 2026. No macro, syntax, notation, axiom, sorry.
-/
import Derived.Test.YtejooogfnnidcaaDoorRows
import GoSem.ClaimSeven
namespace Go.Proofs.YtejooogfnnidcaaDoor
namespace Rows

/-- THE TIED CARD OF 'variorumlaw20.RefsLook'. -/
def refsLookCard : Claim7 := { stood := { row := refsLookRow, standIns := [], harness := (true, "48d30d7d591eb60a85c951e6c7d8fee43af54fcab4dd0e36748105dcb13e83d1"), looks := false }, kinds := [], alts := [], laidByText := true, laidKinds := [.data, .pinned], laidTests := true, laidLooks := .later }
def RefsLookCardSaid : Prop := Claim7.holds Tryd.pinned (.plain (OpenSpec.ofChange refsLookSpec)) refsLookCard

/-- THE TIED CARD OF 'variorumlaw20.RefsWhole'. -/
def refsWholeCard : Claim7 := { stood := { row := refsWholeRow, standIns := [], harness := (true, "48d30d7d591eb60a85c951e6c7d8fee43af54fcab4dd0e36748105dcb13e83d1"), looks := false }, kinds := [], alts := [], laidByText := true, laidKinds := [.data, .pinned], laidTests := true, laidLooks := .later }
def RefsWholeCardSaid : Prop := Claim7.holds Tryd.pinned (.plain (OpenSpec.ofChange refsWholeSpec)) refsWholeCard

/-- THE TIED CARD OF 'variorumlaw20.RefsKept'. -/
def refsKeptCard : Claim7 := { stood := { row := refsKeptRow, standIns := [], harness := (true, "48d30d7d591eb60a85c951e6c7d8fee43af54fcab4dd0e36748105dcb13e83d1"), looks := false }, kinds := [], alts := [], laidByText := true, laidKinds := [.data, .pinned], laidTests := true, laidLooks := .later }
def RefsKeptCardSaid : Prop := Claim7.holds Tryd.pinned (.plain (OpenSpec.ofChange refsKeptSpec)) refsKeptCard

/-- THE TIED CARD OF 'variorumlaw20.RefsMoved'. -/
def refsMovedCard : Claim7 := { stood := { row := refsMovedRow, standIns := [], harness := (true, "48d30d7d591eb60a85c951e6c7d8fee43af54fcab4dd0e36748105dcb13e83d1"), looks := false }, kinds := [], alts := [], laidByText := true, laidKinds := [.data, .pinned], laidTests := true, laidLooks := .later }
def RefsMovedCardSaid : Prop := Claim7.holds Tryd.pinned (.plain (OpenSpec.ofChange refsMovedSpec)) refsMovedCard

/-- THE SECOND FORM's CARD OF 'variorumlaw20.RefsLook'. -/
def refsLookUptoCard : Claim7 := { stood := { row := refsLookUptoRow, standIns := [], harness := (true, "48d30d7d591eb60a85c951e6c7d8fee43af54fcab4dd0e36748105dcb13e83d1"), looks := false }, kinds := [], alts := [], laidByText := true, laidKinds := [.data, .pinned], laidTests := true, laidLooks := .later }
def RefsLookUptoCardSaid : Prop := Claim7.holds Tryd.pinned (.plain (OpenSpec.upto refsLookSpec)) refsLookUptoCard

/-- THE SECOND FORM's CARD OF 'variorumlaw20.RefsWhole'. -/
def refsWholeUptoCard : Claim7 := { stood := { row := refsWholeUptoRow, standIns := [], harness := (true, "48d30d7d591eb60a85c951e6c7d8fee43af54fcab4dd0e36748105dcb13e83d1"), looks := false }, kinds := [], alts := [], laidByText := true, laidKinds := [.data, .pinned], laidTests := true, laidLooks := .later }
def RefsWholeUptoCardSaid : Prop := Claim7.holds Tryd.pinned (.plain (OpenSpec.upto refsWholeSpec)) refsWholeUptoCard

/-- THE SECOND FORM's CARD OF 'variorumlaw20.RefsKept'. -/
def refsKeptUptoCard : Claim7 := { stood := { row := refsKeptUptoRow, standIns := [], harness := (true, "48d30d7d591eb60a85c951e6c7d8fee43af54fcab4dd0e36748105dcb13e83d1"), looks := false }, kinds := [], alts := [], laidByText := true, laidKinds := [.data, .pinned], laidTests := true, laidLooks := .later }
def RefsKeptUptoCardSaid : Prop := Claim7.holds Tryd.pinned (.plain (OpenSpec.upto refsKeptSpec)) refsKeptUptoCard

/-- THE SECOND FORM's CARD OF 'variorumlaw20.RefsMoved'. -/
def refsMovedUptoCard : Claim7 := { stood := { row := refsMovedUptoRow, standIns := [], harness := (true, "48d30d7d591eb60a85c951e6c7d8fee43af54fcab4dd0e36748105dcb13e83d1"), looks := false }, kinds := [], alts := [], laidByText := true, laidKinds := [.data, .pinned], laidTests := true, laidLooks := .later }
def RefsMovedUptoCardSaid : Prop := Claim7.holds Tryd.pinned (.plain (OpenSpec.upto refsMovedSpec)) refsMovedUptoCard
end Rows
end Go.Proofs.YtejooogfnnidcaaDoor
