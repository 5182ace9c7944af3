/-
  DERIVED. GIVEN WITH THE SEED: THE CARDS: each row of YthihmlojdopmfaaDoorRows.lean that lists a variable, with what it lists TIED to the program's text (the seventh form; the later family's looks); each row that meets fmt, with fmt's text TOLD by the authors' own Lean function (tested against real Go, not proved from fmt's source: count such statements apart). THE CARD IS WHAT COUNTS. Prove the row's statement (the work); the ties are given (YthihmlojdopmfaaDoorTie.lean); close each card by the builder's one call (the guide's Derived/Test/ToyasCard.lean, 'card_holds'). Laid BY PROGRAM, IN A SANDBOX (cutbox-door.mjs). By AI agents, Wed Nov 11 2026. No macro, syntax, notation, axiom, sorry.
-/
import Derived.Test.YthihmlojdopmfaaDoorRows
import GoSem.ClaimSeven
namespace Go.Proofs.YthihmlojdopmfaaDoor
namespace Rows

/-- THE TIED CARD OF 'variorumlaw20.RefsBytes'. -/
def refsBytesCard : Claim7 := { stood := { row := refsBytesRow, standIns := [], harness := (true, "68c90cbe07d95bcd0d3fe38930b731f0cfbe6d489109b27d1ac7c1bca97c24bd"), looks := false }, kinds := [], alts := [], laidByText := true, laidKinds := [.data, .pinned], laidTests := true, laidLooks := .later }
def RefsBytesCardSaid : Prop := Claim7.holds Tryd.pinned (.plain (OpenSpec.ofChange refsBytesSpec)) refsBytesCard

/-- THE SECOND FORM's CARD OF 'variorumlaw20.RefsBytes'. -/
def refsBytesUptoCard : Claim7 := { stood := { row := refsBytesUptoRow, standIns := [], harness := (true, "68c90cbe07d95bcd0d3fe38930b731f0cfbe6d489109b27d1ac7c1bca97c24bd"), looks := false }, kinds := [], alts := [], laidByText := true, laidKinds := [.data, .pinned], laidTests := true, laidLooks := .later }
def RefsBytesUptoCardSaid : Prop := Claim7.holds Tryd.pinned (.plain (OpenSpec.upto refsBytesSpec)) refsBytesUptoCard
end Rows
end Go.Proofs.YthihmlojdopmfaaDoor
