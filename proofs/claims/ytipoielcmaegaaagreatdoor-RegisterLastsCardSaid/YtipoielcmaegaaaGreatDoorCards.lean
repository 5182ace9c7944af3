/-
  DERIVED. GIVEN WITH THE SEED: THE CARDS: each row of YtipoielcmaegaaaGreatDoorRows.lean that lists a variable, with what it lists TIED to the program's text (the seventh form; the later family's looks); each row that meets fmt, with fmt's text TOLD by the authors' own Lean function (tested against real Go, not proved from fmt's source: count such statements apart). THE CARD IS WHAT COUNTS. Prove the row's statement (the work); the ties are given (YtipoielcmaegaaaGreatDoorTie.lean); close each card by the builder's one call (the guide's Derived/Test/ToyasCard.lean, 'card_holds'). Laid BY PROGRAM, IN A SANDBOX (cutbox-door.mjs). By AI agents, Wed Nov 11 2026. No macro, syntax, notation, axiom, sorry.
-/
import Derived.Test.YtipoielcmaegaaaGreatDoorRows
import GoSem.ClaimSeven
namespace Go.Proofs.YtipoielcmaegaaaGreatDoor
namespace Rows

/-- THE TIED CARD OF 'variorumlaw14.RegisterPaths'. -/
def registerPathsCard : Claim7 := { stood := { row := registerPathsRow, standIns := [], harness := (true, "fb761efb3733bbb7a78908ebdcf89bc936e27e624f586a7a03a88b30cd691e31"), looks := true }, kinds := [], alts := [], laidByText := true, laidKinds := [.data, .data, .data, .data, .sentinel, .sentinel, .pinned], laidTests := true, laidLooks := .later }
def RegisterPathsCardSaid : Prop := Claim7.holds Tryz.pinned (.plain (OpenSpec.ofChange registerPathsSpec)) registerPathsCard

/-- THE TIED CARD OF 'variorumlaw14.RegisterLasts'. -/
def registerLastsCard : Claim7 := { stood := { row := registerLastsRow, standIns := [], harness := (true, "fb761efb3733bbb7a78908ebdcf89bc936e27e624f586a7a03a88b30cd691e31"), looks := true }, kinds := [], alts := [], laidByText := true, laidKinds := [.data, .data, .data, .data, .sentinel, .sentinel, .pinned], laidTests := true, laidLooks := .later }
def RegisterLastsCardSaid : Prop := Claim7.holds Tryz.pinned (.plain (OpenSpec.ofChange registerLastsSpec)) registerLastsCard

/-- THE SECOND FORM's CARD OF 'variorumlaw14.RegisterPaths'. -/
def registerPathsUptoCard : Claim7 := { stood := { row := registerPathsUptoRow, standIns := [], harness := (true, "fb761efb3733bbb7a78908ebdcf89bc936e27e624f586a7a03a88b30cd691e31"), looks := true }, kinds := [], alts := [], laidByText := true, laidKinds := [.data, .data, .data, .data, .sentinel, .sentinel, .pinned], laidTests := true, laidLooks := .later }
def RegisterPathsUptoCardSaid : Prop := Claim7.holds Tryz.pinned (.plain (OpenSpec.upto registerPathsSpec)) registerPathsUptoCard

/-- THE SECOND FORM's CARD OF 'variorumlaw14.RegisterLasts'. -/
def registerLastsUptoCard : Claim7 := { stood := { row := registerLastsUptoRow, standIns := [], harness := (true, "fb761efb3733bbb7a78908ebdcf89bc936e27e624f586a7a03a88b30cd691e31"), looks := true }, kinds := [], alts := [], laidByText := true, laidKinds := [.data, .data, .data, .data, .sentinel, .sentinel, .pinned], laidTests := true, laidLooks := .later }
def RegisterLastsUptoCardSaid : Prop := Claim7.holds Tryz.pinned (.plain (OpenSpec.upto registerLastsSpec)) registerLastsUptoCard
end Rows
end Go.Proofs.YtipoielcmaegaaaGreatDoor
