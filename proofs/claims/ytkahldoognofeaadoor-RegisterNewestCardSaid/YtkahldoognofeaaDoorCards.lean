/-
  DERIVED. GIVEN WITH THE SEED: THE CARDS: each row of YtkahldoognofeaaDoorRows.lean that lists a variable, with what it lists TIED to the program's text (the seventh form; the later family's looks); each row that meets fmt, with fmt's text TOLD by the authors' own Lean function (tested against real Go, not proved from fmt's source: count such statements apart). THE CARD IS WHAT COUNTS. Prove the row's statement (the work); the ties are given (YtkahldoognofeaaDoorTie.lean); close each card by the builder's one call (the guide's Derived/Test/ToyasCard.lean, 'card_holds'). Laid BY PROGRAM, IN A SANDBOX (cutbox-door.mjs). By AI agents, Wed Nov 11 2026. No macro, syntax, notation, axiom, sorry.
-/
import Derived.Test.YtkahldoognofeaaDoorRows
import GoSem.ClaimSeven
namespace Go.Proofs.YtkahldoognofeaaDoor
namespace Rows

/-- THE TIED CARD OF 'variorumlaw14.RegisterApart'. -/
def registerApartCard : Claim7 := { stood := { row := registerApartRow, standIns := [], harness := (true, "68402acb4f56d6a6bde21e9a9eb0626b87fec7efa5cc267d49f0985a1e00e09a"), looks := true }, kinds := [], alts := [], laidByText := true, laidKinds := [.data, .data, .data, .data, .sentinel, .sentinel, .pinned], laidTests := true, laidLooks := .later }
def RegisterApartCardSaid : Prop := Claim7.holds Tryd.pinned (.plain (OpenSpec.ofChange registerApartSpec)) registerApartCard

/-- THE TIED CARD OF 'variorumlaw14.RegisterTurned'. -/
def registerTurnedCard : Claim7 := { stood := { row := registerTurnedRow, standIns := [], harness := (true, "68402acb4f56d6a6bde21e9a9eb0626b87fec7efa5cc267d49f0985a1e00e09a"), looks := true }, kinds := [], alts := [], laidByText := true, laidKinds := [.data, .data, .data, .data, .sentinel, .sentinel, .pinned], laidTests := true, laidLooks := .later }
def RegisterTurnedCardSaid : Prop := Claim7.holds Tryd.pinned (.plain (OpenSpec.ofChange registerTurnedSpec)) registerTurnedCard

/-- THE TIED CARD OF 'variorumlaw14.RegisterNewest'. -/
def registerNewestCard : Claim7 := { stood := { row := registerNewestRow, standIns := [], harness := (true, "68402acb4f56d6a6bde21e9a9eb0626b87fec7efa5cc267d49f0985a1e00e09a"), looks := true }, kinds := [], alts := [], laidByText := true, laidKinds := [.data, .data, .data, .data, .sentinel, .sentinel, .pinned], laidTests := true, laidLooks := .later }
def RegisterNewestCardSaid : Prop := Claim7.holds Tryd.pinned (.plain (OpenSpec.ofChange registerNewestSpec)) registerNewestCard

/-- THE SECOND FORM's CARD OF 'variorumlaw14.RegisterApart'. -/
def registerApartUptoCard : Claim7 := { stood := { row := registerApartUptoRow, standIns := [], harness := (true, "68402acb4f56d6a6bde21e9a9eb0626b87fec7efa5cc267d49f0985a1e00e09a"), looks := true }, kinds := [], alts := [], laidByText := true, laidKinds := [.data, .data, .data, .data, .sentinel, .sentinel, .pinned], laidTests := true, laidLooks := .later }
def RegisterApartUptoCardSaid : Prop := Claim7.holds Tryd.pinned (.plain (OpenSpec.upto registerApartSpec)) registerApartUptoCard

/-- THE SECOND FORM's CARD OF 'variorumlaw14.RegisterTurned'. -/
def registerTurnedUptoCard : Claim7 := { stood := { row := registerTurnedUptoRow, standIns := [], harness := (true, "68402acb4f56d6a6bde21e9a9eb0626b87fec7efa5cc267d49f0985a1e00e09a"), looks := true }, kinds := [], alts := [], laidByText := true, laidKinds := [.data, .data, .data, .data, .sentinel, .sentinel, .pinned], laidTests := true, laidLooks := .later }
def RegisterTurnedUptoCardSaid : Prop := Claim7.holds Tryd.pinned (.plain (OpenSpec.upto registerTurnedSpec)) registerTurnedUptoCard

/-- THE SECOND FORM's CARD OF 'variorumlaw14.RegisterNewest'. -/
def registerNewestUptoCard : Claim7 := { stood := { row := registerNewestUptoRow, standIns := [], harness := (true, "68402acb4f56d6a6bde21e9a9eb0626b87fec7efa5cc267d49f0985a1e00e09a"), looks := true }, kinds := [], alts := [], laidByText := true, laidKinds := [.data, .data, .data, .data, .sentinel, .sentinel, .pinned], laidTests := true, laidLooks := .later }
def RegisterNewestUptoCardSaid : Prop := Claim7.holds Tryd.pinned (.plain (OpenSpec.upto registerNewestSpec)) registerNewestUptoCard
end Rows
end Go.Proofs.YtkahldoognofeaaDoor
