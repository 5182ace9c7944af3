/-
  DERIVED. GIVEN WITH THE SEED: THE CARDS: each row of YtkhcoefcifaaeaaDoorRows.lean that lists a variable, with what it lists TIED to the program's text (the seventh form; the later family's looks); each row that meets fmt, with fmt's text TOLD by the authors' own Lean function (tested against real Go, not proved from fmt's source: count such statements apart). THE CARD IS WHAT COUNTS. Prove the row's statement (the work); the ties are given (YtkhcoefcifaaeaaDoorTie.lean); close each card by the builder's one call (the guide's Derived/Test/ToyasCard.lean, 'card_holds'). Laid BY PROGRAM, IN A SANDBOX (cutbox-door.mjs). By AI agents, Wed Nov 11 2026. No macro, syntax, notation, axiom, sorry.
-/
import Derived.Test.YtkhcoefcifaaeaaDoorRows
import GoSem.ClaimSeven
namespace Go.Proofs.YtkhcoefcifaaeaaDoor
namespace Rows

/-- THE TIED CARD OF 'variorumlaw20.RefsLook'. -/
def refsLookCard : Claim7 := { stood := { row := refsLookRow, standIns := [], harness := (true, "7f8a9d2b237bea5696a8ba518caefca3952fb1260a9baf288411839df196d266"), looks := false }, kinds := [], alts := [], laidByText := true, laidKinds := [.data, .pinned], laidTests := true, laidLooks := .later }
def RefsLookCardSaid : Prop := Claim7.holds Tryd.pinned (.plain (OpenSpec.ofChange refsLookSpec)) refsLookCard

/-- THE TIED CARD OF 'variorumlaw20.RefsKept'. -/
def refsKeptCard : Claim7 := { stood := { row := refsKeptRow, standIns := [], harness := (true, "7f8a9d2b237bea5696a8ba518caefca3952fb1260a9baf288411839df196d266"), looks := false }, kinds := [], alts := [], laidByText := true, laidKinds := [.data, .pinned], laidTests := true, laidLooks := .later }
def RefsKeptCardSaid : Prop := Claim7.holds Tryd.pinned (.plain (OpenSpec.ofChange refsKeptSpec)) refsKeptCard

/-- THE SECOND FORM's CARD OF 'variorumlaw20.RefsLook'. -/
def refsLookUptoCard : Claim7 := { stood := { row := refsLookUptoRow, standIns := [], harness := (true, "7f8a9d2b237bea5696a8ba518caefca3952fb1260a9baf288411839df196d266"), looks := false }, kinds := [], alts := [], laidByText := true, laidKinds := [.data, .pinned], laidTests := true, laidLooks := .later }
def RefsLookUptoCardSaid : Prop := Claim7.holds Tryd.pinned (.plain (OpenSpec.upto refsLookSpec)) refsLookUptoCard

/-- THE SECOND FORM's CARD OF 'variorumlaw20.RefsKept'. -/
def refsKeptUptoCard : Claim7 := { stood := { row := refsKeptUptoRow, standIns := [], harness := (true, "7f8a9d2b237bea5696a8ba518caefca3952fb1260a9baf288411839df196d266"), looks := false }, kinds := [], alts := [], laidByText := true, laidKinds := [.data, .pinned], laidTests := true, laidLooks := .later }
def RefsKeptUptoCardSaid : Prop := Claim7.holds Tryd.pinned (.plain (OpenSpec.upto refsKeptSpec)) refsKeptUptoCard
end Rows
end Go.Proofs.YtkhcoefcifaaeaaDoor
