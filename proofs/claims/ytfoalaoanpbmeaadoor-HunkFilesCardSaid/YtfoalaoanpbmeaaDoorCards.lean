/-
  DERIVED. GIVEN WITH THE SEED: THE CARDS: each row of YtfoalaoanpbmeaaDoorRows.lean that lists a variable, with what it lists TIED to the program's text (the seventh form; the later family's looks); each row that meets fmt, with fmt's text TOLD by the authors' own Lean function (tested against real Go, not proved from fmt's source: count such statements apart). THE CARD IS WHAT COUNTS. Prove the row's statement (the work); the ties are given (YtfoalaoanpbmeaaDoorTie.lean); close each card by the builder's one call (the guide's Derived/Test/ToyasCard.lean, 'card_holds'). Laid BY PROGRAM, IN A SANDBOX (cutbox-door.mjs). By AI agents, Wed Nov 11 2026. No macro, syntax, notation, axiom, sorry.
-/
import Derived.Test.YtfoalaoanpbmeaaDoorRows
import GoSem.ClaimSeven
namespace Go.Proofs.YtfoalaoanpbmeaaDoor
namespace Rows

/-- THE TIED CARD OF 'variorumlaw23.HunkTells'. -/
def hunkTellsCard : Claim7 := { stood := { row := hunkTellsRow, standIns := [], harness := (true, "e902a64a69bfb802e0570f8628687b66ac36681db9767b35936a0f383e822592"), looks := false }, kinds := [], alts := [], laidByText := true, laidKinds := [.data, .data, .data, .data, .pinned], laidTests := true, laidLooks := .later }
def HunkTellsCardSaid : Prop := Claim7.holds Tryd.pinned (.plain (OpenSpec.ofChange hunkTellsSpec)) hunkTellsCard

/-- THE TIED CARD OF 'variorumlaw23.HunkFiles'. -/
def hunkFilesCard : Claim7 := { stood := { row := hunkFilesRow, standIns := [], harness := (true, "e902a64a69bfb802e0570f8628687b66ac36681db9767b35936a0f383e822592"), looks := false }, kinds := [], alts := [], laidByText := true, laidKinds := [.data, .data, .data, .data, .pinned], laidTests := true, laidLooks := .later }
def HunkFilesCardSaid : Prop := Claim7.holds Tryd.pinned (.plain (OpenSpec.ofChange hunkFilesSpec)) hunkFilesCard

/-- THE TIED CARD OF 'variorumlaw23.HunkBack'. -/
def hunkBackCard : Claim7 := { stood := { row := hunkBackRow, standIns := [], harness := (true, "e902a64a69bfb802e0570f8628687b66ac36681db9767b35936a0f383e822592"), looks := false }, kinds := [], alts := [], laidByText := true, laidKinds := [.data, .data, .data, .data, .pinned], laidTests := true, laidLooks := .later }
def HunkBackCardSaid : Prop := Claim7.holds Tryd.pinned (.plain (OpenSpec.ofChange hunkBackSpec)) hunkBackCard

/-- THE TIED CARD OF 'variorumlaw23.HunkLines'. -/
def hunkLinesCard : Claim7 := { stood := { row := hunkLinesRow, standIns := [], harness := (true, "e902a64a69bfb802e0570f8628687b66ac36681db9767b35936a0f383e822592"), looks := false }, kinds := [], alts := [], laidByText := true, laidKinds := [.data, .data, .data, .data, .pinned], laidTests := true, laidLooks := .later }
def HunkLinesCardSaid : Prop := Claim7.holds Tryd.pinned (.plain (OpenSpec.ofChange hunkLinesSpec)) hunkLinesCard

/-- THE TIED CARD OF 'variorumlaw23.HunkApart'. -/
def hunkApartCard : Claim7 := { stood := { row := hunkApartRow, standIns := [], harness := (true, "e902a64a69bfb802e0570f8628687b66ac36681db9767b35936a0f383e822592"), looks := false }, kinds := [], alts := [], laidByText := true, laidKinds := [.data, .data, .data, .data, .pinned], laidTests := true, laidLooks := .later }
def HunkApartCardSaid : Prop := Claim7.holds Tryd.pinned (.plain (OpenSpec.ofChange hunkApartSpec)) hunkApartCard

/-- THE SECOND FORM's CARD OF 'variorumlaw23.HunkTells'. -/
def hunkTellsUptoCard : Claim7 := { stood := { row := hunkTellsUptoRow, standIns := [], harness := (true, "e902a64a69bfb802e0570f8628687b66ac36681db9767b35936a0f383e822592"), looks := false }, kinds := [], alts := [], laidByText := true, laidKinds := [.data, .data, .data, .data, .pinned], laidTests := true, laidLooks := .later }
def HunkTellsUptoCardSaid : Prop := Claim7.holds Tryd.pinned (.plain (OpenSpec.upto hunkTellsSpec)) hunkTellsUptoCard

/-- THE SECOND FORM's CARD OF 'variorumlaw23.HunkFiles'. -/
def hunkFilesUptoCard : Claim7 := { stood := { row := hunkFilesUptoRow, standIns := [], harness := (true, "e902a64a69bfb802e0570f8628687b66ac36681db9767b35936a0f383e822592"), looks := false }, kinds := [], alts := [], laidByText := true, laidKinds := [.data, .data, .data, .data, .pinned], laidTests := true, laidLooks := .later }
def HunkFilesUptoCardSaid : Prop := Claim7.holds Tryd.pinned (.plain (OpenSpec.upto hunkFilesSpec)) hunkFilesUptoCard

/-- THE SECOND FORM's CARD OF 'variorumlaw23.HunkBack'. -/
def hunkBackUptoCard : Claim7 := { stood := { row := hunkBackUptoRow, standIns := [], harness := (true, "e902a64a69bfb802e0570f8628687b66ac36681db9767b35936a0f383e822592"), looks := false }, kinds := [], alts := [], laidByText := true, laidKinds := [.data, .data, .data, .data, .pinned], laidTests := true, laidLooks := .later }
def HunkBackUptoCardSaid : Prop := Claim7.holds Tryd.pinned (.plain (OpenSpec.upto hunkBackSpec)) hunkBackUptoCard

/-- THE SECOND FORM's CARD OF 'variorumlaw23.HunkLines'. -/
def hunkLinesUptoCard : Claim7 := { stood := { row := hunkLinesUptoRow, standIns := [], harness := (true, "e902a64a69bfb802e0570f8628687b66ac36681db9767b35936a0f383e822592"), looks := false }, kinds := [], alts := [], laidByText := true, laidKinds := [.data, .data, .data, .data, .pinned], laidTests := true, laidLooks := .later }
def HunkLinesUptoCardSaid : Prop := Claim7.holds Tryd.pinned (.plain (OpenSpec.upto hunkLinesSpec)) hunkLinesUptoCard

/-- THE SECOND FORM's CARD OF 'variorumlaw23.HunkApart'. -/
def hunkApartUptoCard : Claim7 := { stood := { row := hunkApartUptoRow, standIns := [], harness := (true, "e902a64a69bfb802e0570f8628687b66ac36681db9767b35936a0f383e822592"), looks := false }, kinds := [], alts := [], laidByText := true, laidKinds := [.data, .data, .data, .data, .pinned], laidTests := true, laidLooks := .later }
def HunkApartUptoCardSaid : Prop := Claim7.holds Tryd.pinned (.plain (OpenSpec.upto hunkApartSpec)) hunkApartUptoCard
end Rows
end Go.Proofs.YtfoalaoanpbmeaaDoor
