/-
  NARROWER THAN 'FOR EVERY INPUT', by the rows' own cells (each row's printed sentence says how): MyersMoves: laid · MyersDiffs: laid · MyersApplies: laid · MyersBack: laid · MyersLeast: laid · MyersTurned: laid · MyersAhead: laid.
  DERIVED. THE GIVEN ROWS OF THIS SEAT. 7 by the template 'for every input the law returns true; each argument reads behind the call as it read before'; 0 by the template 'total and deterministic' (their statements: YtbfaaphijgmabaaDoorTotals.lean).
  GIVEN WITH THE SEED: the statements are not yours to turn. If you find one false, say at which input.
  Laid BY PROGRAM, IN A SANDBOX (cutbox-rows.mjs): the forced cells as the released guide's own fill.sh prints them over the translation a2b14643b9896097… (all of the seat's roots in one cut). By AI agents, Wed Nov 11 2026. No macro, syntax, notation, axiom, sorry.
-/
import Derived.Test.YtbfaaphijgmabaaDoorChecked
import GoSem.PinnedTables
import GoSem.Claim
import GoSem.ClaimJoined
import GoSem.ClaimMapViews
import Derived.JoinedTies
import Derived.KernelRfl
namespace Go.Proofs.YtbfaaphijgmabaaDoor
/- THE CELL 'sum', in the pinned program and in every row, IS THE sha256 OF THE DUMP (.gsa) THAT YtbfaaphijgmabaaDoorProg.lean LOADS. Nothing in Lean hashes anything: it is a label: what it is worth is what the hold of that sum in a sandbox is worth. -/
noncomputable def Tryd.pinned : Pinned := { name := "ytbfaaphijgmabaadoor", sum := "a2b14643b9896097a9f0eafb20144b0bb98dd8cbcaffc1aeea55d12d865f4346", checked := Tryd.checked }
namespace Rows
def none {H : Type} : Left H := { results := [], args := [] }

/- WHAT THE LISTED PACKAGE-LEVEL VARIABLES READ AS WHEN THE CALL BEGINS. Each datum BY PROGRAM (the guide's laid-datum.mjs) off the statement by which the dump's own 'gosem.cut.vars' lays the variable. In a bare row this is a premise. The card (YtbfaaphijgmabaaDoorCards.lean) ties it to the program's text. -/
def laid_unicode_utf8_acceptRanges {H : Type} : DataW H := .agg [.agg [.lit (.int .u8 128), .lit (.int .u8 191)], .agg [.lit (.int .u8 160), .lit (.int .u8 191)], .agg [.lit (.int .u8 128), .lit (.int .u8 159)], .agg [.lit (.int .u8 144), .lit (.int .u8 191)], .agg [.lit (.int .u8 128), .lit (.int .u8 143)], .agg [.lit (.int .u8 0), .lit (.int .u8 0)], .agg [.lit (.int .u8 0), .lit (.int .u8 0)], .agg [.lit (.int .u8 0), .lit (.int .u8 0)], .agg [.lit (.int .u8 0), .lit (.int .u8 0)], .agg [.lit (.int .u8 0), .lit (.int .u8 0)], .agg [.lit (.int .u8 0), .lit (.int .u8 0)], .agg [.lit (.int .u8 0), .lit (.int .u8 0)], .agg [.lit (.int .u8 0), .lit (.int .u8 0)], .agg [.lit (.int .u8 0), .lit (.int .u8 0)], .agg [.lit (.int .u8 0), .lit (.int .u8 0)], .agg [.lit (.int .u8 0), .lit (.int .u8 0)]]
/-- One of Go's own tables, pinned by name: the form's constant. -/
def laid_unicode_utf8_first : DataW Unit := Go.Pinned.utf8First

/-- 'variorumlaw16.MyersMoves': WHATEVER THE INPUT: true; the input reads as it did. -/
def myersMovesSpec : ChangeSpec := { name := "myersMoves", fn := fun _ => fun
  | [d1, d2] => { results := [.lit (.bool true)], args := [d1, d2] }
  | _ => none }
def myersMovesRow : OpenClaim := { program := "ytbfaaphijgmabaadoor", sum := "a2b14643b9896097a9f0eafb20144b0bb98dd8cbcaffc1aeea55d12d865f4346", func := "variorum/variorumlaw16.MyersMoves", spec := "myersMoves", inPlace := ["internal/abi.NoEscape"], unfollowed := true, recurses := true, named := ["unicode/utf8.first", "unicode/utf8.acceptRanges"], apart := false, laid := [("unicode/utf8.acceptRanges", laid_unicode_utf8_acceptRanges), ("unicode/utf8.first", laid_unicode_utf8_first)] }
def MyersMovesSaid : Prop := myersMovesRow.holds Tryd.pinned (OpenSpec.ofChange myersMovesSpec)

/-- ITS FALSE NEIGHBOUR: 'it returns false'. Refute it at one input. -/
def myersMovesWrong : ChangeSpec := { name := "myersMoves", fn := fun _ => fun
  | [d1, d2] => { results := [.lit (.bool false)], args := [d1, d2] }
  | _ => none }
def MyersMovesWrongFalsely : Prop := myersMovesRow.holds Tryd.pinned (OpenSpec.ofChange myersMovesWrong)

/-- 'variorumlaw16.MyersDiffs': WHATEVER THE INPUT: true; the input reads as it did. -/
def myersDiffsSpec : ChangeSpec := { name := "myersDiffs", fn := fun _ => fun
  | [d1, d2] => { results := [.lit (.bool true)], args := [d1, d2] }
  | _ => none }
def myersDiffsRow : OpenClaim := { program := "ytbfaaphijgmabaadoor", sum := "a2b14643b9896097a9f0eafb20144b0bb98dd8cbcaffc1aeea55d12d865f4346", func := "variorum/variorumlaw16.MyersDiffs", spec := "myersDiffs", inPlace := ["internal/abi.NoEscape"], unfollowed := true, recurses := true, named := ["unicode/utf8.first", "unicode/utf8.acceptRanges"], apart := false, laid := [("unicode/utf8.acceptRanges", laid_unicode_utf8_acceptRanges), ("unicode/utf8.first", laid_unicode_utf8_first)] }
def MyersDiffsSaid : Prop := myersDiffsRow.holds Tryd.pinned (OpenSpec.ofChange myersDiffsSpec)

/-- ITS FALSE NEIGHBOUR: 'it returns false'. Refute it at one input. -/
def myersDiffsWrong : ChangeSpec := { name := "myersDiffs", fn := fun _ => fun
  | [d1, d2] => { results := [.lit (.bool false)], args := [d1, d2] }
  | _ => none }
def MyersDiffsWrongFalsely : Prop := myersDiffsRow.holds Tryd.pinned (OpenSpec.ofChange myersDiffsWrong)

/-- 'variorumlaw16.MyersApplies': WHATEVER THE INPUT: true; the input reads as it did. -/
def myersAppliesSpec : ChangeSpec := { name := "myersApplies", fn := fun _ => fun
  | [d1, d2] => { results := [.lit (.bool true)], args := [d1, d2] }
  | _ => none }
def myersAppliesRow : OpenClaim := { program := "ytbfaaphijgmabaadoor", sum := "a2b14643b9896097a9f0eafb20144b0bb98dd8cbcaffc1aeea55d12d865f4346", func := "variorum/variorumlaw16.MyersApplies", spec := "myersApplies", inPlace := ["internal/abi.NoEscape"], unfollowed := true, recurses := true, named := ["unicode/utf8.first", "unicode/utf8.acceptRanges"], apart := false, laid := [("unicode/utf8.acceptRanges", laid_unicode_utf8_acceptRanges), ("unicode/utf8.first", laid_unicode_utf8_first)] }
def MyersAppliesSaid : Prop := myersAppliesRow.holds Tryd.pinned (OpenSpec.ofChange myersAppliesSpec)

/-- ITS FALSE NEIGHBOUR: 'it returns false'. Refute it at one input. -/
def myersAppliesWrong : ChangeSpec := { name := "myersApplies", fn := fun _ => fun
  | [d1, d2] => { results := [.lit (.bool false)], args := [d1, d2] }
  | _ => none }
def MyersAppliesWrongFalsely : Prop := myersAppliesRow.holds Tryd.pinned (OpenSpec.ofChange myersAppliesWrong)

/-- 'variorumlaw16.MyersBack': WHATEVER THE INPUT: true; the input reads as it did. -/
def myersBackSpec : ChangeSpec := { name := "myersBack", fn := fun _ => fun
  | [d1, d2] => { results := [.lit (.bool true)], args := [d1, d2] }
  | _ => none }
def myersBackRow : OpenClaim := { program := "ytbfaaphijgmabaadoor", sum := "a2b14643b9896097a9f0eafb20144b0bb98dd8cbcaffc1aeea55d12d865f4346", func := "variorum/variorumlaw16.MyersBack", spec := "myersBack", inPlace := ["internal/abi.NoEscape"], unfollowed := true, recurses := true, named := ["unicode/utf8.first", "unicode/utf8.acceptRanges"], apart := false, laid := [("unicode/utf8.acceptRanges", laid_unicode_utf8_acceptRanges), ("unicode/utf8.first", laid_unicode_utf8_first)] }
def MyersBackSaid : Prop := myersBackRow.holds Tryd.pinned (OpenSpec.ofChange myersBackSpec)

/-- ITS FALSE NEIGHBOUR: 'it returns false'. Refute it at one input. -/
def myersBackWrong : ChangeSpec := { name := "myersBack", fn := fun _ => fun
  | [d1, d2] => { results := [.lit (.bool false)], args := [d1, d2] }
  | _ => none }
def MyersBackWrongFalsely : Prop := myersBackRow.holds Tryd.pinned (OpenSpec.ofChange myersBackWrong)

/-- 'variorumlaw16.MyersLeast': WHATEVER THE INPUT: true; the input reads as it did. -/
def myersLeastSpec : ChangeSpec := { name := "myersLeast", fn := fun _ => fun
  | [d1, d2] => { results := [.lit (.bool true)], args := [d1, d2] }
  | _ => none }
def myersLeastRow : OpenClaim := { program := "ytbfaaphijgmabaadoor", sum := "a2b14643b9896097a9f0eafb20144b0bb98dd8cbcaffc1aeea55d12d865f4346", func := "variorum/variorumlaw16.MyersLeast", spec := "myersLeast", inPlace := ["internal/abi.NoEscape"], unfollowed := true, recurses := true, named := ["unicode/utf8.first", "unicode/utf8.acceptRanges"], apart := false, laid := [("unicode/utf8.acceptRanges", laid_unicode_utf8_acceptRanges), ("unicode/utf8.first", laid_unicode_utf8_first)] }
def MyersLeastSaid : Prop := myersLeastRow.holds Tryd.pinned (OpenSpec.ofChange myersLeastSpec)

/-- ITS FALSE NEIGHBOUR: 'it returns false'. Refute it at one input. -/
def myersLeastWrong : ChangeSpec := { name := "myersLeast", fn := fun _ => fun
  | [d1, d2] => { results := [.lit (.bool false)], args := [d1, d2] }
  | _ => none }
def MyersLeastWrongFalsely : Prop := myersLeastRow.holds Tryd.pinned (OpenSpec.ofChange myersLeastWrong)

/-- 'variorumlaw16.MyersTurned': WHATEVER THE INPUT: true; the input reads as it did. -/
def myersTurnedSpec : ChangeSpec := { name := "myersTurned", fn := fun _ => fun
  | [d1, d2] => { results := [.lit (.bool true)], args := [d1, d2] }
  | _ => none }
def myersTurnedRow : OpenClaim := { program := "ytbfaaphijgmabaadoor", sum := "a2b14643b9896097a9f0eafb20144b0bb98dd8cbcaffc1aeea55d12d865f4346", func := "variorum/variorumlaw16.MyersTurned", spec := "myersTurned", inPlace := ["internal/abi.NoEscape"], unfollowed := true, recurses := true, named := ["unicode/utf8.first", "unicode/utf8.acceptRanges"], apart := false, laid := [("unicode/utf8.acceptRanges", laid_unicode_utf8_acceptRanges), ("unicode/utf8.first", laid_unicode_utf8_first)] }
def MyersTurnedSaid : Prop := myersTurnedRow.holds Tryd.pinned (OpenSpec.ofChange myersTurnedSpec)

/-- ITS FALSE NEIGHBOUR: 'it returns false'. Refute it at one input. -/
def myersTurnedWrong : ChangeSpec := { name := "myersTurned", fn := fun _ => fun
  | [d1, d2] => { results := [.lit (.bool false)], args := [d1, d2] }
  | _ => none }
def MyersTurnedWrongFalsely : Prop := myersTurnedRow.holds Tryd.pinned (OpenSpec.ofChange myersTurnedWrong)

/-- 'variorumlaw16.MyersAhead': WHATEVER THE INPUT: true; the input reads as it did. -/
def myersAheadSpec : ChangeSpec := { name := "myersAhead", fn := fun _ => fun
  | [d1, d2, d3] => { results := [.lit (.bool true)], args := [d1, d2, d3] }
  | _ => none }
def myersAheadRow : OpenClaim := { program := "ytbfaaphijgmabaadoor", sum := "a2b14643b9896097a9f0eafb20144b0bb98dd8cbcaffc1aeea55d12d865f4346", func := "variorum/variorumlaw16.MyersAhead", spec := "myersAhead", inPlace := ["internal/abi.NoEscape"], unfollowed := true, recurses := true, named := ["unicode/utf8.first", "unicode/utf8.acceptRanges"], apart := false, laid := [("unicode/utf8.acceptRanges", laid_unicode_utf8_acceptRanges), ("unicode/utf8.first", laid_unicode_utf8_first)] }
def MyersAheadSaid : Prop := myersAheadRow.holds Tryd.pinned (OpenSpec.ofChange myersAheadSpec)

/-- ITS FALSE NEIGHBOUR: 'it returns false'. Refute it at one input. -/
def myersAheadWrong : ChangeSpec := { name := "myersAhead", fn := fun _ => fun
  | [d1, d2, d3] => { results := [.lit (.bool false)], args := [d1, d2, d3] }
  | _ => none }
def MyersAheadWrongFalsely : Prop := myersAheadRow.holds Tryd.pinned (OpenSpec.ofChange myersAheadWrong)

/- THE SECOND FORM. 'bulk': how many values and letters a reading holds, each counted each time it is reached (what is shared counts as often as it is met; a slice's spare places count too). A statement '..UptoSaid' is the law's where the arguments, and the package variables that the reading takes, are together of bulk at most 1048576: NARROWER than '..Said'. Prove '..Said' where nothing that the law and all that it calls make is longer than what came in: it says more and counts as full. Else prove '..UptoSaid'. A law counts once. -/
mutual
def uptoBulk {H : Type} : DataW H → Nat
  | .lit (.string bytes) => bytes.length + 1
  | .lit _ => 1
  | .nil => 1
  | .ptr d => uptoBulk d + 1
  | .slice elems spare => uptoBulkAll elems + uptoBulkAll spare + 1
  | .agg parts => uptoBulkAll parts + 1
  | .iface _ d => uptoBulk d + 1
  | .map entries => uptoBulkEntries entries + 1
  | .held _ => 1
def uptoBulkAll {H : Type} : List (DataW H) → Nat
  | [] => 0
  | d :: r => uptoBulk d + uptoBulkAll r
def uptoBulkEntries {H : Type} : List (Lit × DataW H) → Nat
  | [] => 0
  | x :: r => uptoBulkEntry x + uptoBulkEntries r
def uptoBulkEntry {H : Type} : Lit × DataW H → Nat
  | (.string bytes, d) => bytes.length + uptoBulk d + 1
  | (_, d) => uptoBulk d + 1
 end
def uptoSmall : (H : Type) → List (DataW H) → Bool := fun _ ds => decide (uptoBulkAll ds ≤ 1048576)
def OpenSpec.upto (s : _root_.Go.ChangeSpec) : _root_.Go.OpenSpec := { _root_.Go.OpenSpec.ofChange s with cond := some uptoSmall }

/-- 'variorumlaw16.MyersMoves', WHERE WHAT IT READS IS OF BULK AT MOST 1048576: true; the input reads as it did. -/
def myersMovesUptoRow : OpenClaim := { program := "ytbfaaphijgmabaadoor", sum := "a2b14643b9896097a9f0eafb20144b0bb98dd8cbcaffc1aeea55d12d865f4346", func := "variorum/variorumlaw16.MyersMoves", spec := "myersMoves", inPlace := ["internal/abi.NoEscape"], unfollowed := true, recurses := true, named := ["unicode/utf8.first", "unicode/utf8.acceptRanges"], apart := false, laid := [("unicode/utf8.acceptRanges", laid_unicode_utf8_acceptRanges), ("unicode/utf8.first", laid_unicode_utf8_first)], narrowed := true }
def MyersMovesUptoSaid : Prop := myersMovesUptoRow.holds Tryd.pinned (OpenSpec.upto myersMovesSpec)

/-- 'variorumlaw16.MyersDiffs', WHERE WHAT IT READS IS OF BULK AT MOST 1048576: true; the input reads as it did. -/
def myersDiffsUptoRow : OpenClaim := { program := "ytbfaaphijgmabaadoor", sum := "a2b14643b9896097a9f0eafb20144b0bb98dd8cbcaffc1aeea55d12d865f4346", func := "variorum/variorumlaw16.MyersDiffs", spec := "myersDiffs", inPlace := ["internal/abi.NoEscape"], unfollowed := true, recurses := true, named := ["unicode/utf8.first", "unicode/utf8.acceptRanges"], apart := false, laid := [("unicode/utf8.acceptRanges", laid_unicode_utf8_acceptRanges), ("unicode/utf8.first", laid_unicode_utf8_first)], narrowed := true }
def MyersDiffsUptoSaid : Prop := myersDiffsUptoRow.holds Tryd.pinned (OpenSpec.upto myersDiffsSpec)

/-- 'variorumlaw16.MyersApplies', WHERE WHAT IT READS IS OF BULK AT MOST 1048576: true; the input reads as it did. -/
def myersAppliesUptoRow : OpenClaim := { program := "ytbfaaphijgmabaadoor", sum := "a2b14643b9896097a9f0eafb20144b0bb98dd8cbcaffc1aeea55d12d865f4346", func := "variorum/variorumlaw16.MyersApplies", spec := "myersApplies", inPlace := ["internal/abi.NoEscape"], unfollowed := true, recurses := true, named := ["unicode/utf8.first", "unicode/utf8.acceptRanges"], apart := false, laid := [("unicode/utf8.acceptRanges", laid_unicode_utf8_acceptRanges), ("unicode/utf8.first", laid_unicode_utf8_first)], narrowed := true }
def MyersAppliesUptoSaid : Prop := myersAppliesUptoRow.holds Tryd.pinned (OpenSpec.upto myersAppliesSpec)

/-- 'variorumlaw16.MyersBack', WHERE WHAT IT READS IS OF BULK AT MOST 1048576: true; the input reads as it did. -/
def myersBackUptoRow : OpenClaim := { program := "ytbfaaphijgmabaadoor", sum := "a2b14643b9896097a9f0eafb20144b0bb98dd8cbcaffc1aeea55d12d865f4346", func := "variorum/variorumlaw16.MyersBack", spec := "myersBack", inPlace := ["internal/abi.NoEscape"], unfollowed := true, recurses := true, named := ["unicode/utf8.first", "unicode/utf8.acceptRanges"], apart := false, laid := [("unicode/utf8.acceptRanges", laid_unicode_utf8_acceptRanges), ("unicode/utf8.first", laid_unicode_utf8_first)], narrowed := true }
def MyersBackUptoSaid : Prop := myersBackUptoRow.holds Tryd.pinned (OpenSpec.upto myersBackSpec)

/-- 'variorumlaw16.MyersLeast', WHERE WHAT IT READS IS OF BULK AT MOST 1048576: true; the input reads as it did. -/
def myersLeastUptoRow : OpenClaim := { program := "ytbfaaphijgmabaadoor", sum := "a2b14643b9896097a9f0eafb20144b0bb98dd8cbcaffc1aeea55d12d865f4346", func := "variorum/variorumlaw16.MyersLeast", spec := "myersLeast", inPlace := ["internal/abi.NoEscape"], unfollowed := true, recurses := true, named := ["unicode/utf8.first", "unicode/utf8.acceptRanges"], apart := false, laid := [("unicode/utf8.acceptRanges", laid_unicode_utf8_acceptRanges), ("unicode/utf8.first", laid_unicode_utf8_first)], narrowed := true }
def MyersLeastUptoSaid : Prop := myersLeastUptoRow.holds Tryd.pinned (OpenSpec.upto myersLeastSpec)

/-- 'variorumlaw16.MyersTurned', WHERE WHAT IT READS IS OF BULK AT MOST 1048576: true; the input reads as it did. -/
def myersTurnedUptoRow : OpenClaim := { program := "ytbfaaphijgmabaadoor", sum := "a2b14643b9896097a9f0eafb20144b0bb98dd8cbcaffc1aeea55d12d865f4346", func := "variorum/variorumlaw16.MyersTurned", spec := "myersTurned", inPlace := ["internal/abi.NoEscape"], unfollowed := true, recurses := true, named := ["unicode/utf8.first", "unicode/utf8.acceptRanges"], apart := false, laid := [("unicode/utf8.acceptRanges", laid_unicode_utf8_acceptRanges), ("unicode/utf8.first", laid_unicode_utf8_first)], narrowed := true }
def MyersTurnedUptoSaid : Prop := myersTurnedUptoRow.holds Tryd.pinned (OpenSpec.upto myersTurnedSpec)

/-- 'variorumlaw16.MyersAhead', WHERE WHAT IT READS IS OF BULK AT MOST 1048576: true; the input reads as it did. -/
def myersAheadUptoRow : OpenClaim := { program := "ytbfaaphijgmabaadoor", sum := "a2b14643b9896097a9f0eafb20144b0bb98dd8cbcaffc1aeea55d12d865f4346", func := "variorum/variorumlaw16.MyersAhead", spec := "myersAhead", inPlace := ["internal/abi.NoEscape"], unfollowed := true, recurses := true, named := ["unicode/utf8.first", "unicode/utf8.acceptRanges"], apart := false, laid := [("unicode/utf8.acceptRanges", laid_unicode_utf8_acceptRanges), ("unicode/utf8.first", laid_unicode_utf8_first)], narrowed := true }
def MyersAheadUptoSaid : Prop := myersAheadUptoRow.holds Tryd.pinned (OpenSpec.upto myersAheadSpec)

end Rows
end Go.Proofs.YtbfaaphijgmabaaDoor
