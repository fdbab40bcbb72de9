/-
  DERIVED. GIVEN WITH THE SEED: THE CARDS: each row of YtjhiekijbcjohaaGreatDoorRows.lean that lists a variable, with what it lists TIED to the program's text (the seventh form; the later family's looks); each row that meets fmt, with fmt's text TOLD by the authors' own Lean function (tested against real Go, not proved from fmt's source: count such statements apart). THE CARD IS WHAT COUNTS. Prove the row's statement (the work); the ties are given (YtjhiekijbcjohaaGreatDoorTie.lean); close each card by the builder's one call (the guide's Derived/Test/ToyasCard.lean, 'card_holds'). Laid BY PROGRAM, IN A SANDBOX (cutbox-door.mjs). By AI agents, Wed Nov 11 2026. No macro, syntax, notation, axiom, sorry.
-/
import Derived.Test.YtjhiekijbcjohaaGreatDoorRows
import GoSem.ClaimSeven
namespace Go.Proofs.YtjhiekijbcjohaaGreatDoor
namespace Rows

/-- THE TIED CARD OF 'recensionlaw07.SegNames'. -/
def segNamesCard : Claim7 := { stood := { row := segNamesRow, standIns := [], harness := (true, "5298388be20458e4cc6809c1557686b95a8b850ea10bba499329ac66858ee8b9"), looks := true }, kinds := [], alts := [], laidByText := true, laidKinds := [.data, .data, .data, .sentinel, .sentinel], laidTests := true, laidLooks := .later }
def SegNamesCardSaid : Prop := Claim7.holds Tryz.pinned (.plain (OpenSpec.ofChange segNamesSpec)) segNamesCard

/-- THE TIED CARD OF 'recensionlaw07.SegPlays'. -/
def segPlaysCard : Claim7 := { stood := { row := segPlaysRow, standIns := [], harness := (true, "5298388be20458e4cc6809c1557686b95a8b850ea10bba499329ac66858ee8b9"), looks := true }, kinds := [], alts := [], laidByText := true, laidKinds := [.data, .data, .data, .handle], laidTests := true, laidLooks := .later }
def SegPlaysCardSaid : Prop := Claim7.holds Tryz.pinned (.plain (OpenSpec.ofChange segPlaysSpec)) segPlaysCard

/-- THE TIED CARD OF 'recensionlaw07.SegLasts'. -/
def segLastsCard : Claim7 := { stood := { row := segLastsRow, standIns := [], harness := (true, "5298388be20458e4cc6809c1557686b95a8b850ea10bba499329ac66858ee8b9"), looks := true }, kinds := [], alts := [], laidByText := true, laidKinds := [.data, .data, .data, .handle], laidTests := true, laidLooks := .later }
def SegLastsCardSaid : Prop := Claim7.holds Tryz.pinned (.plain (OpenSpec.ofChange segLastsSpec)) segLastsCard

/-- THE SECOND FORM's CARD OF 'recensionlaw07.SegNames'. -/
def segNamesUptoCard : Claim7 := { stood := { row := segNamesUptoRow, standIns := [], harness := (true, "5298388be20458e4cc6809c1557686b95a8b850ea10bba499329ac66858ee8b9"), looks := true }, kinds := [], alts := [], laidByText := true, laidKinds := [.data, .data, .data, .sentinel, .sentinel], laidTests := true, laidLooks := .later }
def SegNamesUptoCardSaid : Prop := Claim7.holds Tryz.pinned (.plain (OpenSpec.upto segNamesSpec)) segNamesUptoCard

/-- THE SECOND FORM's CARD OF 'recensionlaw07.SegPlays'. -/
def segPlaysUptoCard : Claim7 := { stood := { row := segPlaysUptoRow, standIns := [], harness := (true, "5298388be20458e4cc6809c1557686b95a8b850ea10bba499329ac66858ee8b9"), looks := true }, kinds := [], alts := [], laidByText := true, laidKinds := [.data, .data, .data, .handle], laidTests := true, laidLooks := .later }
def SegPlaysUptoCardSaid : Prop := Claim7.holds Tryz.pinned (.plain (OpenSpec.upto segPlaysSpec)) segPlaysUptoCard

/-- THE SECOND FORM's CARD OF 'recensionlaw07.SegLasts'. -/
def segLastsUptoCard : Claim7 := { stood := { row := segLastsUptoRow, standIns := [], harness := (true, "5298388be20458e4cc6809c1557686b95a8b850ea10bba499329ac66858ee8b9"), looks := true }, kinds := [], alts := [], laidByText := true, laidKinds := [.data, .data, .data, .handle], laidTests := true, laidLooks := .later }
def SegLastsUptoCardSaid : Prop := Claim7.holds Tryz.pinned (.plain (OpenSpec.upto segLastsSpec)) segLastsUptoCard
end Rows
end Go.Proofs.YtjhiekijbcjohaaGreatDoor
