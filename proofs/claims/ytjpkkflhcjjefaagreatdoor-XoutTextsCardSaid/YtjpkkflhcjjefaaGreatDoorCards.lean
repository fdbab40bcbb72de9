/-
  DERIVED. GIVEN WITH THE SEED: THE CARDS: each row of YtjpkkflhcjjefaaGreatDoorRows.lean that lists a variable, with what it lists TIED to the program's text (the seventh form; the later family's looks); each row that meets fmt, with fmt's text TOLD by the authors' own Lean function (tested against real Go, not proved from fmt's source: count such statements apart). THE CARD IS WHAT COUNTS. Prove the row's statement (the work); the ties are given (YtjpkkflhcjjefaaGreatDoorTie.lean); close each card by the builder's one call (the guide's Derived/Test/ToyasCard.lean, 'card_holds'). Laid BY PROGRAM, IN A SANDBOX (cutbox-door.mjs). By AI agents, Wed Nov 11 2026. No macro, syntax, notation, axiom, sorry.
-/
import Derived.Test.YtjpkkflhcjjefaaGreatDoorRows
import GoSem.ClaimSeven
namespace Go.Proofs.YtjpkkflhcjjefaaGreatDoor
namespace Rows

/-- THE TIED CARD OF 'recensionlaw11.XoutWrites'. -/
def xoutWritesCard : Claim7 := { stood := { row := xoutWritesRow, standIns := [], harness := (true, "975a64786d723c3fe3dfeb437a322c25abc681a9bd6153ac077d73ebcdc487cb"), looks := true }, kinds := [], alts := [], laidByText := true, laidKinds := [.data, .data, .data, .data, .handle, .data, .data, .data, .data, .data, .pinned, .pinned], laidTests := true, laidLooks := .later }
def XoutWritesCardSaid : Prop := Claim7.holds Tryz.pinned (.plain (OpenSpec.ofChange xoutWritesSpec)) xoutWritesCard

/-- THE TIED CARD OF 'recensionlaw11.XoutBack'. -/
def xoutBackCard : Claim7 := { stood := { row := xoutBackRow, standIns := [], harness := (true, "975a64786d723c3fe3dfeb437a322c25abc681a9bd6153ac077d73ebcdc487cb"), looks := true }, kinds := [], alts := [], laidByText := true, laidKinds := [.data, .data, .data, .data, .handle, .sentinel, .sentinel, .data, .data, .data, .data, .data, .pinned, .pinned], laidTests := true, laidLooks := .later }
def XoutBackCardSaid : Prop := Claim7.holds Tryz.pinned (.plain (OpenSpec.ofChange xoutBackSpec)) xoutBackCard

/-- THE TIED CARD OF 'recensionlaw11.XoutParsed'. -/
def xoutParsedCard : Claim7 := { stood := { row := xoutParsedRow, standIns := [], harness := (true, "975a64786d723c3fe3dfeb437a322c25abc681a9bd6153ac077d73ebcdc487cb"), looks := true }, kinds := [], alts := [], laidByText := true, laidKinds := [.data, .data, .data, .data, .handle, .sentinel, .sentinel, .data, .data, .data, .data, .data, .pinned, .pinned], laidTests := true, laidLooks := .later }
def XoutParsedCardSaid : Prop := Claim7.holds Tryz.pinned (.plain (OpenSpec.ofChange xoutParsedSpec)) xoutParsedCard

/-- THE TIED CARD OF 'recensionlaw11.XoutTexts'. -/
def xoutTextsCard : Claim7 := { stood := { row := xoutTextsRow, standIns := [], harness := (true, "975a64786d723c3fe3dfeb437a322c25abc681a9bd6153ac077d73ebcdc487cb"), looks := true }, kinds := [], alts := [], laidByText := true, laidKinds := [.data, .data, .data, .data, .handle, .sentinel, .sentinel, .data, .data, .data, .data, .data, .pinned, .pinned], laidTests := true, laidLooks := .later }
def XoutTextsCardSaid : Prop := Claim7.holds Tryz.pinned (.plain (OpenSpec.ofChange xoutTextsSpec)) xoutTextsCard

/-- THE SECOND FORM's CARD OF 'recensionlaw11.XoutWrites'. -/
def xoutWritesUptoCard : Claim7 := { stood := { row := xoutWritesUptoRow, standIns := [], harness := (true, "975a64786d723c3fe3dfeb437a322c25abc681a9bd6153ac077d73ebcdc487cb"), looks := true }, kinds := [], alts := [], laidByText := true, laidKinds := [.data, .data, .data, .data, .handle, .data, .data, .data, .data, .data, .pinned, .pinned], laidTests := true, laidLooks := .later }
def XoutWritesUptoCardSaid : Prop := Claim7.holds Tryz.pinned (.plain (OpenSpec.upto xoutWritesSpec)) xoutWritesUptoCard

/-- THE SECOND FORM's CARD OF 'recensionlaw11.XoutBack'. -/
def xoutBackUptoCard : Claim7 := { stood := { row := xoutBackUptoRow, standIns := [], harness := (true, "975a64786d723c3fe3dfeb437a322c25abc681a9bd6153ac077d73ebcdc487cb"), looks := true }, kinds := [], alts := [], laidByText := true, laidKinds := [.data, .data, .data, .data, .handle, .sentinel, .sentinel, .data, .data, .data, .data, .data, .pinned, .pinned], laidTests := true, laidLooks := .later }
def XoutBackUptoCardSaid : Prop := Claim7.holds Tryz.pinned (.plain (OpenSpec.upto xoutBackSpec)) xoutBackUptoCard

/-- THE SECOND FORM's CARD OF 'recensionlaw11.XoutParsed'. -/
def xoutParsedUptoCard : Claim7 := { stood := { row := xoutParsedUptoRow, standIns := [], harness := (true, "975a64786d723c3fe3dfeb437a322c25abc681a9bd6153ac077d73ebcdc487cb"), looks := true }, kinds := [], alts := [], laidByText := true, laidKinds := [.data, .data, .data, .data, .handle, .sentinel, .sentinel, .data, .data, .data, .data, .data, .pinned, .pinned], laidTests := true, laidLooks := .later }
def XoutParsedUptoCardSaid : Prop := Claim7.holds Tryz.pinned (.plain (OpenSpec.upto xoutParsedSpec)) xoutParsedUptoCard

/-- THE SECOND FORM's CARD OF 'recensionlaw11.XoutTexts'. -/
def xoutTextsUptoCard : Claim7 := { stood := { row := xoutTextsUptoRow, standIns := [], harness := (true, "975a64786d723c3fe3dfeb437a322c25abc681a9bd6153ac077d73ebcdc487cb"), looks := true }, kinds := [], alts := [], laidByText := true, laidKinds := [.data, .data, .data, .data, .handle, .sentinel, .sentinel, .data, .data, .data, .data, .data, .pinned, .pinned], laidTests := true, laidLooks := .later }
def XoutTextsUptoCardSaid : Prop := Claim7.holds Tryz.pinned (.plain (OpenSpec.upto xoutTextsSpec)) xoutTextsUptoCard
end Rows
end Go.Proofs.YtjpkkflhcjjefaaGreatDoor
