/-
  DERIVED. GIVEN WITH THE SEED: THE CARDS: each row of YtojpjhfafbdpcaaGreatDoorRows.lean that lists a variable, with what it lists TIED to the program's text (the seventh form; the later family's looks); each row that meets fmt, with fmt's text TOLD by the authors' own Lean function (tested against real Go, not proved from fmt's source: count such statements apart). THE CARD IS WHAT COUNTS. Prove the row's statement (the work); the ties are given (YtojpjhfafbdpcaaGreatDoorTie.lean); close each card by the builder's one call (the guide's Derived/Test/ToyasCard.lean, 'card_holds'). Laid BY PROGRAM, IN A SANDBOX (cutbox-door.mjs). By AI agents, Wed Nov 11 2026. No macro, syntax, notation, axiom, sorry.
-/
import Derived.Test.YtojpjhfafbdpcaaGreatDoorRows
import GoSem.ClaimSeven
namespace Go.Proofs.YtojpjhfafbdpcaaGreatDoor
namespace Rows

/-- THE TIED CARD OF 'recensionlaw12.KeysParses'. -/
def keysParsesCard : Claim7 := { stood := { row := keysParsesRow, standIns := [], harness := (true, "9984497ec3da5fc82473d68deff4f86a638d3a332e4b1e3633566a25b49a6c7b"), looks := true }, kinds := [], alts := [], laidByText := true, laidKinds := [.data, .handle, .data, .data, .pinned], laidTests := true, laidLooks := .later }
def KeysParsesCardSaid : Prop := Claim7.holds Tryz.pinned (.plain (OpenSpec.ofChange keysParsesSpec)) keysParsesCard

/-- THE TIED CARD OF 'recensionlaw12.KeysTells'. -/
def keysTellsCard : Claim7 := { stood := { row := keysTellsRow, standIns := [], harness := (true, "9984497ec3da5fc82473d68deff4f86a638d3a332e4b1e3633566a25b49a6c7b"), looks := true }, kinds := [], alts := [], laidByText := true, laidKinds := [.data, .handle, .data, .data, .pinned], laidTests := true, laidLooks := .later }
def KeysTellsCardSaid : Prop := Claim7.holds Tryz.pinned (.plain (OpenSpec.ofChange keysTellsSpec)) keysTellsCard

/-- THE TIED CARD OF 'recensionlaw12.KeysBack'. -/
def keysBackCard : Claim7 := { stood := { row := keysBackRow, standIns := [], harness := (true, "9984497ec3da5fc82473d68deff4f86a638d3a332e4b1e3633566a25b49a6c7b"), looks := true }, kinds := [], alts := [], laidByText := true, laidKinds := [.data, .handle, .data, .data, .pinned], laidTests := true, laidLooks := .later }
def KeysBackCardSaid : Prop := Claim7.holds Tryz.pinned (.plain (OpenSpec.ofChange keysBackSpec)) keysBackCard

/-- THE TIED CARD OF 'recensionlaw12.KeysFrontiers'. -/
def keysFrontiersCard : Claim7 := { stood := { row := keysFrontiersRow, standIns := [], harness := (true, "9984497ec3da5fc82473d68deff4f86a638d3a332e4b1e3633566a25b49a6c7b"), looks := true }, kinds := [], alts := [], laidByText := true, laidKinds := [.data, .handle, .data, .data, .pinned], laidTests := true, laidLooks := .later }
def KeysFrontiersCardSaid : Prop := Claim7.holds Tryz.pinned (.plain (OpenSpec.ofChange keysFrontiersSpec)) keysFrontiersCard

/-- THE TIED CARD OF 'recensionlaw12.KeysLines'. -/
def keysLinesCard : Claim7 := { stood := { row := keysLinesRow, standIns := [], harness := (true, "9984497ec3da5fc82473d68deff4f86a638d3a332e4b1e3633566a25b49a6c7b"), looks := true }, kinds := [], alts := [], laidByText := true, laidKinds := [.data, .handle, .data, .data, .pinned], laidTests := true, laidLooks := .later }
def KeysLinesCardSaid : Prop := Claim7.holds Tryz.pinned (.plain (OpenSpec.ofChange keysLinesSpec)) keysLinesCard

/-- THE SECOND FORM's CARD OF 'recensionlaw12.KeysParses'. -/
def keysParsesUptoCard : Claim7 := { stood := { row := keysParsesUptoRow, standIns := [], harness := (true, "9984497ec3da5fc82473d68deff4f86a638d3a332e4b1e3633566a25b49a6c7b"), looks := true }, kinds := [], alts := [], laidByText := true, laidKinds := [.data, .handle, .data, .data, .pinned], laidTests := true, laidLooks := .later }
def KeysParsesUptoCardSaid : Prop := Claim7.holds Tryz.pinned (.plain (OpenSpec.upto keysParsesSpec)) keysParsesUptoCard

/-- THE SECOND FORM's CARD OF 'recensionlaw12.KeysTells'. -/
def keysTellsUptoCard : Claim7 := { stood := { row := keysTellsUptoRow, standIns := [], harness := (true, "9984497ec3da5fc82473d68deff4f86a638d3a332e4b1e3633566a25b49a6c7b"), looks := true }, kinds := [], alts := [], laidByText := true, laidKinds := [.data, .handle, .data, .data, .pinned], laidTests := true, laidLooks := .later }
def KeysTellsUptoCardSaid : Prop := Claim7.holds Tryz.pinned (.plain (OpenSpec.upto keysTellsSpec)) keysTellsUptoCard

/-- THE SECOND FORM's CARD OF 'recensionlaw12.KeysBack'. -/
def keysBackUptoCard : Claim7 := { stood := { row := keysBackUptoRow, standIns := [], harness := (true, "9984497ec3da5fc82473d68deff4f86a638d3a332e4b1e3633566a25b49a6c7b"), looks := true }, kinds := [], alts := [], laidByText := true, laidKinds := [.data, .handle, .data, .data, .pinned], laidTests := true, laidLooks := .later }
def KeysBackUptoCardSaid : Prop := Claim7.holds Tryz.pinned (.plain (OpenSpec.upto keysBackSpec)) keysBackUptoCard

/-- THE SECOND FORM's CARD OF 'recensionlaw12.KeysFrontiers'. -/
def keysFrontiersUptoCard : Claim7 := { stood := { row := keysFrontiersUptoRow, standIns := [], harness := (true, "9984497ec3da5fc82473d68deff4f86a638d3a332e4b1e3633566a25b49a6c7b"), looks := true }, kinds := [], alts := [], laidByText := true, laidKinds := [.data, .handle, .data, .data, .pinned], laidTests := true, laidLooks := .later }
def KeysFrontiersUptoCardSaid : Prop := Claim7.holds Tryz.pinned (.plain (OpenSpec.upto keysFrontiersSpec)) keysFrontiersUptoCard

/-- THE SECOND FORM's CARD OF 'recensionlaw12.KeysLines'. -/
def keysLinesUptoCard : Claim7 := { stood := { row := keysLinesUptoRow, standIns := [], harness := (true, "9984497ec3da5fc82473d68deff4f86a638d3a332e4b1e3633566a25b49a6c7b"), looks := true }, kinds := [], alts := [], laidByText := true, laidKinds := [.data, .handle, .data, .data, .pinned], laidTests := true, laidLooks := .later }
def KeysLinesUptoCardSaid : Prop := Claim7.holds Tryz.pinned (.plain (OpenSpec.upto keysLinesSpec)) keysLinesUptoCard
end Rows
end Go.Proofs.YtojpjhfafbdpcaaGreatDoor
