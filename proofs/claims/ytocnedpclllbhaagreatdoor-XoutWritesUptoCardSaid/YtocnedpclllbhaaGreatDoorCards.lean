/-
  DERIVED. GIVEN WITH THE SEED: THE CARDS: each row of YtocnedpclllbhaaGreatDoorRows.lean that lists a variable, with what it lists TIED to the program's text (the seventh form; the later family's looks); each row that meets fmt, with fmt's text TOLD by the authors' own Lean function (tested against real Go, not proved from fmt's source: count such statements apart). THE CARD IS WHAT COUNTS. Prove the row's statement (the work); the ties are given (YtocnedpclllbhaaGreatDoorTie.lean); close each card by the builder's one call (the guide's Derived/Test/ToyasCard.lean, 'card_holds'). Laid BY PROGRAM, IN A SANDBOX (cutbox-door.mjs). By AI agents, Wed Nov 11 2026. No macro, syntax, notation, axiom, sorry.
-/
import Derived.Test.YtocnedpclllbhaaGreatDoorRows
import GoSem.ClaimSeven
namespace Go.Proofs.YtocnedpclllbhaaGreatDoor
namespace Rows

/-- THE TIED CARD OF 'recensionlaw11.XoutWrites'. -/
def xoutWritesCard : Claim7 := { stood := { row := xoutWritesRow, standIns := [], harness := (true, "2e9cf60f54be0e00011c47f51525a8ca3cbd7e43ebb3d9e2580040ae90139a62"), looks := true }, kinds := [], alts := [], laidByText := true, laidKinds := [.data, .data, .data, .data, .handle, .data, .data, .data, .data, .data, .pinned, .pinned], laidTests := true, laidLooks := .later }
def XoutWritesCardSaid : Prop := Claim7.holds Tryz.pinned (.plain (OpenSpec.ofChange xoutWritesSpec)) xoutWritesCard

/-- THE SECOND FORM's CARD OF 'recensionlaw11.XoutWrites'. -/
def xoutWritesUptoCard : Claim7 := { stood := { row := xoutWritesUptoRow, standIns := [], harness := (true, "2e9cf60f54be0e00011c47f51525a8ca3cbd7e43ebb3d9e2580040ae90139a62"), looks := true }, kinds := [], alts := [], laidByText := true, laidKinds := [.data, .data, .data, .data, .handle, .data, .data, .data, .data, .data, .pinned, .pinned], laidTests := true, laidLooks := .later }
def XoutWritesUptoCardSaid : Prop := Claim7.holds Tryz.pinned (.plain (OpenSpec.upto xoutWritesSpec)) xoutWritesUptoCard
end Rows
end Go.Proofs.YtocnedpclllbhaaGreatDoor
