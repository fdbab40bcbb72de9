/-
  DERIVED. GIVEN WITH THE SEED: THE CARDS: each row of YtacfcfbleogioaaDoorRows.lean that lists a variable, with what it lists TIED to the program's text (the seventh form; the later family's looks); each row that meets fmt, with fmt's text TOLD by the authors' own Lean function (tested against real Go, not proved from fmt's source: count such statements apart). THE CARD IS WHAT COUNTS. Prove the row's statement (the work); the ties are given (YtacfcfbleogioaaDoorTie.lean); close each card by the builder's one call (the guide's Derived/Test/ToyasCard.lean, 'card_holds'). Laid BY PROGRAM, IN A SANDBOX (cutbox-door.mjs). By AI agents, Wed Nov 11 2026. No macro, syntax, notation, axiom, sorry.
-/
import Derived.Test.YtacfcfbleogioaaDoorRows
import GoSem.ClaimSeven
namespace Go.Proofs.YtacfcfbleogioaaDoor
namespace Rows

/-- THE TIED CARD OF 'recensionlaw08.ManCodes'. -/
def manCodesCard : Claim7 := { stood := { row := manCodesRow, standIns := [], harness := (true, "1a2dfc794db959247a58704fe90ce4a9667aeed9f2372515292a60be5c992546"), looks := true }, kinds := [], alts := [], laidByText := true, laidKinds := [.data, .data, .data, .sentinel, .sentinel], laidTests := true, laidLooks := .later }
def ManCodesCardSaid : Prop := Claim7.holds Tryd.pinned (.plain (OpenSpec.ofChange manCodesSpec)) manCodesCard

/-- THE TIED CARD OF 'recensionlaw08.ManBack'. -/
def manBackCard : Claim7 := { stood := { row := manBackRow, standIns := [], harness := (true, "1a2dfc794db959247a58704fe90ce4a9667aeed9f2372515292a60be5c992546"), looks := true }, kinds := [], alts := [], laidByText := true, laidKinds := [.data, .data, .data], laidTests := true, laidLooks := .later }
def ManBackCardSaid : Prop := Claim7.holds Tryd.pinned (.plain (OpenSpec.ofChange manBackSpec)) manBackCard

/-- THE SECOND FORM's CARD OF 'recensionlaw08.ManCodes'. -/
def manCodesUptoCard : Claim7 := { stood := { row := manCodesUptoRow, standIns := [], harness := (true, "1a2dfc794db959247a58704fe90ce4a9667aeed9f2372515292a60be5c992546"), looks := true }, kinds := [], alts := [], laidByText := true, laidKinds := [.data, .data, .data, .sentinel, .sentinel], laidTests := true, laidLooks := .later }
def ManCodesUptoCardSaid : Prop := Claim7.holds Tryd.pinned (.plain (OpenSpec.upto manCodesSpec)) manCodesUptoCard

/-- THE SECOND FORM's CARD OF 'recensionlaw08.ManBack'. -/
def manBackUptoCard : Claim7 := { stood := { row := manBackUptoRow, standIns := [], harness := (true, "1a2dfc794db959247a58704fe90ce4a9667aeed9f2372515292a60be5c992546"), looks := true }, kinds := [], alts := [], laidByText := true, laidKinds := [.data, .data, .data], laidTests := true, laidLooks := .later }
def ManBackUptoCardSaid : Prop := Claim7.holds Tryd.pinned (.plain (OpenSpec.upto manBackSpec)) manBackUptoCard
end Rows
end Go.Proofs.YtacfcfbleogioaaDoor
