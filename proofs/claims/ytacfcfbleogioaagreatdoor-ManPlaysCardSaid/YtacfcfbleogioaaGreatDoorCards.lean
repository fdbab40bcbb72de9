/-
  DERIVED. GIVEN WITH THE SEED: THE CARDS: each row of YtacfcfbleogioaaGreatDoorRows.lean that lists a variable, with what it lists TIED to the program's text (the seventh form; the later family's looks); each row that meets fmt, with fmt's text TOLD by the authors' own Lean function (tested against real Go, not proved from fmt's source: count such statements apart). THE CARD IS WHAT COUNTS. Prove the row's statement (the work); the ties are given (YtacfcfbleogioaaGreatDoorTie.lean); close each card by the builder's one call (the guide's Derived/Test/ToyasCard.lean, 'card_holds'). Laid BY PROGRAM, IN A SANDBOX (cutbox-door.mjs). By AI agents, Wed Nov 11 2026. No macro, syntax, notation, axiom, sorry.
-/
import Derived.Test.YtacfcfbleogioaaGreatDoorRows
import GoSem.ClaimSeven
namespace Go.Proofs.YtacfcfbleogioaaGreatDoor
namespace Rows

/-- THE TIED CARD OF 'recensionlaw08.ManPlays'. -/
def manPlaysCard : Claim7 := { stood := { row := manPlaysRow, standIns := [], harness := (true, "19ffd1140078c1a39377d67a1d13ed5436818a7b7928668baa8c46f71587e0d0"), looks := true }, kinds := [], alts := [], laidByText := true, laidKinds := [.data, .data, .data, .handle, .sentinel, .sentinel], laidTests := true, laidLooks := .later }
def ManPlaysCardSaid : Prop := Claim7.holds Tryz.pinned (.plain (OpenSpec.ofChange manPlaysSpec)) manPlaysCard

/-- THE TIED CARD OF 'recensionlaw08.ManSwitches'. -/
def manSwitchesCard : Claim7 := { stood := { row := manSwitchesRow, standIns := [], harness := (true, "19ffd1140078c1a39377d67a1d13ed5436818a7b7928668baa8c46f71587e0d0"), looks := true }, kinds := [], alts := [], laidByText := true, laidKinds := [.data, .data, .data, .handle, .sentinel, .sentinel], laidTests := true, laidLooks := .later }
def ManSwitchesCardSaid : Prop := Claim7.holds Tryz.pinned (.plain (OpenSpec.ofChange manSwitchesSpec)) manSwitchesCard

/-- THE TIED CARD OF 'recensionlaw08.ManCleans'. -/
def manCleansCard : Claim7 := { stood := { row := manCleansRow, standIns := [], harness := (true, "19ffd1140078c1a39377d67a1d13ed5436818a7b7928668baa8c46f71587e0d0"), looks := true }, kinds := [], alts := [], laidByText := true, laidKinds := [.data, .data, .data, .handle, .sentinel, .sentinel], laidTests := true, laidLooks := .later }
def ManCleansCardSaid : Prop := Claim7.holds Tryz.pinned (.plain (OpenSpec.ofChange manCleansSpec)) manCleansCard

/-- THE TIED CARD OF 'recensionlaw08.ManGreatest'. -/
def manGreatestCard : Claim7 := { stood := { row := manGreatestRow, standIns := [], harness := (true, "19ffd1140078c1a39377d67a1d13ed5436818a7b7928668baa8c46f71587e0d0"), looks := true }, kinds := [], alts := [], laidByText := true, laidKinds := [.data, .data, .data, .handle, .sentinel, .sentinel], laidTests := true, laidLooks := .later }
def ManGreatestCardSaid : Prop := Claim7.holds Tryz.pinned (.plain (OpenSpec.ofChange manGreatestSpec)) manGreatestCard

/-- THE SECOND FORM's CARD OF 'recensionlaw08.ManPlays'. -/
def manPlaysUptoCard : Claim7 := { stood := { row := manPlaysUptoRow, standIns := [], harness := (true, "19ffd1140078c1a39377d67a1d13ed5436818a7b7928668baa8c46f71587e0d0"), looks := true }, kinds := [], alts := [], laidByText := true, laidKinds := [.data, .data, .data, .handle, .sentinel, .sentinel], laidTests := true, laidLooks := .later }
def ManPlaysUptoCardSaid : Prop := Claim7.holds Tryz.pinned (.plain (OpenSpec.upto manPlaysSpec)) manPlaysUptoCard

/-- THE SECOND FORM's CARD OF 'recensionlaw08.ManSwitches'. -/
def manSwitchesUptoCard : Claim7 := { stood := { row := manSwitchesUptoRow, standIns := [], harness := (true, "19ffd1140078c1a39377d67a1d13ed5436818a7b7928668baa8c46f71587e0d0"), looks := true }, kinds := [], alts := [], laidByText := true, laidKinds := [.data, .data, .data, .handle, .sentinel, .sentinel], laidTests := true, laidLooks := .later }
def ManSwitchesUptoCardSaid : Prop := Claim7.holds Tryz.pinned (.plain (OpenSpec.upto manSwitchesSpec)) manSwitchesUptoCard

/-- THE SECOND FORM's CARD OF 'recensionlaw08.ManCleans'. -/
def manCleansUptoCard : Claim7 := { stood := { row := manCleansUptoRow, standIns := [], harness := (true, "19ffd1140078c1a39377d67a1d13ed5436818a7b7928668baa8c46f71587e0d0"), looks := true }, kinds := [], alts := [], laidByText := true, laidKinds := [.data, .data, .data, .handle, .sentinel, .sentinel], laidTests := true, laidLooks := .later }
def ManCleansUptoCardSaid : Prop := Claim7.holds Tryz.pinned (.plain (OpenSpec.upto manCleansSpec)) manCleansUptoCard

/-- THE SECOND FORM's CARD OF 'recensionlaw08.ManGreatest'. -/
def manGreatestUptoCard : Claim7 := { stood := { row := manGreatestUptoRow, standIns := [], harness := (true, "19ffd1140078c1a39377d67a1d13ed5436818a7b7928668baa8c46f71587e0d0"), looks := true }, kinds := [], alts := [], laidByText := true, laidKinds := [.data, .data, .data, .handle, .sentinel, .sentinel], laidTests := true, laidLooks := .later }
def ManGreatestUptoCardSaid : Prop := Claim7.holds Tryz.pinned (.plain (OpenSpec.upto manGreatestSpec)) manGreatestUptoCard
end Rows
end Go.Proofs.YtacfcfbleogioaaGreatDoor
