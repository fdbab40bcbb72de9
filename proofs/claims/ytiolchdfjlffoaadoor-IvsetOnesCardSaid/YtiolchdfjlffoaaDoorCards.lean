/-
  DERIVED. GIVEN WITH THE SEED: THE CARDS: each row of YtiolchdfjlffoaaDoorRows.lean that lists a variable, with what it lists TIED to the program's text (the seventh form; the later family's looks); each row that meets fmt, with fmt's text TOLD by the authors' own Lean function (tested against real Go, not proved from fmt's source: count such statements apart). THE CARD IS WHAT COUNTS. Prove the row's statement (the work); the ties are given (YtiolchdfjlffoaaDoorTie.lean); close each card by the builder's one call (the guide's Derived/Test/ToyasCard.lean, 'card_holds'). Laid BY PROGRAM, IN A SANDBOX (cutbox-door.mjs). By AI agents, Wed Nov 11 2026. No macro, syntax, notation, axiom, sorry.
-/
import Derived.Test.YtiolchdfjlffoaaDoorRows
import GoSem.ClaimSeven
namespace Go.Proofs.YtiolchdfjlffoaaDoor
namespace Rows

/-- THE TIED CARD OF 'recensionlaw14.IvsetTwo'. -/
def ivsetTwoCard : Claim7 := { stood := { row := ivsetTwoRow, standIns := [], harness := (true, "281daecd27d970ad88f1c6ca9422ff43e73de569438b3d8a8317e6f3eccb0cbe"), looks := true }, kinds := [], alts := [], laidByText := true, laidKinds := [.data, .data, .data, .data, .sentinel, .sentinel, .pinned], laidTests := true, laidLooks := .later }
def IvsetTwoCardSaid : Prop := Claim7.holds Tryd.pinned (.plain (OpenSpec.ofChange ivsetTwoSpec)) ivsetTwoCard

/-- THE TIED CARD OF 'recensionlaw14.IvsetOne'. -/
def ivsetOneCard : Claim7 := { stood := { row := ivsetOneRow, standIns := [], harness := (true, "281daecd27d970ad88f1c6ca9422ff43e73de569438b3d8a8317e6f3eccb0cbe"), looks := true }, kinds := [], alts := [], laidByText := true, laidKinds := [.data, .data, .data, .data, .sentinel, .sentinel, .pinned], laidTests := true, laidLooks := .later }
def IvsetOneCardSaid : Prop := Claim7.holds Tryd.pinned (.plain (OpenSpec.ofChange ivsetOneSpec)) ivsetOneCard

/-- THE TIED CARD OF 'recensionlaw14.IvsetTexts'. -/
def ivsetTextsCard : Claim7 := { stood := { row := ivsetTextsRow, standIns := [], harness := (true, "281daecd27d970ad88f1c6ca9422ff43e73de569438b3d8a8317e6f3eccb0cbe"), looks := true }, kinds := [], alts := [], laidByText := true, laidKinds := [.data, .data, .data, .data, .sentinel, .sentinel, .pinned], laidTests := true, laidLooks := .later }
def IvsetTextsCardSaid : Prop := Claim7.holds Tryd.pinned (.plain (OpenSpec.ofChange ivsetTextsSpec)) ivsetTextsCard

/-- THE TIED CARD OF 'recensionlaw14.IvsetLaws'. -/
def ivsetLawsCard : Claim7 := { stood := { row := ivsetLawsRow, standIns := [], harness := (true, "281daecd27d970ad88f1c6ca9422ff43e73de569438b3d8a8317e6f3eccb0cbe"), looks := true }, kinds := [], alts := [], laidByText := true, laidKinds := [.data, .data, .data, .data, .sentinel, .sentinel, .pinned], laidTests := true, laidLooks := .later }
def IvsetLawsCardSaid : Prop := Claim7.holds Tryd.pinned (.plain (OpenSpec.ofChange ivsetLawsSpec)) ivsetLawsCard

/-- THE TIED CARD OF 'recensionlaw14.IvsetOnes'. -/
def ivsetOnesCard : Claim7 := { stood := { row := ivsetOnesRow, standIns := [], harness := (true, "281daecd27d970ad88f1c6ca9422ff43e73de569438b3d8a8317e6f3eccb0cbe"), looks := true }, kinds := [], alts := [], laidByText := true, laidKinds := [.data, .data, .data, .data, .sentinel, .sentinel, .pinned], laidTests := true, laidLooks := .later }
def IvsetOnesCardSaid : Prop := Claim7.holds Tryd.pinned (.plain (OpenSpec.ofChange ivsetOnesSpec)) ivsetOnesCard

/-- THE SECOND FORM's CARD OF 'recensionlaw14.IvsetTwo'. -/
def ivsetTwoUptoCard : Claim7 := { stood := { row := ivsetTwoUptoRow, standIns := [], harness := (true, "281daecd27d970ad88f1c6ca9422ff43e73de569438b3d8a8317e6f3eccb0cbe"), looks := true }, kinds := [], alts := [], laidByText := true, laidKinds := [.data, .data, .data, .data, .sentinel, .sentinel, .pinned], laidTests := true, laidLooks := .later }
def IvsetTwoUptoCardSaid : Prop := Claim7.holds Tryd.pinned (.plain (OpenSpec.upto ivsetTwoSpec)) ivsetTwoUptoCard

/-- THE SECOND FORM's CARD OF 'recensionlaw14.IvsetOne'. -/
def ivsetOneUptoCard : Claim7 := { stood := { row := ivsetOneUptoRow, standIns := [], harness := (true, "281daecd27d970ad88f1c6ca9422ff43e73de569438b3d8a8317e6f3eccb0cbe"), looks := true }, kinds := [], alts := [], laidByText := true, laidKinds := [.data, .data, .data, .data, .sentinel, .sentinel, .pinned], laidTests := true, laidLooks := .later }
def IvsetOneUptoCardSaid : Prop := Claim7.holds Tryd.pinned (.plain (OpenSpec.upto ivsetOneSpec)) ivsetOneUptoCard

/-- THE SECOND FORM's CARD OF 'recensionlaw14.IvsetTexts'. -/
def ivsetTextsUptoCard : Claim7 := { stood := { row := ivsetTextsUptoRow, standIns := [], harness := (true, "281daecd27d970ad88f1c6ca9422ff43e73de569438b3d8a8317e6f3eccb0cbe"), looks := true }, kinds := [], alts := [], laidByText := true, laidKinds := [.data, .data, .data, .data, .sentinel, .sentinel, .pinned], laidTests := true, laidLooks := .later }
def IvsetTextsUptoCardSaid : Prop := Claim7.holds Tryd.pinned (.plain (OpenSpec.upto ivsetTextsSpec)) ivsetTextsUptoCard

/-- THE SECOND FORM's CARD OF 'recensionlaw14.IvsetLaws'. -/
def ivsetLawsUptoCard : Claim7 := { stood := { row := ivsetLawsUptoRow, standIns := [], harness := (true, "281daecd27d970ad88f1c6ca9422ff43e73de569438b3d8a8317e6f3eccb0cbe"), looks := true }, kinds := [], alts := [], laidByText := true, laidKinds := [.data, .data, .data, .data, .sentinel, .sentinel, .pinned], laidTests := true, laidLooks := .later }
def IvsetLawsUptoCardSaid : Prop := Claim7.holds Tryd.pinned (.plain (OpenSpec.upto ivsetLawsSpec)) ivsetLawsUptoCard

/-- THE SECOND FORM's CARD OF 'recensionlaw14.IvsetOnes'. -/
def ivsetOnesUptoCard : Claim7 := { stood := { row := ivsetOnesUptoRow, standIns := [], harness := (true, "281daecd27d970ad88f1c6ca9422ff43e73de569438b3d8a8317e6f3eccb0cbe"), looks := true }, kinds := [], alts := [], laidByText := true, laidKinds := [.data, .data, .data, .data, .sentinel, .sentinel, .pinned], laidTests := true, laidLooks := .later }
def IvsetOnesUptoCardSaid : Prop := Claim7.holds Tryd.pinned (.plain (OpenSpec.upto ivsetOnesSpec)) ivsetOnesUptoCard
end Rows
end Go.Proofs.YtiolchdfjlffoaaDoor
