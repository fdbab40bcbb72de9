/-
  DERIVED. GIVEN WITH THE SEED: THE CARDS: each row of YtkpgbcackphdbaaDoorRows.lean that lists a variable, with what it lists TIED to the program's text (the seventh form; the later family's looks); each row that meets fmt, with fmt's text TOLD by the authors' own Lean function (tested against real Go, not proved from fmt's source: count such statements apart). THE CARD IS WHAT COUNTS. Prove the row's statement (the work); the ties are given (YtkpgbcackphdbaaDoorTie.lean); close each card by the builder's one call (the guide's Derived/Test/ToyasCard.lean, 'card_holds'). Laid BY PROGRAM, IN A SANDBOX (cutbox-door.mjs). By AI agents, Wed Nov 11 2026. No macro, syntax, notation, axiom, sorry.
-/
import Derived.Test.YtkpgbcackphdbaaDoorRows
import GoSem.ClaimSeven
namespace Go.Proofs.YtkpgbcackphdbaaDoor
namespace Rows

/-- THE TIED CARD OF 'recensionlaw20.QlexAgain'. -/
def qlexAgainCard : Claim7 := { stood := { row := qlexAgainRow, standIns := [], harness := (true, "3047dc026be9a21175688df04680d1fcfc05e155875cc1ca54f744a011e0204c"), looks := true }, kinds := [], alts := [], laidByText := true, laidKinds := [.data, .handle, .data, .data, .data, .data, .data, .pinned], laidTests := true, laidLooks := .later }
def QlexAgainCardSaid : Prop := Claim7.holds Tryd.pinned (.plain (OpenSpec.ofChange qlexAgainSpec)) qlexAgainCard

/-- THE TIED CARD OF 'recensionlaw20.QlexWords'. -/
def qlexWordsCard : Claim7 := { stood := { row := qlexWordsRow, standIns := [], harness := (true, "3047dc026be9a21175688df04680d1fcfc05e155875cc1ca54f744a011e0204c"), looks := true }, kinds := [], alts := [], laidByText := true, laidKinds := [.data, .handle, .data, .data, .data, .data, .data, .pinned], laidTests := true, laidLooks := .later }
def QlexWordsCardSaid : Prop := Claim7.holds Tryd.pinned (.plain (OpenSpec.ofChange qlexWordsSpec)) qlexWordsCard

/-- THE TIED CARD OF 'recensionlaw20.QlexQuotes'. -/
def qlexQuotesCard : Claim7 := { stood := { row := qlexQuotesRow, standIns := [], harness := (true, "3047dc026be9a21175688df04680d1fcfc05e155875cc1ca54f744a011e0204c"), looks := true }, kinds := [], alts := [], laidByText := true, laidKinds := [.data, .handle, .data, .data, .data, .data, .data, .pinned], laidTests := true, laidLooks := .later }
def QlexQuotesCardSaid : Prop := Claim7.holds Tryd.pinned (.plain (OpenSpec.ofChange qlexQuotesSpec)) qlexQuotesCard

/-- THE SECOND FORM's CARD OF 'recensionlaw20.QlexAgain'. -/
def qlexAgainUptoCard : Claim7 := { stood := { row := qlexAgainUptoRow, standIns := [], harness := (true, "3047dc026be9a21175688df04680d1fcfc05e155875cc1ca54f744a011e0204c"), looks := true }, kinds := [], alts := [], laidByText := true, laidKinds := [.data, .handle, .data, .data, .data, .data, .data, .pinned], laidTests := true, laidLooks := .later }
def QlexAgainUptoCardSaid : Prop := Claim7.holds Tryd.pinned (.plain (OpenSpec.upto qlexAgainSpec)) qlexAgainUptoCard

/-- THE SECOND FORM's CARD OF 'recensionlaw20.QlexWords'. -/
def qlexWordsUptoCard : Claim7 := { stood := { row := qlexWordsUptoRow, standIns := [], harness := (true, "3047dc026be9a21175688df04680d1fcfc05e155875cc1ca54f744a011e0204c"), looks := true }, kinds := [], alts := [], laidByText := true, laidKinds := [.data, .handle, .data, .data, .data, .data, .data, .pinned], laidTests := true, laidLooks := .later }
def QlexWordsUptoCardSaid : Prop := Claim7.holds Tryd.pinned (.plain (OpenSpec.upto qlexWordsSpec)) qlexWordsUptoCard

/-- THE SECOND FORM's CARD OF 'recensionlaw20.QlexQuotes'. -/
def qlexQuotesUptoCard : Claim7 := { stood := { row := qlexQuotesUptoRow, standIns := [], harness := (true, "3047dc026be9a21175688df04680d1fcfc05e155875cc1ca54f744a011e0204c"), looks := true }, kinds := [], alts := [], laidByText := true, laidKinds := [.data, .handle, .data, .data, .data, .data, .data, .pinned], laidTests := true, laidLooks := .later }
def QlexQuotesUptoCardSaid : Prop := Claim7.holds Tryd.pinned (.plain (OpenSpec.upto qlexQuotesSpec)) qlexQuotesUptoCard
end Rows
end Go.Proofs.YtkpgbcackphdbaaDoor
