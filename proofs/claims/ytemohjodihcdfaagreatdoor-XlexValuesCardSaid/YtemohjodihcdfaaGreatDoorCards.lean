/-
  DERIVED. GIVEN WITH THE SEED: THE CARDS: each row of YtemohjodihcdfaaGreatDoorRows.lean that lists a variable, with what it lists TIED to the program's text (the seventh form; the later family's looks); each row that meets fmt, with fmt's text TOLD by the authors' own Lean function (tested against real Go, not proved from fmt's source: count such statements apart). THE CARD IS WHAT COUNTS. Prove the row's statement (the work); the ties are given (YtemohjodihcdfaaGreatDoorTie.lean); close each card by the builder's one call (the guide's Derived/Test/ToyasCard.lean, 'card_holds'). Laid BY PROGRAM, IN A SANDBOX (cutbox-door.mjs). By AI agents, Wed Nov 11 2026. No macro, syntax, notation, axiom, sorry.
-/
import Derived.Test.YtemohjodihcdfaaGreatDoorRows
import GoSem.ClaimSeven
namespace Go.Proofs.YtemohjodihcdfaaGreatDoor
namespace Rows

/-- THE TIED CARD OF 'recensionlaw09.XlexPlaces'. -/
def xlexPlacesCard : Claim7 := { stood := { row := xlexPlacesRow, standIns := [], harness := (true, "a59d6c1be287e6fdce59473e07af1dc314597b7e9514292229055911582a035f"), looks := true }, kinds := [], alts := [], laidByText := true, laidKinds := [.data, .data, .data, .data, .handle, .sentinel, .sentinel, .data, .data, .data, .data, .data, .pinned, .pinned], laidTests := true, laidLooks := .later }
def XlexPlacesCardSaid : Prop := Claim7.holds Tryz.pinned (.plain (OpenSpec.ofChange xlexPlacesSpec)) xlexPlacesCard

/-- THE TIED CARD OF 'recensionlaw09.XlexJoins'. -/
def xlexJoinsCard : Claim7 := { stood := { row := xlexJoinsRow, standIns := [], harness := (true, "a59d6c1be287e6fdce59473e07af1dc314597b7e9514292229055911582a035f"), looks := true }, kinds := [], alts := [], laidByText := true, laidKinds := [.data, .data, .data, .data, .handle, .sentinel, .sentinel, .data, .data, .data, .data, .data, .pinned, .pinned], laidTests := true, laidLooks := .later }
def XlexJoinsCardSaid : Prop := Claim7.holds Tryz.pinned (.plain (OpenSpec.ofChange xlexJoinsSpec)) xlexJoinsCard

/-- THE TIED CARD OF 'recensionlaw09.XlexPlain'. -/
def xlexPlainCard : Claim7 := { stood := { row := xlexPlainRow, standIns := [], harness := (true, "a59d6c1be287e6fdce59473e07af1dc314597b7e9514292229055911582a035f"), looks := true }, kinds := [], alts := [], laidByText := true, laidKinds := [.data, .data, .data, .data, .handle, .sentinel, .sentinel, .data, .data, .data, .data, .data, .pinned, .pinned], laidTests := true, laidLooks := .later }
def XlexPlainCardSaid : Prop := Claim7.holds Tryz.pinned (.plain (OpenSpec.ofChange xlexPlainSpec)) xlexPlainCard

/-- THE TIED CARD OF 'recensionlaw09.XlexValues'. -/
def xlexValuesCard : Claim7 := { stood := { row := xlexValuesRow, standIns := [], harness := (true, "a59d6c1be287e6fdce59473e07af1dc314597b7e9514292229055911582a035f"), looks := true }, kinds := [], alts := [], laidByText := true, laidKinds := [.data, .data, .data, .data, .handle, .sentinel, .sentinel, .data, .data, .data, .data, .data, .pinned, .pinned], laidTests := true, laidLooks := .later }
def XlexValuesCardSaid : Prop := Claim7.holds Tryz.pinned (.plain (OpenSpec.ofChange xlexValuesSpec)) xlexValuesCard

/-- THE TIED CARD OF 'recensionlaw10.XtreeBounds'. -/
def xtreeBoundsCard : Claim7 := { stood := { row := xtreeBoundsRow, standIns := [], harness := (true, "a59d6c1be287e6fdce59473e07af1dc314597b7e9514292229055911582a035f"), looks := true }, kinds := [], alts := [], laidByText := true, laidKinds := [.data, .data, .data, .data, .handle, .sentinel, .sentinel, .data, .data, .data, .data, .data, .pinned, .pinned], laidTests := true, laidLooks := .later }
def XtreeBoundsCardSaid : Prop := Claim7.holds Tryz.pinned (.plain (OpenSpec.ofChange xtreeBoundsSpec)) xtreeBoundsCard

/-- THE TIED CARD OF 'recensionlaw10.XtreeTells'. -/
def xtreeTellsCard : Claim7 := { stood := { row := xtreeTellsRow, standIns := [], harness := (true, "a59d6c1be287e6fdce59473e07af1dc314597b7e9514292229055911582a035f"), looks := true }, kinds := [], alts := [], laidByText := true, laidKinds := [.data, .data, .data, .data, .handle, .sentinel, .sentinel, .data, .data, .data, .data, .data, .pinned, .pinned], laidTests := true, laidLooks := .later }
def XtreeTellsCardSaid : Prop := Claim7.holds Tryz.pinned (.plain (OpenSpec.ofChange xtreeTellsSpec)) xtreeTellsCard

/-- THE TIED CARD OF 'recensionlaw10.XtreeDeep'. -/
def xtreeDeepCard : Claim7 := { stood := { row := xtreeDeepRow, standIns := [], harness := (true, "a59d6c1be287e6fdce59473e07af1dc314597b7e9514292229055911582a035f"), looks := true }, kinds := [], alts := [], laidByText := true, laidKinds := [.data, .data, .data, .data, .handle, .sentinel, .sentinel, .data, .data, .data, .data, .data, .pinned, .pinned], laidTests := true, laidLooks := .later }
def XtreeDeepCardSaid : Prop := Claim7.holds Tryz.pinned (.plain (OpenSpec.ofChange xtreeDeepSpec)) xtreeDeepCard

/-- THE SECOND FORM's CARD OF 'recensionlaw09.XlexPlaces'. -/
def xlexPlacesUptoCard : Claim7 := { stood := { row := xlexPlacesUptoRow, standIns := [], harness := (true, "a59d6c1be287e6fdce59473e07af1dc314597b7e9514292229055911582a035f"), looks := true }, kinds := [], alts := [], laidByText := true, laidKinds := [.data, .data, .data, .data, .handle, .sentinel, .sentinel, .data, .data, .data, .data, .data, .pinned, .pinned], laidTests := true, laidLooks := .later }
def XlexPlacesUptoCardSaid : Prop := Claim7.holds Tryz.pinned (.plain (OpenSpec.upto xlexPlacesSpec)) xlexPlacesUptoCard

/-- THE SECOND FORM's CARD OF 'recensionlaw09.XlexJoins'. -/
def xlexJoinsUptoCard : Claim7 := { stood := { row := xlexJoinsUptoRow, standIns := [], harness := (true, "a59d6c1be287e6fdce59473e07af1dc314597b7e9514292229055911582a035f"), looks := true }, kinds := [], alts := [], laidByText := true, laidKinds := [.data, .data, .data, .data, .handle, .sentinel, .sentinel, .data, .data, .data, .data, .data, .pinned, .pinned], laidTests := true, laidLooks := .later }
def XlexJoinsUptoCardSaid : Prop := Claim7.holds Tryz.pinned (.plain (OpenSpec.upto xlexJoinsSpec)) xlexJoinsUptoCard

/-- THE SECOND FORM's CARD OF 'recensionlaw09.XlexPlain'. -/
def xlexPlainUptoCard : Claim7 := { stood := { row := xlexPlainUptoRow, standIns := [], harness := (true, "a59d6c1be287e6fdce59473e07af1dc314597b7e9514292229055911582a035f"), looks := true }, kinds := [], alts := [], laidByText := true, laidKinds := [.data, .data, .data, .data, .handle, .sentinel, .sentinel, .data, .data, .data, .data, .data, .pinned, .pinned], laidTests := true, laidLooks := .later }
def XlexPlainUptoCardSaid : Prop := Claim7.holds Tryz.pinned (.plain (OpenSpec.upto xlexPlainSpec)) xlexPlainUptoCard

/-- THE SECOND FORM's CARD OF 'recensionlaw09.XlexValues'. -/
def xlexValuesUptoCard : Claim7 := { stood := { row := xlexValuesUptoRow, standIns := [], harness := (true, "a59d6c1be287e6fdce59473e07af1dc314597b7e9514292229055911582a035f"), looks := true }, kinds := [], alts := [], laidByText := true, laidKinds := [.data, .data, .data, .data, .handle, .sentinel, .sentinel, .data, .data, .data, .data, .data, .pinned, .pinned], laidTests := true, laidLooks := .later }
def XlexValuesUptoCardSaid : Prop := Claim7.holds Tryz.pinned (.plain (OpenSpec.upto xlexValuesSpec)) xlexValuesUptoCard

/-- THE SECOND FORM's CARD OF 'recensionlaw10.XtreeBounds'. -/
def xtreeBoundsUptoCard : Claim7 := { stood := { row := xtreeBoundsUptoRow, standIns := [], harness := (true, "a59d6c1be287e6fdce59473e07af1dc314597b7e9514292229055911582a035f"), looks := true }, kinds := [], alts := [], laidByText := true, laidKinds := [.data, .data, .data, .data, .handle, .sentinel, .sentinel, .data, .data, .data, .data, .data, .pinned, .pinned], laidTests := true, laidLooks := .later }
def XtreeBoundsUptoCardSaid : Prop := Claim7.holds Tryz.pinned (.plain (OpenSpec.upto xtreeBoundsSpec)) xtreeBoundsUptoCard

/-- THE SECOND FORM's CARD OF 'recensionlaw10.XtreeTells'. -/
def xtreeTellsUptoCard : Claim7 := { stood := { row := xtreeTellsUptoRow, standIns := [], harness := (true, "a59d6c1be287e6fdce59473e07af1dc314597b7e9514292229055911582a035f"), looks := true }, kinds := [], alts := [], laidByText := true, laidKinds := [.data, .data, .data, .data, .handle, .sentinel, .sentinel, .data, .data, .data, .data, .data, .pinned, .pinned], laidTests := true, laidLooks := .later }
def XtreeTellsUptoCardSaid : Prop := Claim7.holds Tryz.pinned (.plain (OpenSpec.upto xtreeTellsSpec)) xtreeTellsUptoCard

/-- THE SECOND FORM's CARD OF 'recensionlaw10.XtreeDeep'. -/
def xtreeDeepUptoCard : Claim7 := { stood := { row := xtreeDeepUptoRow, standIns := [], harness := (true, "a59d6c1be287e6fdce59473e07af1dc314597b7e9514292229055911582a035f"), looks := true }, kinds := [], alts := [], laidByText := true, laidKinds := [.data, .data, .data, .data, .handle, .sentinel, .sentinel, .data, .data, .data, .data, .data, .pinned, .pinned], laidTests := true, laidLooks := .later }
def XtreeDeepUptoCardSaid : Prop := Claim7.holds Tryz.pinned (.plain (OpenSpec.upto xtreeDeepSpec)) xtreeDeepUptoCard
end Rows
end Go.Proofs.YtemohjodihcdfaaGreatDoor
