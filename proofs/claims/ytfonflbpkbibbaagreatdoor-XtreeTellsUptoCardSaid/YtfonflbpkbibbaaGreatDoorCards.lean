/-
  DERIVED. GIVEN WITH THE SEED: THE CARDS: each row of YtfonflbpkbibbaaGreatDoorRows.lean that lists a variable, with what it lists TIED to the program's text (the seventh form; the later family's looks); each row that meets fmt, with fmt's text TOLD by the authors' own Lean function (tested against real Go, not proved from fmt's source: count such statements apart). THE CARD IS WHAT COUNTS. Prove the row's statement (the work); the ties are given (YtfonflbpkbibbaaGreatDoorTie.lean); close each card by the builder's one call (the guide's Derived/Test/ToyasCard.lean, 'card_holds'). Laid BY PROGRAM, IN A SANDBOX (cutbox-door.mjs). By AI agents, Wed Nov 11 2026. No macro, syntax, notation, axiom, sorry.
-/
import Derived.Test.YtfonflbpkbibbaaGreatDoorRows
import GoSem.ClaimSeven
namespace Go.Proofs.YtfonflbpkbibbaaGreatDoor
namespace Rows

/-- THE TIED CARD OF 'recensionlaw10.XtreeBounds'. -/
def xtreeBoundsCard : Claim7 := { stood := { row := xtreeBoundsRow, standIns := [], harness := (true, "6ac4d6d22d8d2e60bf968673142148a8c921f4c3d33fd4586bf71e85eb3cf8a8"), looks := true }, kinds := [], alts := [], laidByText := true, laidKinds := [.data, .data, .data, .data, .handle, .sentinel, .sentinel, .data, .data, .data, .data, .data, .pinned, .pinned], laidTests := true, laidLooks := .later }
def XtreeBoundsCardSaid : Prop := Claim7.holds Tryz.pinned (.plain (OpenSpec.ofChange xtreeBoundsSpec)) xtreeBoundsCard

/-- THE TIED CARD OF 'recensionlaw10.XtreeTells'. -/
def xtreeTellsCard : Claim7 := { stood := { row := xtreeTellsRow, standIns := [], harness := (true, "6ac4d6d22d8d2e60bf968673142148a8c921f4c3d33fd4586bf71e85eb3cf8a8"), looks := true }, kinds := [], alts := [], laidByText := true, laidKinds := [.data, .data, .data, .data, .handle, .sentinel, .sentinel, .data, .data, .data, .data, .data, .pinned, .pinned], laidTests := true, laidLooks := .later }
def XtreeTellsCardSaid : Prop := Claim7.holds Tryz.pinned (.plain (OpenSpec.ofChange xtreeTellsSpec)) xtreeTellsCard

/-- THE TIED CARD OF 'recensionlaw10.XtreeDeep'. -/
def xtreeDeepCard : Claim7 := { stood := { row := xtreeDeepRow, standIns := [], harness := (true, "6ac4d6d22d8d2e60bf968673142148a8c921f4c3d33fd4586bf71e85eb3cf8a8"), looks := true }, kinds := [], alts := [], laidByText := true, laidKinds := [.data, .data, .data, .data, .handle, .sentinel, .sentinel, .data, .data, .data, .data, .data, .pinned, .pinned], laidTests := true, laidLooks := .later }
def XtreeDeepCardSaid : Prop := Claim7.holds Tryz.pinned (.plain (OpenSpec.ofChange xtreeDeepSpec)) xtreeDeepCard

/-- THE TIED CARD OF 'recensionlaw11.XoutWrites'. -/
def xoutWritesCard : Claim7 := { stood := { row := xoutWritesRow, standIns := [], harness := (true, "6ac4d6d22d8d2e60bf968673142148a8c921f4c3d33fd4586bf71e85eb3cf8a8"), looks := true }, kinds := [], alts := [], laidByText := true, laidKinds := [.data, .data, .data, .data, .handle, .data, .data, .data, .data, .data, .pinned, .pinned], laidTests := true, laidLooks := .later }
def XoutWritesCardSaid : Prop := Claim7.holds Tryz.pinned (.plain (OpenSpec.ofChange xoutWritesSpec)) xoutWritesCard

/-- THE TIED CARD OF 'recensionlaw11.XoutBack'. -/
def xoutBackCard : Claim7 := { stood := { row := xoutBackRow, standIns := [], harness := (true, "6ac4d6d22d8d2e60bf968673142148a8c921f4c3d33fd4586bf71e85eb3cf8a8"), looks := true }, kinds := [], alts := [], laidByText := true, laidKinds := [.data, .data, .data, .data, .handle, .sentinel, .sentinel, .data, .data, .data, .data, .data, .pinned, .pinned], laidTests := true, laidLooks := .later }
def XoutBackCardSaid : Prop := Claim7.holds Tryz.pinned (.plain (OpenSpec.ofChange xoutBackSpec)) xoutBackCard

/-- THE TIED CARD OF 'recensionlaw11.XoutParsed'. -/
def xoutParsedCard : Claim7 := { stood := { row := xoutParsedRow, standIns := [], harness := (true, "6ac4d6d22d8d2e60bf968673142148a8c921f4c3d33fd4586bf71e85eb3cf8a8"), looks := true }, kinds := [], alts := [], laidByText := true, laidKinds := [.data, .data, .data, .data, .handle, .sentinel, .sentinel, .data, .data, .data, .data, .data, .pinned, .pinned], laidTests := true, laidLooks := .later }
def XoutParsedCardSaid : Prop := Claim7.holds Tryz.pinned (.plain (OpenSpec.ofChange xoutParsedSpec)) xoutParsedCard

/-- THE TIED CARD OF 'recensionlaw11.XoutTexts'. -/
def xoutTextsCard : Claim7 := { stood := { row := xoutTextsRow, standIns := [], harness := (true, "6ac4d6d22d8d2e60bf968673142148a8c921f4c3d33fd4586bf71e85eb3cf8a8"), looks := true }, kinds := [], alts := [], laidByText := true, laidKinds := [.data, .data, .data, .data, .handle, .sentinel, .sentinel, .data, .data, .data, .data, .data, .pinned, .pinned], laidTests := true, laidLooks := .later }
def XoutTextsCardSaid : Prop := Claim7.holds Tryz.pinned (.plain (OpenSpec.ofChange xoutTextsSpec)) xoutTextsCard

/-- THE SECOND FORM's CARD OF 'recensionlaw10.XtreeBounds'. -/
def xtreeBoundsUptoCard : Claim7 := { stood := { row := xtreeBoundsUptoRow, standIns := [], harness := (true, "6ac4d6d22d8d2e60bf968673142148a8c921f4c3d33fd4586bf71e85eb3cf8a8"), looks := true }, kinds := [], alts := [], laidByText := true, laidKinds := [.data, .data, .data, .data, .handle, .sentinel, .sentinel, .data, .data, .data, .data, .data, .pinned, .pinned], laidTests := true, laidLooks := .later }
def XtreeBoundsUptoCardSaid : Prop := Claim7.holds Tryz.pinned (.plain (OpenSpec.upto xtreeBoundsSpec)) xtreeBoundsUptoCard

/-- THE SECOND FORM's CARD OF 'recensionlaw10.XtreeTells'. -/
def xtreeTellsUptoCard : Claim7 := { stood := { row := xtreeTellsUptoRow, standIns := [], harness := (true, "6ac4d6d22d8d2e60bf968673142148a8c921f4c3d33fd4586bf71e85eb3cf8a8"), looks := true }, kinds := [], alts := [], laidByText := true, laidKinds := [.data, .data, .data, .data, .handle, .sentinel, .sentinel, .data, .data, .data, .data, .data, .pinned, .pinned], laidTests := true, laidLooks := .later }
def XtreeTellsUptoCardSaid : Prop := Claim7.holds Tryz.pinned (.plain (OpenSpec.upto xtreeTellsSpec)) xtreeTellsUptoCard

/-- THE SECOND FORM's CARD OF 'recensionlaw10.XtreeDeep'. -/
def xtreeDeepUptoCard : Claim7 := { stood := { row := xtreeDeepUptoRow, standIns := [], harness := (true, "6ac4d6d22d8d2e60bf968673142148a8c921f4c3d33fd4586bf71e85eb3cf8a8"), looks := true }, kinds := [], alts := [], laidByText := true, laidKinds := [.data, .data, .data, .data, .handle, .sentinel, .sentinel, .data, .data, .data, .data, .data, .pinned, .pinned], laidTests := true, laidLooks := .later }
def XtreeDeepUptoCardSaid : Prop := Claim7.holds Tryz.pinned (.plain (OpenSpec.upto xtreeDeepSpec)) xtreeDeepUptoCard

/-- THE SECOND FORM's CARD OF 'recensionlaw11.XoutWrites'. -/
def xoutWritesUptoCard : Claim7 := { stood := { row := xoutWritesUptoRow, standIns := [], harness := (true, "6ac4d6d22d8d2e60bf968673142148a8c921f4c3d33fd4586bf71e85eb3cf8a8"), looks := true }, kinds := [], alts := [], laidByText := true, laidKinds := [.data, .data, .data, .data, .handle, .data, .data, .data, .data, .data, .pinned, .pinned], laidTests := true, laidLooks := .later }
def XoutWritesUptoCardSaid : Prop := Claim7.holds Tryz.pinned (.plain (OpenSpec.upto xoutWritesSpec)) xoutWritesUptoCard

/-- THE SECOND FORM's CARD OF 'recensionlaw11.XoutBack'. -/
def xoutBackUptoCard : Claim7 := { stood := { row := xoutBackUptoRow, standIns := [], harness := (true, "6ac4d6d22d8d2e60bf968673142148a8c921f4c3d33fd4586bf71e85eb3cf8a8"), looks := true }, kinds := [], alts := [], laidByText := true, laidKinds := [.data, .data, .data, .data, .handle, .sentinel, .sentinel, .data, .data, .data, .data, .data, .pinned, .pinned], laidTests := true, laidLooks := .later }
def XoutBackUptoCardSaid : Prop := Claim7.holds Tryz.pinned (.plain (OpenSpec.upto xoutBackSpec)) xoutBackUptoCard

/-- THE SECOND FORM's CARD OF 'recensionlaw11.XoutParsed'. -/
def xoutParsedUptoCard : Claim7 := { stood := { row := xoutParsedUptoRow, standIns := [], harness := (true, "6ac4d6d22d8d2e60bf968673142148a8c921f4c3d33fd4586bf71e85eb3cf8a8"), looks := true }, kinds := [], alts := [], laidByText := true, laidKinds := [.data, .data, .data, .data, .handle, .sentinel, .sentinel, .data, .data, .data, .data, .data, .pinned, .pinned], laidTests := true, laidLooks := .later }
def XoutParsedUptoCardSaid : Prop := Claim7.holds Tryz.pinned (.plain (OpenSpec.upto xoutParsedSpec)) xoutParsedUptoCard

/-- THE SECOND FORM's CARD OF 'recensionlaw11.XoutTexts'. -/
def xoutTextsUptoCard : Claim7 := { stood := { row := xoutTextsUptoRow, standIns := [], harness := (true, "6ac4d6d22d8d2e60bf968673142148a8c921f4c3d33fd4586bf71e85eb3cf8a8"), looks := true }, kinds := [], alts := [], laidByText := true, laidKinds := [.data, .data, .data, .data, .handle, .sentinel, .sentinel, .data, .data, .data, .data, .data, .pinned, .pinned], laidTests := true, laidLooks := .later }
def XoutTextsUptoCardSaid : Prop := Claim7.holds Tryz.pinned (.plain (OpenSpec.upto xoutTextsSpec)) xoutTextsUptoCard
end Rows
end Go.Proofs.YtfonflbpkbibbaaGreatDoor
