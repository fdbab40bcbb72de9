/-
  DERIVED. GIVEN WITH THE SEED: THE CARDS: each row of YteddnomneeonhaaDoorRows.lean that lists a variable, with what it lists TIED to the program's text (the seventh form; the later family's looks); each row that meets fmt, with fmt's text TOLD by the authors' own Lean function (tested against real Go, not proved from fmt's source: count such statements apart). THE CARD IS WHAT COUNTS. Prove the row's statement (the work); the ties are given (YteddnomneeonhaaDoorTie.lean); close each card by the builder's one call (the guide's Derived/Test/ToyasCard.lean, 'card_holds'). Laid BY PROGRAM, IN A SANDBOX (cutbox-door.mjs). By AI agents, Wed Nov 11 2026. No macro, syntax, notation, axiom, sorry.
-/
import Derived.Test.YteddnomneeonhaaDoorRows
import GoSem.ClaimSeven
namespace Go.Proofs.YteddnomneeonhaaDoor
namespace Rows

/-- THE TIED CARD OF 'recensionlaw03.DeciTwo'. -/
def deciTwoCard : Claim7 := { stood := { row := deciTwoRow, standIns := [], harness := (true, "6bc0eb1aca367703f9761777f0dd7cbfa944565afb627d7f716f0b507a4a49f4"), looks := false }, kinds := [], alts := [], laidByText := true, laidKinds := [.data, .data, .data, .data, .pinned], laidTests := true, laidLooks := .later }
def DeciTwoCardSaid : Prop := Claim7.holds Tryd.pinned (.plain (OpenSpec.ofChange deciTwoSpec)) deciTwoCard

/-- THE TIED CARD OF 'recensionlaw03.DeciOne'. -/
def deciOneCard : Claim7 := { stood := { row := deciOneRow, standIns := [], harness := (true, "6bc0eb1aca367703f9761777f0dd7cbfa944565afb627d7f716f0b507a4a49f4"), looks := false }, kinds := [], alts := [], laidByText := true, laidKinds := [.data, .data, .data, .data, .pinned], laidTests := true, laidLooks := .later }
def DeciOneCardSaid : Prop := Claim7.holds Tryd.pinned (.plain (OpenSpec.ofChange deciOneSpec)) deciOneCard

/-- THE TIED CARD OF 'recensionlaw03.DeciParse'. -/
def deciParseCard : Claim7 := { stood := { row := deciParseRow, standIns := [], harness := (true, "6bc0eb1aca367703f9761777f0dd7cbfa944565afb627d7f716f0b507a4a49f4"), looks := false }, kinds := [], alts := [], laidByText := true, laidKinds := [.data, .data, .data, .data, .pinned], laidTests := true, laidLooks := .later }
def DeciParseCardSaid : Prop := Claim7.holds Tryd.pinned (.plain (OpenSpec.ofChange deciParseSpec)) deciParseCard

/-- THE TIED CARD OF 'recensionlaw03.DeciBack'. -/
def deciBackCard : Claim7 := { stood := { row := deciBackRow, standIns := [], harness := (true, "6bc0eb1aca367703f9761777f0dd7cbfa944565afb627d7f716f0b507a4a49f4"), looks := false }, kinds := [], alts := [], laidByText := true, laidKinds := [.data, .data, .data, .data, .pinned], laidTests := true, laidLooks := .later }
def DeciBackCardSaid : Prop := Claim7.holds Tryd.pinned (.plain (OpenSpec.ofChange deciBackSpec)) deciBackCard

/-- THE TIED CARD OF 'recensionlaw03.DeciRules'. -/
def deciRulesCard : Claim7 := { stood := { row := deciRulesRow, standIns := [], harness := (true, "6bc0eb1aca367703f9761777f0dd7cbfa944565afb627d7f716f0b507a4a49f4"), looks := false }, kinds := [], alts := [], laidByText := true, laidKinds := [.data, .data, .data, .data, .pinned], laidTests := true, laidLooks := .later }
def DeciRulesCardSaid : Prop := Claim7.holds Tryd.pinned (.plain (OpenSpec.ofChange deciRulesSpec)) deciRulesCard

/-- THE TIED CARD OF 'recensionlaw03.DeciUnits'. -/
def deciUnitsCard : Claim7 := { stood := { row := deciUnitsRow, standIns := [], harness := (true, "6bc0eb1aca367703f9761777f0dd7cbfa944565afb627d7f716f0b507a4a49f4"), looks := false }, kinds := [], alts := [], laidByText := true, laidKinds := [.data, .data, .data, .data, .pinned], laidTests := true, laidLooks := .later }
def DeciUnitsCardSaid : Prop := Claim7.holds Tryd.pinned (.plain (OpenSpec.ofChange deciUnitsSpec)) deciUnitsCard

/-- THE TIED CARD OF 'recensionlaw03.DeciOrder'. -/
def deciOrderCard : Claim7 := { stood := { row := deciOrderRow, standIns := [], harness := (true, "6bc0eb1aca367703f9761777f0dd7cbfa944565afb627d7f716f0b507a4a49f4"), looks := false }, kinds := [], alts := [], laidByText := true, laidKinds := [.data, .data, .data, .data, .pinned], laidTests := true, laidLooks := .later }
def DeciOrderCardSaid : Prop := Claim7.holds Tryd.pinned (.plain (OpenSpec.ofChange deciOrderSpec)) deciOrderCard

/-- THE SECOND FORM's CARD OF 'recensionlaw03.DeciTwo'. -/
def deciTwoUptoCard : Claim7 := { stood := { row := deciTwoUptoRow, standIns := [], harness := (true, "6bc0eb1aca367703f9761777f0dd7cbfa944565afb627d7f716f0b507a4a49f4"), looks := false }, kinds := [], alts := [], laidByText := true, laidKinds := [.data, .data, .data, .data, .pinned], laidTests := true, laidLooks := .later }
def DeciTwoUptoCardSaid : Prop := Claim7.holds Tryd.pinned (.plain (OpenSpec.upto deciTwoSpec)) deciTwoUptoCard

/-- THE SECOND FORM's CARD OF 'recensionlaw03.DeciOne'. -/
def deciOneUptoCard : Claim7 := { stood := { row := deciOneUptoRow, standIns := [], harness := (true, "6bc0eb1aca367703f9761777f0dd7cbfa944565afb627d7f716f0b507a4a49f4"), looks := false }, kinds := [], alts := [], laidByText := true, laidKinds := [.data, .data, .data, .data, .pinned], laidTests := true, laidLooks := .later }
def DeciOneUptoCardSaid : Prop := Claim7.holds Tryd.pinned (.plain (OpenSpec.upto deciOneSpec)) deciOneUptoCard

/-- THE SECOND FORM's CARD OF 'recensionlaw03.DeciParse'. -/
def deciParseUptoCard : Claim7 := { stood := { row := deciParseUptoRow, standIns := [], harness := (true, "6bc0eb1aca367703f9761777f0dd7cbfa944565afb627d7f716f0b507a4a49f4"), looks := false }, kinds := [], alts := [], laidByText := true, laidKinds := [.data, .data, .data, .data, .pinned], laidTests := true, laidLooks := .later }
def DeciParseUptoCardSaid : Prop := Claim7.holds Tryd.pinned (.plain (OpenSpec.upto deciParseSpec)) deciParseUptoCard

/-- THE SECOND FORM's CARD OF 'recensionlaw03.DeciBack'. -/
def deciBackUptoCard : Claim7 := { stood := { row := deciBackUptoRow, standIns := [], harness := (true, "6bc0eb1aca367703f9761777f0dd7cbfa944565afb627d7f716f0b507a4a49f4"), looks := false }, kinds := [], alts := [], laidByText := true, laidKinds := [.data, .data, .data, .data, .pinned], laidTests := true, laidLooks := .later }
def DeciBackUptoCardSaid : Prop := Claim7.holds Tryd.pinned (.plain (OpenSpec.upto deciBackSpec)) deciBackUptoCard

/-- THE SECOND FORM's CARD OF 'recensionlaw03.DeciRules'. -/
def deciRulesUptoCard : Claim7 := { stood := { row := deciRulesUptoRow, standIns := [], harness := (true, "6bc0eb1aca367703f9761777f0dd7cbfa944565afb627d7f716f0b507a4a49f4"), looks := false }, kinds := [], alts := [], laidByText := true, laidKinds := [.data, .data, .data, .data, .pinned], laidTests := true, laidLooks := .later }
def DeciRulesUptoCardSaid : Prop := Claim7.holds Tryd.pinned (.plain (OpenSpec.upto deciRulesSpec)) deciRulesUptoCard

/-- THE SECOND FORM's CARD OF 'recensionlaw03.DeciUnits'. -/
def deciUnitsUptoCard : Claim7 := { stood := { row := deciUnitsUptoRow, standIns := [], harness := (true, "6bc0eb1aca367703f9761777f0dd7cbfa944565afb627d7f716f0b507a4a49f4"), looks := false }, kinds := [], alts := [], laidByText := true, laidKinds := [.data, .data, .data, .data, .pinned], laidTests := true, laidLooks := .later }
def DeciUnitsUptoCardSaid : Prop := Claim7.holds Tryd.pinned (.plain (OpenSpec.upto deciUnitsSpec)) deciUnitsUptoCard

/-- THE SECOND FORM's CARD OF 'recensionlaw03.DeciOrder'. -/
def deciOrderUptoCard : Claim7 := { stood := { row := deciOrderUptoRow, standIns := [], harness := (true, "6bc0eb1aca367703f9761777f0dd7cbfa944565afb627d7f716f0b507a4a49f4"), looks := false }, kinds := [], alts := [], laidByText := true, laidKinds := [.data, .data, .data, .data, .pinned], laidTests := true, laidLooks := .later }
def DeciOrderUptoCardSaid : Prop := Claim7.holds Tryd.pinned (.plain (OpenSpec.upto deciOrderSpec)) deciOrderUptoCard
end Rows
end Go.Proofs.YteddnomneeonhaaDoor
