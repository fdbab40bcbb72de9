/-
  DERIVED. GIVEN WITH THE SEED: THE CARDS: each row of YtjhiekijbcjohaaDoorRows.lean that lists a variable, with what it lists TIED to the program's text (the seventh form; the later family's looks); each row that meets fmt, with fmt's text TOLD by the authors' own Lean function (tested against real Go, not proved from fmt's source: count such statements apart). THE CARD IS WHAT COUNTS. Prove the row's statement (the work); the ties are given (YtjhiekijbcjohaaDoorTie.lean); close each card by the builder's one call (the guide's Derived/Test/ToyasCard.lean, 'card_holds'). Laid BY PROGRAM, IN A SANDBOX (cutbox-door.mjs). By AI agents, Wed Nov 11 2026. No macro, syntax, notation, axiom, sorry.
-/
import Derived.Test.YtjhiekijbcjohaaDoorRows
import GoSem.ClaimSeven
namespace Go.Proofs.YtjhiekijbcjohaaDoor
namespace Rows

/-- THE TIED CARD OF 'recensionlaw07.SegScans'. -/
def segScansCard : Claim7 := { stood := { row := segScansRow, standIns := [], harness := (true, "03410f6c547c4b99077d2358af7e530dac6d79d904e00960c4a74ac9eb015190"), looks := false }, kinds := [], alts := [], laidByText := true, laidKinds := [.data, .data, .data], laidTests := true, laidLooks := .later }
def SegScansCardSaid : Prop := Claim7.holds Tryd.pinned (.plain (OpenSpec.ofChange segScansSpec)) segScansCard

/-- THE SECOND FORM's CARD OF 'recensionlaw07.SegScans'. -/
def segScansUptoCard : Claim7 := { stood := { row := segScansUptoRow, standIns := [], harness := (true, "03410f6c547c4b99077d2358af7e530dac6d79d904e00960c4a74ac9eb015190"), looks := false }, kinds := [], alts := [], laidByText := true, laidKinds := [.data, .data, .data], laidTests := true, laidLooks := .later }
def SegScansUptoCardSaid : Prop := Claim7.holds Tryd.pinned (.plain (OpenSpec.upto segScansSpec)) segScansUptoCard
end Rows
end Go.Proofs.YtjhiekijbcjohaaDoor
