/-
  NARROWER THAN 'FOR EVERY INPUT', by the rows' own cells (each row's printed sentence says how): QlexAgain: laid · QlexWords: laid · QlexQuotes: laid.
  DERIVED. THE GIVEN ROWS OF THIS SEAT. 3 by the template 'for every input the law returns true; each argument reads behind the call as it read before'; 0 by the template 'total and deterministic' (their statements: YtkpgbcackphdbaaDoorTotals.lean).
  GIVEN WITH THE SEED: the statements are not yours to turn. If you find one false, say at which input.
  Laid BY PROGRAM, IN A SANDBOX (cutbox-rows.mjs): the forced cells as the released guide's own fill.sh prints them over the translation 04c73a3956d8feee… (all of the seat's roots in one cut). By AI agents, Wed Nov 11 2026. No macro, syntax, notation, axiom, sorry.
-/
import Derived.Test.YtkpgbcackphdbaaDoorChecked
import GoSem.PinnedTables
import GoSem.Claim
import GoSem.ClaimJoined
import GoSem.ClaimMapViews
import Derived.JoinedTies
import Derived.KernelRfl
namespace Go.Proofs.YtkpgbcackphdbaaDoor
/- THE CELL 'sum', in the pinned program and in every row, IS THE sha256 OF THE DUMP (.gsa) THAT YtkpgbcackphdbaaDoorProg.lean LOADS. Nothing in Lean hashes anything: it is a label: what it is worth is what the hold of that sum in a sandbox is worth. -/
noncomputable def Tryd.pinned : Pinned := { name := "ytkpgbcackphdbaadoor", sum := "04c73a3956d8feee18e329a3eb8703621deb9dade14cb8d004d04cc0c51502bc", checked := Tryd.checked }
namespace Rows
def none {H : Type} : Left H := { results := [], args := [] }

/- WHAT THE LISTED PACKAGE-LEVEL VARIABLES READ AS WHEN THE CALL BEGINS. Each datum BY PROGRAM (the guide's laid-datum.mjs) off the statement by which the dump's own 'gosem.cut.vars' lays the variable. In a bare row this is a premise. The card (YtkpgbcackphdbaaDoorCards.lean) ties it to the program's text. -/
def laid_unicode_utf8_acceptRanges {H : Type} : DataW H := .agg [.agg [.lit (.int .u8 128), .lit (.int .u8 191)], .agg [.lit (.int .u8 160), .lit (.int .u8 191)], .agg [.lit (.int .u8 128), .lit (.int .u8 159)], .agg [.lit (.int .u8 144), .lit (.int .u8 191)], .agg [.lit (.int .u8 128), .lit (.int .u8 143)], .agg [.lit (.int .u8 0), .lit (.int .u8 0)], .agg [.lit (.int .u8 0), .lit (.int .u8 0)], .agg [.lit (.int .u8 0), .lit (.int .u8 0)], .agg [.lit (.int .u8 0), .lit (.int .u8 0)], .agg [.lit (.int .u8 0), .lit (.int .u8 0)], .agg [.lit (.int .u8 0), .lit (.int .u8 0)], .agg [.lit (.int .u8 0), .lit (.int .u8 0)], .agg [.lit (.int .u8 0), .lit (.int .u8 0)], .agg [.lit (.int .u8 0), .lit (.int .u8 0)], .agg [.lit (.int .u8 0), .lit (.int .u8 0)], .agg [.lit (.int .u8 0), .lit (.int .u8 0)]]
def laid_errors_errorType {H : Type} : DataW H := .iface "internal/reflectlite.rtype" (.agg [.ptr (.lit (.string [101, 114, 114, 111, 114]))])
def laid_recension_utf_chars {H : Type} : DataW H := .agg [.agg [.lit (.int .i32 9), .lit (.int .i32 10)], .agg [.lit (.int .i32 13), .lit (.int .i32 13)], .agg [.lit (.int .i32 32), .lit (.int .i32 55295)], .agg [.lit (.int .i32 57344), .lit (.int .i32 65533)], .agg [.lit (.int .i32 65536), .lit (.int .i32 1114111)]]
def laid_recension_utf_first {H : Type} : DataW H := .agg [.agg [.lit (.int .i32 65), .lit (.int .i32 90)], .agg [.lit (.int .i32 95), .lit (.int .i32 95)], .agg [.lit (.int .i32 97), .lit (.int .i32 122)], .agg [.lit (.int .i32 192), .lit (.int .i32 214)], .agg [.lit (.int .i32 216), .lit (.int .i32 246)], .agg [.lit (.int .i32 248), .lit (.int .i32 767)], .agg [.lit (.int .i32 880), .lit (.int .i32 893)], .agg [.lit (.int .i32 895), .lit (.int .i32 8191)], .agg [.lit (.int .i32 8204), .lit (.int .i32 8205)], .agg [.lit (.int .i32 8304), .lit (.int .i32 8591)], .agg [.lit (.int .i32 11264), .lit (.int .i32 12271)], .agg [.lit (.int .i32 12289), .lit (.int .i32 55295)], .agg [.lit (.int .i32 63744), .lit (.int .i32 64975)], .agg [.lit (.int .i32 65008), .lit (.int .i32 65533)], .agg [.lit (.int .i32 65536), .lit (.int .i32 983039)]]
def laid_recension_utf_further {H : Type} : DataW H := .agg [.agg [.lit (.int .i32 45), .lit (.int .i32 46)], .agg [.lit (.int .i32 48), .lit (.int .i32 57)], .agg [.lit (.int .i32 183), .lit (.int .i32 183)], .agg [.lit (.int .i32 768), .lit (.int .i32 879)], .agg [.lit (.int .i32 8255), .lit (.int .i32 8256)]]
def laid_recension_qlex_marks {H : Type} : DataW H := .agg [.lit (.string [58, 58]), .lit (.string [46, 46]), .lit (.string [40]), .lit (.string [41]), .lit (.string [91]), .lit (.string [93]), .lit (.string [64]), .lit (.string [44]), .lit (.string [46])]
def laid_recension_qlex_operators {H : Type} : DataW H := .agg [.lit (.string [47, 47]), .lit (.string [33, 61]), .lit (.string [60, 61]), .lit (.string [62, 61]), .lit (.string [47]), .lit (.string [124]), .lit (.string [43]), .lit (.string [45]), .lit (.string [61]), .lit (.string [60]), .lit (.string [62])]
/-- One of Go's own tables, pinned by name: the form's constant. -/
def laid_unicode_utf8_first : DataW Unit := Go.Pinned.utf8First

/-- 'recensionlaw20.QlexAgain': WHATEVER THE INPUT: true; the input reads as it did. -/
def qlexAgainSpec : ChangeSpec := { name := "qlexAgain", fn := fun _ => fun
  | [d] => { results := [.lit (.bool true)], args := [d] }
  | _ => none }
def qlexAgainRow : OpenClaim := { program := "ytkpgbcackphdbaadoor", sum := "04c73a3956d8feee18e329a3eb8703621deb9dade14cb8d004d04cc0c51502bc", func := "recension/recensionlaw20.QlexAgain", spec := "qlexAgain", inPlace := ["internal/bytealg.IndexByteString", "internal/bytealg.IndexString", "internal/reflectlite.ValueOf", "(internal/reflectlite.Value).Type", "(internal/reflectlite.Value).IsNil", "internal/reflectlite.TypeOf", "(internal/reflectlite.Value).Elem", "(internal/reflectlite.Value).Set"], unfollowed := true, recurses := true, named := ["unicode/utf8.first", "unicode/utf8.acceptRanges", "recension/utf.chars", "internal/bytealg.MaxLen", "recension/utf.first", "recension/utf.further", "recension/qlex.marks", "recension/qlex.operators", "errors.errorType"], apart := false, laid := [("unicode/utf8.acceptRanges", laid_unicode_utf8_acceptRanges), ("errors.errorType", laid_errors_errorType), ("recension/utf.chars", laid_recension_utf_chars), ("recension/utf.first", laid_recension_utf_first), ("recension/utf.further", laid_recension_utf_further), ("recension/qlex.marks", laid_recension_qlex_marks), ("recension/qlex.operators", laid_recension_qlex_operators), ("unicode/utf8.first", laid_unicode_utf8_first)] }
def QlexAgainSaid : Prop := qlexAgainRow.holds Tryd.pinned (OpenSpec.ofChange qlexAgainSpec)

/-- ITS FALSE NEIGHBOUR: 'it returns false'. Refute it at one input. -/
def qlexAgainWrong : ChangeSpec := { name := "qlexAgain", fn := fun _ => fun
  | [d] => { results := [.lit (.bool false)], args := [d] }
  | _ => none }
def QlexAgainWrongFalsely : Prop := qlexAgainRow.holds Tryd.pinned (OpenSpec.ofChange qlexAgainWrong)

/-- 'recensionlaw20.QlexWords': WHATEVER THE INPUT: true; the input reads as it did. -/
def qlexWordsSpec : ChangeSpec := { name := "qlexWords", fn := fun _ => fun
  | [d1, d2] => { results := [.lit (.bool true)], args := [d1, d2] }
  | _ => none }
def qlexWordsRow : OpenClaim := { program := "ytkpgbcackphdbaadoor", sum := "04c73a3956d8feee18e329a3eb8703621deb9dade14cb8d004d04cc0c51502bc", func := "recension/recensionlaw20.QlexWords", spec := "qlexWords", inPlace := ["internal/bytealg.IndexByteString", "internal/bytealg.IndexString", "internal/reflectlite.ValueOf", "(internal/reflectlite.Value).Type", "(internal/reflectlite.Value).IsNil", "internal/reflectlite.TypeOf", "(internal/reflectlite.Value).Elem", "(internal/reflectlite.Value).Set"], unfollowed := true, recurses := true, named := ["unicode/utf8.first", "unicode/utf8.acceptRanges", "recension/utf.chars", "internal/bytealg.MaxLen", "recension/utf.first", "recension/utf.further", "recension/qlex.marks", "recension/qlex.operators", "errors.errorType"], apart := false, laid := [("unicode/utf8.acceptRanges", laid_unicode_utf8_acceptRanges), ("errors.errorType", laid_errors_errorType), ("recension/utf.chars", laid_recension_utf_chars), ("recension/utf.first", laid_recension_utf_first), ("recension/utf.further", laid_recension_utf_further), ("recension/qlex.marks", laid_recension_qlex_marks), ("recension/qlex.operators", laid_recension_qlex_operators), ("unicode/utf8.first", laid_unicode_utf8_first)] }
def QlexWordsSaid : Prop := qlexWordsRow.holds Tryd.pinned (OpenSpec.ofChange qlexWordsSpec)

/-- ITS FALSE NEIGHBOUR: 'it returns false'. Refute it at one input. -/
def qlexWordsWrong : ChangeSpec := { name := "qlexWords", fn := fun _ => fun
  | [d1, d2] => { results := [.lit (.bool false)], args := [d1, d2] }
  | _ => none }
def QlexWordsWrongFalsely : Prop := qlexWordsRow.holds Tryd.pinned (OpenSpec.ofChange qlexWordsWrong)

/-- 'recensionlaw20.QlexQuotes': WHATEVER THE INPUT: true; the input reads as it did. -/
def qlexQuotesSpec : ChangeSpec := { name := "qlexQuotes", fn := fun _ => fun
  | [d1, d2, d3] => { results := [.lit (.bool true)], args := [d1, d2, d3] }
  | _ => none }
def qlexQuotesRow : OpenClaim := { program := "ytkpgbcackphdbaadoor", sum := "04c73a3956d8feee18e329a3eb8703621deb9dade14cb8d004d04cc0c51502bc", func := "recension/recensionlaw20.QlexQuotes", spec := "qlexQuotes", inPlace := ["internal/bytealg.IndexByteString", "internal/bytealg.IndexString", "internal/reflectlite.ValueOf", "(internal/reflectlite.Value).Type", "(internal/reflectlite.Value).IsNil", "internal/reflectlite.TypeOf", "(internal/reflectlite.Value).Elem", "(internal/reflectlite.Value).Set"], unfollowed := true, recurses := true, named := ["unicode/utf8.first", "unicode/utf8.acceptRanges", "recension/utf.chars", "internal/bytealg.MaxLen", "recension/utf.first", "recension/utf.further", "recension/qlex.marks", "recension/qlex.operators", "errors.errorType"], apart := false, laid := [("unicode/utf8.acceptRanges", laid_unicode_utf8_acceptRanges), ("errors.errorType", laid_errors_errorType), ("recension/utf.chars", laid_recension_utf_chars), ("recension/utf.first", laid_recension_utf_first), ("recension/utf.further", laid_recension_utf_further), ("recension/qlex.marks", laid_recension_qlex_marks), ("recension/qlex.operators", laid_recension_qlex_operators), ("unicode/utf8.first", laid_unicode_utf8_first)] }
def QlexQuotesSaid : Prop := qlexQuotesRow.holds Tryd.pinned (OpenSpec.ofChange qlexQuotesSpec)

/-- ITS FALSE NEIGHBOUR: 'it returns false'. Refute it at one input. -/
def qlexQuotesWrong : ChangeSpec := { name := "qlexQuotes", fn := fun _ => fun
  | [d1, d2, d3] => { results := [.lit (.bool false)], args := [d1, d2, d3] }
  | _ => none }
def QlexQuotesWrongFalsely : Prop := qlexQuotesRow.holds Tryd.pinned (OpenSpec.ofChange qlexQuotesWrong)

/- THE SECOND FORM. 'bulk': how many values and letters a reading holds, each counted each time it is reached (what is shared counts as often as it is met; a slice's spare places count too). A statement '..UptoSaid' is the law's where the arguments, and the package variables that the reading takes, are together of bulk at most 1048576: NARROWER than '..Said'. Prove '..Said' where nothing that the law and all that it calls make is longer than what came in: it says more and counts as full. Else prove '..UptoSaid'. A law counts once. -/
mutual
def uptoBulk {H : Type} : DataW H → Nat
  | .lit (.string bytes) => bytes.length + 1
  | .lit _ => 1
  | .nil => 1
  | .ptr d => uptoBulk d + 1
  | .slice elems spare => uptoBulkAll elems + uptoBulkAll spare + 1
  | .agg parts => uptoBulkAll parts + 1
  | .iface _ d => uptoBulk d + 1
  | .map entries => uptoBulkEntries entries + 1
  | .held _ => 1
def uptoBulkAll {H : Type} : List (DataW H) → Nat
  | [] => 0
  | d :: r => uptoBulk d + uptoBulkAll r
def uptoBulkEntries {H : Type} : List (Lit × DataW H) → Nat
  | [] => 0
  | x :: r => uptoBulkEntry x + uptoBulkEntries r
def uptoBulkEntry {H : Type} : Lit × DataW H → Nat
  | (.string bytes, d) => bytes.length + uptoBulk d + 1
  | (_, d) => uptoBulk d + 1
 end
def uptoSmall : (H : Type) → List (DataW H) → Bool := fun _ ds => decide (uptoBulkAll ds ≤ 1048576)
def OpenSpec.upto (s : _root_.Go.ChangeSpec) : _root_.Go.OpenSpec := { _root_.Go.OpenSpec.ofChange s with cond := some uptoSmall }

/-- 'recensionlaw20.QlexAgain', WHERE WHAT IT READS IS OF BULK AT MOST 1048576: true; the input reads as it did. -/
def qlexAgainUptoRow : OpenClaim := { program := "ytkpgbcackphdbaadoor", sum := "04c73a3956d8feee18e329a3eb8703621deb9dade14cb8d004d04cc0c51502bc", func := "recension/recensionlaw20.QlexAgain", spec := "qlexAgain", inPlace := ["internal/bytealg.IndexByteString", "internal/bytealg.IndexString", "internal/reflectlite.ValueOf", "(internal/reflectlite.Value).Type", "(internal/reflectlite.Value).IsNil", "internal/reflectlite.TypeOf", "(internal/reflectlite.Value).Elem", "(internal/reflectlite.Value).Set"], unfollowed := true, recurses := true, named := ["unicode/utf8.first", "unicode/utf8.acceptRanges", "recension/utf.chars", "internal/bytealg.MaxLen", "recension/utf.first", "recension/utf.further", "recension/qlex.marks", "recension/qlex.operators", "errors.errorType"], apart := false, laid := [("unicode/utf8.acceptRanges", laid_unicode_utf8_acceptRanges), ("errors.errorType", laid_errors_errorType), ("recension/utf.chars", laid_recension_utf_chars), ("recension/utf.first", laid_recension_utf_first), ("recension/utf.further", laid_recension_utf_further), ("recension/qlex.marks", laid_recension_qlex_marks), ("recension/qlex.operators", laid_recension_qlex_operators), ("unicode/utf8.first", laid_unicode_utf8_first)], narrowed := true }
def QlexAgainUptoSaid : Prop := qlexAgainUptoRow.holds Tryd.pinned (OpenSpec.upto qlexAgainSpec)

/-- 'recensionlaw20.QlexWords', WHERE WHAT IT READS IS OF BULK AT MOST 1048576: true; the input reads as it did. -/
def qlexWordsUptoRow : OpenClaim := { program := "ytkpgbcackphdbaadoor", sum := "04c73a3956d8feee18e329a3eb8703621deb9dade14cb8d004d04cc0c51502bc", func := "recension/recensionlaw20.QlexWords", spec := "qlexWords", inPlace := ["internal/bytealg.IndexByteString", "internal/bytealg.IndexString", "internal/reflectlite.ValueOf", "(internal/reflectlite.Value).Type", "(internal/reflectlite.Value).IsNil", "internal/reflectlite.TypeOf", "(internal/reflectlite.Value).Elem", "(internal/reflectlite.Value).Set"], unfollowed := true, recurses := true, named := ["unicode/utf8.first", "unicode/utf8.acceptRanges", "recension/utf.chars", "internal/bytealg.MaxLen", "recension/utf.first", "recension/utf.further", "recension/qlex.marks", "recension/qlex.operators", "errors.errorType"], apart := false, laid := [("unicode/utf8.acceptRanges", laid_unicode_utf8_acceptRanges), ("errors.errorType", laid_errors_errorType), ("recension/utf.chars", laid_recension_utf_chars), ("recension/utf.first", laid_recension_utf_first), ("recension/utf.further", laid_recension_utf_further), ("recension/qlex.marks", laid_recension_qlex_marks), ("recension/qlex.operators", laid_recension_qlex_operators), ("unicode/utf8.first", laid_unicode_utf8_first)], narrowed := true }
def QlexWordsUptoSaid : Prop := qlexWordsUptoRow.holds Tryd.pinned (OpenSpec.upto qlexWordsSpec)

/-- 'recensionlaw20.QlexQuotes', WHERE WHAT IT READS IS OF BULK AT MOST 1048576: true; the input reads as it did. -/
def qlexQuotesUptoRow : OpenClaim := { program := "ytkpgbcackphdbaadoor", sum := "04c73a3956d8feee18e329a3eb8703621deb9dade14cb8d004d04cc0c51502bc", func := "recension/recensionlaw20.QlexQuotes", spec := "qlexQuotes", inPlace := ["internal/bytealg.IndexByteString", "internal/bytealg.IndexString", "internal/reflectlite.ValueOf", "(internal/reflectlite.Value).Type", "(internal/reflectlite.Value).IsNil", "internal/reflectlite.TypeOf", "(internal/reflectlite.Value).Elem", "(internal/reflectlite.Value).Set"], unfollowed := true, recurses := true, named := ["unicode/utf8.first", "unicode/utf8.acceptRanges", "recension/utf.chars", "internal/bytealg.MaxLen", "recension/utf.first", "recension/utf.further", "recension/qlex.marks", "recension/qlex.operators", "errors.errorType"], apart := false, laid := [("unicode/utf8.acceptRanges", laid_unicode_utf8_acceptRanges), ("errors.errorType", laid_errors_errorType), ("recension/utf.chars", laid_recension_utf_chars), ("recension/utf.first", laid_recension_utf_first), ("recension/utf.further", laid_recension_utf_further), ("recension/qlex.marks", laid_recension_qlex_marks), ("recension/qlex.operators", laid_recension_qlex_operators), ("unicode/utf8.first", laid_unicode_utf8_first)], narrowed := true }
def QlexQuotesUptoSaid : Prop := qlexQuotesUptoRow.holds Tryd.pinned (OpenSpec.upto qlexQuotesSpec)

end Rows
end Go.Proofs.YtkpgbcackphdbaaDoor
