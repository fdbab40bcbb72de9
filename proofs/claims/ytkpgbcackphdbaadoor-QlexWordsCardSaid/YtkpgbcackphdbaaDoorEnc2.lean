/-
  The program's Encode, over the library's AppendRune; the reference's comparison of two rows of bytes. No condition.
-/
import Derived.Test.YtkpgbcackphdbaaDoorEnc
import Derived.Lib.Small
import Derived.Deep.AppendLies
import Derived.Deep.QuietTactic
import Derived.BigQuiet
import Derived.Test.YtkpgbcackphdbaaDoorRefTabs
namespace Go.Proofs.YtkpgbcackphdbaaDoor
open Go.RowKit Go.Lib

theorem encL_len (r : Int) : (encL r).length ≤ 4 := by
  unfold encL encN
  repeat' split
  all_goals simp

end Go.Proofs.YtkpgbcackphdbaaDoor
