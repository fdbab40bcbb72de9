/-
 strings.TrimFunc with the four blanks, as a function of a text's bytes: the blanks at both ends fall away; a second time nothing turns. No condition.
-/
import Derived.Lib.TrimAscii
import Derived.WalkKit
namespace Go.Proofs.YtocnedpclllbhaaGreatDoor
open Go.RowKit Go.Lib

def pBl (m : Nat) : Bool := m == 9 || m == 10 || m == 13 || m == 32
def isBl (b : UInt8) : Bool := pBl b.toNat

theorem pBl_high {m : Nat} (h : 128 ≤ m) : pBl m = false := by
  unfold pBl
  simp
  omega

theorem decodeN_high (n b0 b1 b2 b3 : Nat) (h : 128 ≤ b0) : 128 ≤ (decodeN n b0 b1 b2 b3).1 := by
  unfold decodeN
  repeat' split
  all_goals simp only
  all_goals omega

theorem rune_blank (b : UInt8) (t : List UInt8) : pBl (decodeL (b :: t)).1 = isBl b := by
  by_cases h : b.toNat < 128
  · rw [decodeL_ascii b t h]
    rfl
  · have h1 : isBl b = false := pBl_high (by omega)
    rw [h1, decodeL_N]
    exact pBl_high (decodeN_high _ _ _ _ _ (by show 128 ≤ b.toNat; omega))

end Go.Proofs.YtocnedpclllbhaaGreatDoor
