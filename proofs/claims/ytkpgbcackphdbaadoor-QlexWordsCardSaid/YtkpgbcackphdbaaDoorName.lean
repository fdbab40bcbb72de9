/-
  The program's Name, over the library's ValidString and a range over the text. Condition: the tables hold what their initialisers lay.
-/
import Derived.Test.YtkpgbcackphdbaaDoorNext
import Derived.Lib.ValidU
import Derived.Lib.OthersKept
import Derived.Lib.TrimUEq
namespace Go.Proofs.YtkpgbcackphdbaaDoor
open Go.RowKit Go.Lib

def beginsB (r : Int) : Bool := inTab firstsT r
def goesB (r : Int) : Bool := inTab furtherT r || inTab firstsT r

/-- A text's bytes as numbers. -/
def fs (l : List UInt8) (i : Nat) : Nat := (l.getD i 0).toNat
def dN (f : Nat → Nat) (N p : Nat) : Nat × Nat := decodeN (N - p) (f p) (f (p + 1)) (f (p + 2)) (f (p + 3))

theorem fs_lt (l : List UInt8) (i : Nat) : fs l i < 256 := (l.getD i 0).toNat_lt

/-- What the range over the text tells: each rune goes on, the first begins. -/
def walkP (f : Nat → Nat) (N : Nat) : Nat → Nat → Bool
  | 0, _ => true
  | g + 1, p => if p < N then (if p = 0 ∧ beginsB (dN f N p).1 = false then false else if goesB (dN f N p).1 = false then false else walkP f N g (p + (dN f N p).2)) else true

theorem decodeN_pos (n b0 b1 b2 b3 : Nat) : 1 ≤ (decodeN n b0 b1 b2 b3).2 := by
  unfold decodeN
  repeat' split
  all_goals simp

def nameP (l : List UInt8) : Bool := !l.isEmpty && validD l && walkP (fs l) l.length l.length 0

theorem iter_below {w w' : World} {k : Nat} {o : Obj} (hb : Below w.heap.size w w') (h : w.heap[k]? = some o) : w'.heap[k]? = some o := by
  rw [hb.block k (Array.getElem?_eq_some_iff.1 h).1, h]

end Go.Proofs.YtkpgbcackphdbaaDoor
