/-
  The program's Next, at every slice of bytes and every place. Condition: the tables of unicode/utf8 and of the program hold what their initialisers lay.
-/
import Derived.Test.YtojpjhfafbdpcaaGreatDoorDecode
import Derived.Test.YtojpjhfafbdpcaaGreatDoorTabs
namespace Go.Proofs.YtojpjhfafbdpcaaGreatDoor
open Go.RowKit Go.Lib

/-- What the laid variables hold. -/
def Laid (w : World) : Prop := Lib.Utf8Tabs 1 2 w ∧ True ∧ TabAt 3 firstsT w ∧ TabAt 4 furtherT w

theorem Laid.below {w w' : World} (h : Laid w) (hb : Below w.heap.size w w') : Laid w' :=
  ⟨⟨fun c hc => cell_below hb (h.1.1 c hc), fun i hi => ⟨cell_below hb (h.1.2 i hi).1, cell_below hb (h.1.2 i hi).2⟩⟩, trivial, h.2.2.1.below hb, h.2.2.2.below hb⟩

/-- The rune at a place of a row of bytes and its width, if XML has it; else 0 and 0. -/
def nx (f : Nat → Nat) (n k : Nat) : Nat × Nat :=
  let d := decodeN (n - k) (f k) (f (k + 1)) (f (k + 2)) (f (k + 3))
  if inTab charsT d.1 = true ∧ ¬ (d.1 = 65533 ∧ d.2 = 1) then d else (0, 0)

def nextZ (f : Nat → Nat) (n : Nat) (at' : Int) : Nat × Nat := if at' < 0 ∨ (n : Int) ≤ at' then (0, 0) else nx f n at'.toNat

end Go.Proofs.YtojpjhfafbdpcaaGreatDoor
