/-
  The program's takes. Conditions: the disk lies in memory; numbers and names are small.
-/
import Derived.Test.YtjhiekijbcjohaaGreatDoorArm
namespace Go.Proofs.YtjhiekijbcjohaaGreatDoor
open Go.RowKit Go.Lib Go.Joins

/-- Whether a file can be loaded beside those that are there. -/
def takesB (d : Dsk) (f : FilI) : Bool := nmd f.name && !(fnd f.name d.L).isSome && decide (d.L.length < 64) && decide (0 ≤ f.safe) && decide (f.safe ≤ (f.data.length : Int)) && decide ((f.data.length : Int) ≤ d.room - (used d.L : Int))

end Go.Proofs.YtjhiekijbcjohaaGreatDoor
