/-
 Names, attributes and start tags, written and read. Of no program. No condition.
-/
import Derived.Test.YtocnedpclllbhaaGreatDoorXGd
import Derived.Test.YtocnedpclllbhaaGreatDoorOE
namespace Go.Proofs.YtocnedpclllbhaaGreatDoor
open Go.RowKit Go.Lib Go.Joins

/-- An attribute, written. -/
def attrB (a : List UInt8 × List UInt8) : List UInt8 := 32 :: (a.1 ++ 61 :: 34 :: (escS true a.2 ++ [34]))
def attrsB (l : List (List UInt8 × List UInt8)) : List UInt8 := l.flatMap attrB
end Go.Proofs.YtocnedpclllbhaaGreatDoor
