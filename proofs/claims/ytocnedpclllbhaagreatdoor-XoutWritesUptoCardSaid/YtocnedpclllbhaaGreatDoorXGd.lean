/-
 What a scan's steps tell of a document whose bytes are right: texts and values whose bytes are right, names that are names; tokens' places rise, no two rows of characters stand beside each other. Of no program. No condition.
-/
import Derived.Test.YtocnedpclllbhaaGreatDoorXU
import Derived.KernelRfl
namespace Go.Proofs.YtocnedpclllbhaaGreatDoor
open Go.RowKit Go.Lib Go.Joins

def badL (l : List UInt8) : Int := badZ (fs l) l.length
end Go.Proofs.YtocnedpclllbhaaGreatDoor
namespace Go.Proofs.YtocnedpclllbhaaGreatDoor
open Go.RowKit Go.Lib Go.Joins

end Go.Proofs.YtocnedpclllbhaaGreatDoor
namespace Go.Proofs.YtocnedpclllbhaaGreatDoor
open Go.RowKit Go.Lib Go.Joins

variable {N : Nat}
def Any {α : Type} (_ : α) : Prop := True
end Go.Proofs.YtocnedpclllbhaaGreatDoor
