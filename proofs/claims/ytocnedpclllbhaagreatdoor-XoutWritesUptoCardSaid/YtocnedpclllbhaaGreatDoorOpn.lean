/-
 From a row's list of laid variables to what the walks ask of the world; the wrap of a row that lists variables and keeps the world's shape; a world in which the listed variables hold what the program's text lays. No condition.
-/
import Derived.Test.YtocnedpclllbhaaGreatDoorXTo
import Derived.LaidMore
import Derived.LaidSub
import Derived.LaidHandle
import Derived.Lib.LaidTab
import Derived.Test.YtocnedpclllbhaaGreatDoorRows
import Derived.HandedShaped
import Derived.Lib.LaidU8T
import Derived.PinnedBridge
import Derived.Lay
import Derived.ChangeOld
import Derived.OpenShut
import Derived.ShutString
import Derived.LaidEql
import Derived.LaidOnce
import Derived.SevenTiedAt
namespace Go.Proofs.YtocnedpclllbhaaGreatDoor
open Go.ChangeShapes Go.WideShapes Go.ChangeAt Go.RowKit Go.Lib

theorem own : ownKnob Tryz.prog.godebug = none := by kernel_rfl
variable {H : Type} {enc : TypeId × Value → H}

end Go.Proofs.YtocnedpclllbhaaGreatDoor
namespace Go.Proofs.YtocnedpclllbhaaGreatDoor
open Go.ChangeShapes Go.WideShapes Go.ChangeAt Go.RowKit Go.Lib
end Go.Proofs.YtocnedpclllbhaaGreatDoor
