/-
 Blanks; the reference's answers on what XML has, and on what a name may begin and go on with.
-/
import Derived.Test.YtjpkkflhcjjefaaGreatDoorBase
namespace Go.Proofs.YtjpkkflhcjjefaaGreatDoor
open Go.RowKit
def blankB (r : Int) : Bool := r == 9 || r == 10 || r == 13 || r == 32
def Stays (v : Value) (w : World) (e : Ending) (w' : World) : Prop := e = .returned v ∧ w' = w
theorem blank_calls (r : Int) (w : World) : Calls Tryz.prog 60 #[.int .i32 r] w (Stays (.bool (blankB r)) w) := by
 unfold blankB
 cases h9 : (r == 9) with
 | true =>
  go_enter Tryz.func60, Tryz.ntmps60
  go_wp2
  go_ret
  exact ⟨rfl, rfl⟩
 | false => cases h10 : (r == 10) with
  | true =>
   go_enter Tryz.func60, Tryz.ntmps60
   go_wp2
   go_ret
   exact ⟨rfl, rfl⟩
  | false => cases h13 : (r == 13) with
   | true =>
    go_enter Tryz.func60, Tryz.ntmps60
    go_wp2
    go_ret
    exact ⟨rfl, rfl⟩
   | false => cases h32 : (r == 32) with
    | true =>
     go_enter Tryz.func60, Tryz.ntmps60
     go_wp2
     go_ret
     exact ⟨rfl, rfl⟩
    | false =>
     go_enter Tryz.func60, Tryz.ntmps60
     go_wp2
     go_ret
     exact ⟨rfl, rfl⟩
end Go.Proofs.YtjpkkflhcjjefaaGreatDoor
