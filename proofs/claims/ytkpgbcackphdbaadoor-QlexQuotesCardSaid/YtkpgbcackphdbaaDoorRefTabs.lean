/-
  Blanks; the reference's answers on what XML has, and on what a name may begin and go on with. No condition.
-/
import Derived.Test.YtkpgbcackphdbaaDoorBase
namespace Go.Proofs.YtkpgbcackphdbaaDoor
open Go.RowKit

def blankB (r : Int) : Bool := r == 9 || r == 10 || r == 13 || r == 32

/-- A call that returns one value; the world is as it was. -/
def Stays (v : Value) (w : World) (e : Ending) (w' : World) : Prop := e = .returned v ∧ w' = w

theorem blank_calls (r : Int) (w : World) : Calls Tryd.prog 23 #[.int .i32 r] w (Stays (.bool (blankB r)) w) := by
  unfold blankB
  cases h9 : (r == 9) with
  | true =>
    go_enter Tryd.func23, Tryd.ntmps23
    go_wp2
    go_ret
    exact ⟨rfl, rfl⟩
  | false => cases h10 : (r == 10) with
    | true =>
      go_enter Tryd.func23, Tryd.ntmps23
      go_wp2
      go_ret
      exact ⟨rfl, rfl⟩
    | false => cases h13 : (r == 13) with
      | true =>
        go_enter Tryd.func23, Tryd.ntmps23
        go_wp2
        go_ret
        exact ⟨rfl, rfl⟩
      | false => cases h32 : (r == 32) with
        | true =>
          go_enter Tryd.func23, Tryd.ntmps23
          go_wp2
          go_ret
          exact ⟨rfl, rfl⟩
        | false =>
          go_enter Tryd.func23, Tryd.ntmps23
          go_wp2
          go_ret
          exact ⟨rfl, rfl⟩

theorem inPair_one (r a : Int) : inPair r (a, a) = (r == a) := by
  unfold inPair
  rw [Bool.eq_iff_iff]
  simp
  omega

theorem inPair_two (r a : Int) : inPair r (a, a + 1) = (r == a || r == a + 1) := by
  unfold inPair
  rw [Bool.eq_iff_iff]
  simp
  omega

theorem further_two (r : Int) : inTab furtherT r = ((r == 45 || r == 46) || inPair r (48, 57) || r == 183 || inPair r (768, 879) || (r == 8255 || r == 8256)) := by
  simp only [inTab, furtherT, List.any_cons, List.any_nil, Bool.or_false, inPair_one, show inPair r (45, 46) = (r == 45 || r == 46) from inPair_two r 45, show inPair r (8255, 8256) = (r == 8255 || r == 8256) from inPair_two r 8255, Bool.or_assoc]

theorem chars_two (r : Int) : inTab charsT r = ((r == 9 || r == 10) || r == 13 || inPair r (32, 55295) || inPair r (57344, 65533) || inPair r (65536, 1114111)) := by
  simp only [inTab, charsT, List.any_cons, List.any_nil, Bool.or_false, inPair_one, show inPair r (9, 10) = (r == 9 || r == 10) from inPair_two r 9, Bool.or_assoc]

set_option maxRecDepth 100000 in
set_option maxHeartbeats 4000000 in
theorem refChar_calls (r : Int) (w : World) : Calls Tryd.prog 35 #[.int .i32 r] w (Stays (.bool (inTab charsT r)) w) := by
  rw [chars_two]
  unfold inPair
  cases h9 : (r == 9) with
  | true => go_enter Tryd.func35, Tryd.ntmps35; go_wp2; go_ret; exact ⟨rfl, rfl⟩
  | false => cases h10 : (r == 10) with
    | true => go_enter Tryd.func35, Tryd.ntmps35; go_wp2; go_ret; exact ⟨rfl, rfl⟩
    | false => cases h13 : (r == 13) with
      | true => go_enter Tryd.func35, Tryd.ntmps35; go_wp2; go_ret; exact ⟨rfl, rfl⟩
      | false =>
        rcases (show (decide (r ≥ 32) = true ∧ decide (r ≤ 55295) = true) ∨ (decide (r ≥ 32) = true ∧ decide (r ≤ 55295) = false ∧ decide (r ≥ 57344) = true ∧ decide (r ≤ 65533) = true) ∨ (decide (r ≥ 32) = true ∧ decide (r ≤ 55295) = false ∧ decide (r ≥ 57344) = true ∧ decide (r ≤ 65533) = false ∧ decide (r ≥ 65536) = true) ∨ (decide (r ≥ 32) = true ∧ decide (r ≤ 55295) = false ∧ decide (r ≥ 57344) = true ∧ decide (r ≤ 65533) = false ∧ decide (r ≥ 65536) = false) ∨ (decide (r ≥ 32) = true ∧ decide (r ≤ 55295) = false ∧ decide (r ≥ 57344) = false ∧ decide (r ≥ 65536) = false) ∨ (decide (r ≥ 32) = false ∧ decide (r ≥ 57344) = false ∧ decide (r ≥ 65536) = false) from by simp only [decide_eq_true_eq, decide_eq_false_iff_not]; omega) with ⟨d1, d2⟩ | ⟨d1, d2, d3, d4⟩ | ⟨d1, d2, d3, d4, d5⟩ | ⟨d1, d2, d3, d4, d5⟩ | ⟨d1, d2, d3, d4⟩ | ⟨d1, d2, d3⟩
        all_goals
          go_enter Tryd.func35, Tryd.ntmps35
          go_wp2
          go_ret
          refine ⟨?_, rfl⟩
          show Ending.returned (Value.bool _) = Ending.returned (Value.bool _)
          congr 2
          simp only [decide_eq_true_eq, decide_eq_false_iff_not] at *
          rw [Bool.eq_iff_iff]
          simp
          omega

end Go.Proofs.YtkpgbcackphdbaaDoor
