/-
  What the walks of this seat share: how a call is told that leaves one value and makes new blocks alone; the tables of ranges of runes. No condition.
-/
import Derived.Test.YtkpgbcackphdbaaDoorChecked
import Derived.WalkKit
import Derived.ProofKit
import Derived.Below
import Derived.Lib.Walk
import Derived.Deep.LoopGhost
import Derived.Deep.MidRow
import Derived.Lib.Hide
namespace Go.Proofs.YtkpgbcackphdbaaDoor
open Go.RowKit

/-- A call that returns one value and turns nothing that was there. -/
def Leaves (v : Value) (w : World) (e : Ending) (w' : World) : Prop := e = .returned v ∧ Below w.heap.size w w'

theorem below_then {w w1 w2 : World} (h : Below w.heap.size w w1) (k : Below w1.heap.size w1 w2) : Below w.heap.size w w2 := h.trans (k.mono h.size)

theorem lt_of_cell {w : World} {b o : Nat} {v : Value} (h : w.cell? ⟨b, o, none⟩ = some v) : b < w.heap.size := by
  rcases Nat.lt_or_ge b w.heap.size with h' | h'
  · exact h'
  · simp [World.cell?, Array.getElem?_eq_none h'] at h

theorem cell_below {w w' : World} (hb : Below w.heap.size w w') {b o : Nat} {v : Value} (h : w.cell? ⟨b, o, none⟩ = some v) : w'.cell? ⟨b, o, none⟩ = some v :=
  (hb.cell (p := ⟨b, o, none⟩) (lt_of_cell h)).trans h

/-- The program's ranges: XML's runes; what a name may begin with; what it may go on with beside that. -/
def charsT : List (Int × Int) := [(9, 10), (13, 13), (32, 55295), (57344, 65533), (65536, 1114111)]
def firstsT : List (Int × Int) := [(65, 90), (95, 95), (97, 122), (192, 214), (216, 246), (248, 767), (880, 893), (895, 8191), (8204, 8205), (8304, 8591), (11264, 12271), (12289, 55295), (63744, 64975), (65008, 65533), (65536, 983039)]
def furtherT : List (Int × Int) := [(45, 46), (48, 57), (183, 183), (768, 879), (8255, 8256)]

def inPair (r : Int) (p : Int × Int) : Bool := decide (p.1 ≤ r) && decide (r ≤ p.2)
def inTab (t : List (Int × Int)) (r : Int) : Bool := t.any (inPair r)

/-- A table's numbers, one behind the other. -/
def flatT (t : List (Int × Int)) : List Value := t.flatMap fun p => [.int .i32 p.1, .int .i32 p.2]

/-- The cells of a block hold a table. -/
def TabAt (g : Nat) (t : List (Int × Int)) (w : World) : Prop := w.rangeAt g 0 (flatT t)

theorem TabAt.below {g t} {w w' : World} (h : TabAt g t w) (hb : Below w.heap.size w w') : TabAt g t w' :=
  fun j v hj => cell_below hb (h j v hj)

def pairV (p : Int × Int) : Value := .agg #[.int .i32 p.1, .int .i32 p.2]

theorem inTab_cons {t : List (Int × Int)} {i : Nat} {p : Int × Int} {r : Int} (h : t[i]? = some p) : inTab (t.drop i) r = (inPair r p || inTab (t.drop (i + 1)) r) := by
  obtain ⟨hi, rfl⟩ := List.getElem?_eq_some_iff.1 h
  rw [List.drop_eq_getElem_cons hi]
  rfl

set_option maxRecDepth 100000 in
set_option maxHeartbeats 1000000 in
theorem holds_pair (p : Int × Int) (r : Int) (w : World) : Calls Tryd.prog 52 #[pairV p, .int .i32 r] w (Leaves (.bool (inPair r p)) w) := by
  obtain ⟨a, b⟩ := p
  unfold pairV inPair
  by_cases h1 : a ≤ r
  · have d1 : decide (a ≤ r) = true := decide_eq_true h1
    by_cases h2 : r ≤ b
    · have d2 : decide (r ≤ b) = true := decide_eq_true h2
      go_enter Tryd.func52, Tryd.ntmps52
      go_wp2
      go_ret
      exact ⟨by simp [h1, h2], (Below.refl _ _).alloc (Nat.le_refl _) _⟩
    · have d2 : decide (r ≤ b) = false := decide_eq_false h2
      go_enter Tryd.func52, Tryd.ntmps52
      go_wp2
      go_ret
      exact ⟨by simp, (Below.refl _ _).alloc (Nat.le_refl _) _⟩
  · have d1 : decide (a ≤ r) = false := decide_eq_false h1
    go_enter Tryd.func52, Tryd.ntmps52
    go_wp2
    go_ret
    exact ⟨by simp, (Below.refl _ _).alloc (Nat.le_refl _) _⟩

end Go.Proofs.YtkpgbcackphdbaaDoor
