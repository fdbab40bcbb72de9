/-
  What the walks of this seat share: how a call is told that leaves one value and makes new blocks alone. No condition.
-/
import Derived.Test.YteddnomneeonhaaDoorChecked
import Derived.Test.YteddnomneeonhaaDoorPure
import Derived.WalkKit
import Derived.ProofKit
import Derived.Below
import Derived.Lib.Walk
import Derived.Deep.LoopGhost
import Derived.Deep.MidRow
import Derived.Lib.Hide
namespace Go.Proofs.YteddnomneeonhaaDoor
open Go.RowKit

/-- A call that returns one value and turns nothing that was there. -/
def Leaves (v : Value) (w : World) (e : Ending) (w' : World) : Prop := e = .returned v ∧ Below w.heap.size w w'

theorem below_then {w w1 w2 : World} (h : Below w.heap.size w w1) (k : Below w1.heap.size w1 w2) : Below w.heap.size w w2 := h.trans (k.mono h.size)

theorem lt_of_cell {w : World} {b o : Nat} {v : Value} (h : w.cell? ⟨b, o, none⟩ = some v) : b < w.heap.size := by
  rcases Nat.lt_or_ge b w.heap.size with h' | h'
  · exact h'
  · simp [World.cell?, Array.getElem?_eq_none h'] at h

theorem cell_below {w w' : World} (hb : Below w.heap.size w w') {b o : Nat} {v : Value} (h : w.cell? ⟨b, o, none⟩ = some v) : w'.cell? ⟨b, o, none⟩ = some v :=
  (hb.cell (p := ⟨b, o, none⟩) (lt_of_cell h)).trans h

def numV (a : Num) : Value := .agg #[.bool a.nan, .int .i64 a.v]
/-- A block's first two cells are known and may be written. -/
def Own2 (b : Nat) (x y : Value) (w : World) : Prop := w.cell? ⟨b, 0, none⟩ = some x ∧ w.cell? ⟨b, 1, none⟩ = some y ∧ w.frozen? ⟨b, 0, none⟩ = false ∧ w.frozen? ⟨b, 1, none⟩ = false
theorem Own2.below {b : Nat} {x y : Value} {w w' : World} (h : Own2 b x y w) (hb : Below w.heap.size w w') : Own2 b x y w' :=
  ⟨cell_below hb h.1, cell_below hb h.2.1, (hb.frozen (p := ⟨b, 0, none⟩) (lt_of_cell h.1)).trans h.2.2.1, (hb.frozen (p := ⟨b, 1, none⟩) (lt_of_cell h.1)).trans h.2.2.2⟩
theorem Own2.lt {b : Nat} {x y : Value} {w : World} (h : Own2 b x y w) : b < w.heap.size := lt_of_cell h.1
/-- A number and a code. -/
def numC (d : Num × Int) : Value := .tuple #[numV d.1, .int .i64 d.2]

end Go.Proofs.YteddnomneeonhaaDoor
