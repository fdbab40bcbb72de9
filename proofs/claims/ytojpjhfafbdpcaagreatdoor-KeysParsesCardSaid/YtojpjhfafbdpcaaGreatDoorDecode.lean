/-
  unicode/utf8.DecodeRune over a slice of bytes: the rune at its beginning and its width, as the model's own decoder of strings tells them. Condition: the two tables of unicode/utf8 hold what their initialisers lay.
-/
import Derived.Test.YtojpjhfafbdpcaaGreatDoorBase
import Derived.Shelf.Unicode.DecodeSlow
namespace Go.Proofs.YtojpjhfafbdpcaaGreatDoor
open Go.RowKit Go.Lib

/-- A slice of bytes of length n leads to the numbers f 0, .., f (n - 1). -/
def Row8 (w : World) (a : Option Addr) (n : Nat) (f : Nat → Nat) : Prop :=
  (∀ i, f i < 256) ∧ n ≤ 9223372036854775807 ∧ (n = 0 ∨ ∃ b o, a = some ⟨b, o, none⟩ ∧ ∀ i, i < n → w.cell? ⟨b, o + i, none⟩ = some (.int .u8 (f i)))

theorem Row8.below {w w' : World} {a n f} (h : Row8 w a n f) (hb : Below w.heap.size w w') : Row8 w' a n f := by
  refine ⟨h.1, h.2.1, ?_⟩
  rcases h.2.2 with h0 | ⟨b, o, ha, hc⟩
  · exact Or.inl h0
  · exact Or.inr ⟨b, o, ha, fun i hi => cell_below hb (hc i hi)⟩

theorem cell_alloc {w : World} {b o : Nat} {v : Value} (h : w.cell? ⟨b, o, none⟩ = some v) (ob : Obj) : (w.alloc ob).cell? ⟨b, o, none⟩ = some v :=
  cell_below ((Below.refl _ w).alloc (Nat.le_refl _) ob) h

def runeOf (d : Nat × Nat) : Value := .tuple #[.int .i32 d.1, .int .i64 d.2]

end Go.Proofs.YtojpjhfafbdpcaaGreatDoor
