/-
  The reference's Runes and Name: the runes of a text as its Next tells them; a name by them. Condition: the text is shorter than 2 to the 30.
-/
import Derived.ProofKit
import Derived.Lib.ConvBytes
import Derived.Test.YtkpgbcackphdbaaDoorPureName
import Derived.Test.YtkpgbcackphdbaaDoorRefTabs
namespace Go.Proofs.YtkpgbcackphdbaaDoor
open Go.RowKit Go.Lib

/-- A text's runes from a place on, if each is there. -/
def runesFrom (f : Nat → Nat) (N : Nat) : Nat → Nat → Option (List Nat)
  | 0, _ => some []
  | g + 1, p => if p < N then (if (nx f N p).2 = 0 then none else (runesFrom f N g (p + (nx f N p).2)).map ((nx f N p).1 :: ·)) else some []

def cellsR (l : List Nat) : List Value := l.map fun x : Nat => Value.int .i32 (x : Int)

/-- A slice that leads to these runes. -/
def RowR (w : World) (a : Option Addr) (l : List Nat) : Prop := l = [] ∨ ∃ b o, a = some ⟨b, o, none⟩ ∧ ∀ (i x : Nat), l[i]? = some x → w.cell? ⟨b, o + i, none⟩ = some (.int .i32 (x : Int))

def RunesOut (q : Option (List Nat)) (w : World) (e : Ending) (w' : World) : Prop :=
  Below w.heap.size w w' ∧ ((q = none ∧ e = .returned (.tuple #[.slice none 0 0, .bool false])) ∨
    ∃ l a c, q = some l ∧ l.length ≤ 4294967296 ∧ e = .returned (.tuple #[.slice a l.length c, .bool true]) ∧ RowR w' a l)

theorem info21 : (Tryd.prog.info? 21).map (fun i => (i.zero, i.size, i.bytes)) = some (some (.int .i32 0), 1, 4) := by kernel_rfl
theorem rowR_of_owns {w : World} {B : Nat} {v : Value} {l : List Nat} (h : w.ownsRow B 21 1 v l.length (cellsR l)) : ∃ a c, v = .slice a l.length c ∧ RowR w a l := by
  rcases h.2 with ⟨h1, h0⟩ | ⟨g, cap, cur, h1, hg, hgb, hcap, hcm, hcur, htk⟩
  · exact ⟨none, 0, by rw [h1, h0], Or.inl (List.length_eq_zero_iff.1 h0)⟩
  · refine ⟨_, cap, h1, Or.inr ⟨g, 0, rfl, fun i x hx => ?_⟩⟩
    have := h.cells (g := g) (by rw [h1]; rfl) i (.int .i32 x) (by rw [cellsR, List.getElem?_map, hx]; rfl)
    rwa [Addr.add_mid] at this

theorem bytesWorld_below (w : World) (s : ByteArray) : Below w.heap.size w (bytesWorld w 5 s) :=
  ⟨rfl, rfl, rfl, by rw [bytesWorld_size]; omega, fun k hk => bytesWorld_at_old w 5 s k hk⟩

/-- The reference's word on a name, by the runes. -/
def nameR (q : Option (List Nat)) : Bool :=
  match q with
  | none => false
  | some [] => false
  | some (r :: t) => beginsB r && (r :: t).all fun x => goesB (x : Int)

end Go.Proofs.YtkpgbcackphdbaaDoor
