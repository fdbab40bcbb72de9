/-
  What the laws know of a disk of their own: it lies in blocks that were not there when the law was called. Small rows of constants. No condition.
-/
import Derived.Test.YtjhiekijbcjohaaGreatDoorRefA
import Derived.Test.YtjhiekijbcjohaaGreatDoorOpsB
import Derived.Test.YtjhiekijbcjohaaGreatDoorReads2
import Derived.Test.YtjhiekijbcjohaaGreatDoorCrash
import Derived.Test.YtjhiekijbcjohaaGreatDoorArm
namespace Go.Proofs.YtjhiekijbcjohaaGreatDoor
open Go.RowKit Go.Lib Go.Joins

/-- A disk in blocks of its own; else nothing has turned. -/
structure Live (w0 w : World) (S : Nat → Prop) (B : Nat) (d : Dsk) : Prop where
  disk : Disk w S B d
  own : ∀ k, S k → w0.heap.size ≤ k
  bel : Below w0.heap.size w0 w

theorem Live.turns {w0 w w' : World} {S : Nat → Prop} {B : Nat} {d d' : Dsk} (h : Live w0 w S B d) (ht : Turns w S B d' w') : ∃ S', Live w0 w' S' B d' ∧ Fresh S w.heap.size S' ∧ Keeps S w w' := by
  obtain ⟨S', h1, h2, h3⟩ := ht
  refine ⟨S', ⟨h1, fun k hk => ?_, h.bel.trans (h3.toBelow h.bel.size h.own)⟩, h2, h3⟩
  rcases h2 k hk with h4 | h4
  · exact h.own k h4
  · exact Nat.le_trans h.bel.size h4
theorem Live.quiet {w0 w w' : World} {S : Nat → Prop} {B : Nat} {d : Dsk} (h : Live w0 w S B d) (hb : Below w.heap.size w w') : Live w0 w' S B d := ⟨h.disk.below hb, h.own, below_then h.bel hb⟩
theorem below_drewN (w : World) (n : Nat) : Below w.heap.size w (w.drewN n) := ((Keeps.refl Non w).drewN n).toBelow (Nat.le_refl _) (fun _ h => h.elim)
theorem Live.drewN {w0 w : World} {S : Nat → Prop} {B : Nat} {d : Dsk} (h : Live w0 w S B d) (n : Nat) : Live w0 (w.drewN n) S B d := h.quiet (below_drewN w n)
theorem Live.born {w0 w w' : World} {S : Nat → Prop} {B : Nat} {d : Dsk} (h0 : Below w0.heap.size w0 w) (hd : Disk w' S B d) (hf : Fresh Non w.heap.size S) (hb : Below w.heap.size w w') : Live w0 w' S B d :=
  ⟨hd, fun k e => by rcases hf k e with h | h; exact h.elim; exact Nat.le_trans h0.size h, below_then h0 hb⟩

/-- Blocks beside a disk's. -/
def Off (S : Nat → Prop) (w : World) (O : Nat → Prop) : Prop := ∀ k, O k → k < w.heap.size ∧ ¬ S k
theorem Off.turn {S S' O : Nat → Prop} {w w' : World} (h : Off S w O) (hf : Fresh S w.heap.size S') (hk : Keeps S w w') : Off S' w' O := fun k hO =>
  ⟨Nat.lt_of_lt_of_le (h k hO).1 hk.size, fun e => by rcases hf k e with h1 | h1; exact (h k hO).2 h1; have := (h k hO).1; omega⟩
theorem Off.below {S O : Nat → Prop} {w w' : World} (h : Off S w O) (hb : Below w.heap.size w w') : Off S w' O := fun k hO => ⟨Nat.lt_of_lt_of_le (h k hO).1 hb.size, (h k hO).2⟩
theorem Off.not {S O : Nat → Prop} {w : World} (h : Off S w O) : ∀ k, O k → ¬ S k := fun k hO => (h k hO).2
theorem Off.old {w0 w : World} {S O : Nat → Prop} {B : Nat} {d : Dsk} (h : Live w0 w S B d) (hO : ∀ k, O k → k < w0.heap.size) : Off S w O := fun k e => ⟨Nat.lt_of_lt_of_le (hO k e) h.bel.size, fun hs => by have := h.own k hs; have := hO k e; omega⟩
theorem Off.new {w0 w w' : World} {S O : Nat → Prop} {B : Nat} {d : Dsk} (h : Live w0 w S B d) (hO : ∀ k, O k → w.heap.size ≤ k ∧ k < w'.heap.size) : Off S w' O := fun k e => ⟨(hO k e).2, fun hs => by have := h.disk.2.1 k hs; have := (hO k e).1; omega⟩

theorem Row.below {w w' : World} {S : Nat → Prop} {a l} (h : Row w S a l) (hb : Below w.heap.size w w') : Row w' S a l := h.keep (keeps_below hb Non) (fun _ _ h => h)

/-- A row of constants. -/
theorem row_new (w : World) (l : List Nat) (hb : ∀ c ∈ l, c < 256) (fr : Nat × Nat) : Row (w.alloc (.cells (cellsN l).toArray 5 fr)) (One w.heap.size) (some ⟨w.heap.size, 0, none⟩) l := by
  refine ⟨hb, Or.inr ⟨_, _, rfl, rfl, fun i c hi => ?_⟩⟩
  rw [Nat.zero_add, World.cell?_alloc_mark w _ 5 fr i]
  rw [List.getElem?_toArray, cellsN, List.getElem?_map, hi]
  rfl

/-- What Read hands out. -/
theorem read_row {w w' : World} {f : Fil} {v : Value} (hb : ∀ c ∈ f.data, c < 256) (ho : w'.ownsRow w.heap.size 5 1 v f.data.length (cellsN f.data)) :
    ∃ a c S', v = .slice a f.data.length c ∧ Row w' S' a f.data ∧ (∀ k, S' k → w.heap.size ≤ k ∧ k < w'.heap.size) := by
  obtain ⟨a, c, h1, h2, _⟩ := (row_of_own hb rfl ho).is
  exact ⟨a, c, _, h1, h2, fun k e => ho.lt k e⟩

end Go.Proofs.YtjhiekijbcjohaaGreatDoor
