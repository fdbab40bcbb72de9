/-
  What the walks of this seat share: a world in which nothing but some blocks has turned; a row of bytes; the program's disk in memory. No condition.
-/
import Derived.Test.YtacfcfbleogioaaDoorChecked
import Derived.Test.YtacfcfbleogioaaDoorPure
import Derived.WalkKit
import Derived.ProofKit
import Derived.Below
import Derived.Lib.Walk
import Derived.Deep.LoopGhost
import Derived.Deep.MidRow
import Derived.Lib.Hide
import Derived.Lib.SmallJoins
import Derived.Maps.OwnSet
import Derived.Maps.Range
namespace Go.Proofs.YtacfcfbleogioaaDoor
open Go.RowKit

/-- Of what was there nothing has turned but these blocks. -/
structure Keeps (S : Nat → Prop) (w w' : World) : Prop where
  os : w'.os = w.os
  tape : w'.tape = w.tape
  output : w'.output = w.output
  size : w.heap.size ≤ w'.heap.size
  block : ∀ k, k < w.heap.size → ¬ S k → w'.heap[k]? = w.heap[k]?

def Non : Nat → Prop := fun _ => False
/-- One block alone. -/
def One (b : Nat) : Nat → Prop := fun k => k = b
/-- These blocks, or new ones. -/
def Fresh (S : Nat → Prop) (n : Nat) (S' : Nat → Prop) : Prop := ∀ k, S' k → S k ∨ n ≤ k

theorem Keeps.refl (S : Nat → Prop) (w : World) : Keeps S w w := ⟨rfl, rfl, rfl, Nat.le_refl _, fun _ _ _ => rfl⟩
theorem Keeps.trans {S S' : Nat → Prop} {a b c : World} (h : Keeps S a b) (k : Keeps S' b c) (hs : Fresh S a.heap.size S') : Keeps S a c :=
  ⟨k.os.trans h.os, k.tape.trans h.tape, k.output.trans h.output, Nat.le_trans h.size k.size, fun i hi hn =>
    (k.block i (Nat.lt_of_lt_of_le hi h.size) (fun e => by rcases hs i e with h1 | h1; exact hn h1; omega)).trans (h.block i hi hn)⟩
theorem Keeps.mono {S S' : Nat → Prop} {a b : World} (h : Keeps S a b) (hs : ∀ k, k < a.heap.size → S k → S' k) : Keeps S' a b :=
  ⟨h.os, h.tape, h.output, h.size, fun i hi hn => h.block i hi (fun e => hn (hs i hi e))⟩
theorem Keeps.drew {S : Nat → Prop} {a b : World} (h : Keeps S a b) : Keeps S a b.drew := ⟨h.os, h.tape, h.output, h.size, h.block⟩
theorem Keeps.drewN {S : Nat → Prop} {a b : World} (h : Keeps S a b) (n : Nat) : Keeps S a (b.drewN n) := ⟨h.os, h.tape, h.output, h.size, h.block⟩
theorem Keeps.alloc {S : Nat → Prop} {a b : World} (h : Keeps S a b) (o : Obj) : Keeps S a (b.alloc o) :=
  ⟨h.os, h.tape, h.output, by have := h.size; simp; omega, fun i hi hn => (Below.heap_alloc b o i (Nat.lt_of_lt_of_le hi h.size)).trans (h.block i hi hn)⟩
theorem Keeps.setCell {S : Nat → Prop} {a b : World} (h : Keeps S a b) {p : Addr} (hp : S p.block ∨ a.heap.size ≤ p.block) (u : Value) : Keeps S a (b.setCell p u) :=
  ⟨h.os, h.tape, h.output, by have := h.size; simp [World.setCell]; omega, fun i hi hn => (Below.heap_setCell b p u i (fun e => by rcases hp with h1 | h1; exact hn (e ▸ h1); omega)).trans (h.block i hi hn)⟩
theorem Keeps.grown {S : Nat → Prop} {a b c : World} {row : Option Nat} (h : Keeps S a b) (hg : b.grownBy c row) (hr : ∀ k, row = some k → S k ∨ a.heap.size ≤ k) : Keeps S a c :=
  ⟨hg.os.trans h.os, hg.tape.trans h.tape, hg.output.trans h.output, Nat.le_trans h.size hg.size, fun i hi hn =>
    (hg.block i (Nat.lt_of_lt_of_le hi h.size) (fun e => by rcases hr i e.symm with h1 | h1; exact hn h1; omega)).trans (h.block i hi hn)⟩
theorem Keeps.below {S : Nat → Prop} {a b c : World} (h : Keeps S a b) {n : Nat} (hb : Below n b c) (hn : a.heap.size ≤ n) : Keeps S a c :=
  ⟨hb.os.trans h.os, hb.tape.trans h.tape, hb.output.trans h.output, Nat.le_trans h.size hb.size, fun i hi hs => (hb.block i (by omega)).trans (h.block i hi hs)⟩
theorem keeps_below {w w' : World} (h : Below w.heap.size w w') (S : Nat → Prop) : Keeps S w w' := (Keeps.refl S w).below h (Nat.le_refl _)
theorem Keeps.toBelow {S : Nat → Prop} {w w' : World} (h : Keeps S w w') {n : Nat} (hn : n ≤ w.heap.size) (hS : ∀ k, S k → n ≤ k) : Below n w w' :=
  ⟨h.os, h.tape, h.output, h.size, fun k hk => h.block k (by omega) (fun e => by have := hS k e; omega)⟩
theorem fresh_trans {S S' S'' : Nat → Prop} {n m : Nat} (h : Fresh S n S') (k : Fresh S' m S'') (hm : n ≤ m) : Fresh S n S'' := by
  intro i hi
  rcases k i hi with h1 | h1
  · exact h i h1
  · exact .inr (by omega)
theorem fresh_refl (S : Nat → Prop) (n : Nat) : Fresh S n S := fun _ h => .inl h
theorem fresh_non (S : Nat → Prop) (n : Nat) : Fresh S n Non := fun _ h => h.elim

theorem lt_of_block {w : World} {b : Nat} {o : Obj} (h : w.heap[b]? = some o) : b < w.heap.size := (Array.getElem?_eq_some_iff.1 h).1
theorem lt_of_cell {w : World} {b o : Nat} {v : Value} (h : w.cell? ⟨b, o, none⟩ = some v) : b < w.heap.size := by
  rcases Nat.lt_or_ge b w.heap.size with h' | h'
  · exact h'
  · simp [World.cell?, Array.getElem?_eq_none h'] at h

/-- A call that returns one value and turns nothing that was there. -/
def Leaves (v : Value) (w : World) (e : Ending) (w' : World) : Prop := e = .returned v ∧ Below w.heap.size w w'

theorem below_then {w w1 w2 : World} (h : Below w.heap.size w w1) (k : Below w1.heap.size w1 w2) : Below w.heap.size w w2 := h.trans (k.mono h.size)

/-- Bytes as cells. -/
def cellsN (l : List Nat) : List Value := l.map fun c : Nat => Value.int .u8 (c : Int)
theorem cellsN_app (l m : List Nat) : cellsN (l ++ m) = cellsN l ++ cellsN m := List.map_append
theorem cellsN_len (l : List Nat) : (cellsN l).length = l.length := List.length_map _
theorem cellsN_take (l : List Nat) (n : Nat) : cellsN (l.take n) = (cellsN l).take n := List.map_take

/-- A slice leads to these bytes, in blocks of S. -/
def Row (w : World) (S : Nat → Prop) (a : Option Addr) (l : List Nat) : Prop :=
  (∀ c ∈ l, c < 256) ∧ (l = [] ∨ ∃ b o, a = some ⟨b, o, none⟩ ∧ S b ∧ ∀ (i c : Nat), l[i]? = some c → w.cell? ⟨b, o + i, none⟩ = some (.int .u8 (c : Int)))

theorem Row.keep {w w' : World} {S O a l} (h : Row w S a l) (hb : Keeps O w w') (hO : ∀ k, S k → ¬ O k) : Row w' S a l := by
  refine ⟨h.1, ?_⟩
  rcases h.2 with h0 | ⟨b, o, ha, hS, hc⟩
  · exact Or.inl h0
  · exact Or.inr ⟨b, o, ha, hS, fun i c hi => (World.cell?_of_block (hb.block b (lt_of_cell (hc i c hi)) (hO b hS))).trans (hc i c hi)⟩
theorem Row.mono {w : World} {S S' : Nat → Prop} {a l} (h : Row w S a l) (hS : ∀ k, S k → S' k) : Row w S' a l := by
  refine ⟨h.1, ?_⟩
  rcases h.2 with h0 | ⟨b, o, ha, hs, hc⟩
  · exact Or.inl h0
  · exact Or.inr ⟨b, o, ha, hS b hs, hc⟩
theorem Row.take {w : World} {S a l} (h : Row w S a l) (n : Nat) : Row w S a (l.take n) := by
  refine ⟨fun c hc => h.1 c (List.mem_of_mem_take hc), ?_⟩
  rcases h.2 with h0 | ⟨b, o, ha, hs, hc⟩
  · exact Or.inl (by rw [h0]; exact List.take_nil)
  · refine Or.inr ⟨b, o, ha, hs, fun i c hi => hc i c ?_⟩
    rw [List.getElem?_take] at hi
    split at hi
    · exact hi
    · cases hi

/-- A slice value that holds these bytes. -/
structure Byt (w : World) (S : Nat → Prop) (v : Value) (l : List Nat) : Prop where
  is : ∃ a c, v = .slice a l.length c ∧ Row w S a l ∧ (a = none → c = 0) ∧ l.length ≤ c ∧ c ≤ maxLen

/-! ### the program's disk -/

theorem ownsRow_keep {w w' : World} {O : Nat → Prop} {base e size n : Nat} {v : Value} {xs : List Value} (h : w.ownsRow base e size v n xs) (hk : Keeps O w w') (hb : ∀ k, v.ownBlock = some k → ¬ O k) : w'.ownsRow base e size v n xs := by
  refine ⟨h.1, ?_⟩
  rcases h.2 with hn | ⟨g, cap, cur, rfl, h1, h2, h3⟩
  · exact .inl hn
  · exact .inr ⟨g, cap, cur, rfl, h1, (hk.block g (lt_of_block h2) (hb g rfl)).trans h2, h3⟩
theorem block_keep {w w' : World} {O : Nat → Prop} {b : Nat} {o : Obj} (h : w.heap[b]? = some o) (hk : Keeps O w w') (hb : ¬ O b) : w'.heap[b]? = some o := (hk.block b (lt_of_block h) hb).trans h

end Go.Proofs.YtacfcfbleogioaaDoor
