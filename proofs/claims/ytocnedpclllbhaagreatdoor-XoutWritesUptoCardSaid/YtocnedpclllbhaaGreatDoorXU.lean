/-
 What stands up to a mark, told by a document's scan. Conditions: the laid variables hold what their initialisers lay; the scan lies in memory, in a block behind theirs; the mark is one to a thousand bytes.
-/
import Derived.Test.YtocnedpclllbhaaGreatDoorRefName
import Derived.Test.YtocnedpclllbhaaGreatDoorTrim
import Derived.Lib.ConvBytes
import Derived.Laws.IdiomStrings
import Derived.OwnWalk
import Derived.Maps.AppendAt
import Derived.Lib.SmallJoins
import Derived.Laws.Rows
import Derived.Deep.QuietTactic
import Derived.BigQuiet
import Derived.WalkLawsBesides
import Derived.Deep.DeepCutAuto
import Derived.Lib.SlBytesRow
import Derived.Deep.RegionHeld3
import Derived.Lib.IndexMore
namespace Go.Proofs.YtocnedpclllbhaaGreatDoor
set_option linter.unusedVariables false
open Go.RowKit Go.Lib

theorem goes_nat (m : Nat) (h : goesB (m : Int) = true) : inTab charsT (m : Int) = true ∧ pBl m = false := by
  have hp : pBl m = false ↔ ¬ (m = 9 ∨ m = 10 ∨ m = 13 ∨ m = 32) := by
    unfold pBl
    rw [← Bool.not_eq_true]
    simp only [Bool.or_eq_true, beq_iff_eq]
    omega
  rw [chars_nat, hp]
  simp only [goesB, inTab, firstsT, furtherT, List.any_cons, List.any_nil, inPair, Bool.or_false, Bool.or_eq_true, Bool.and_eq_true, decide_eq_true_eq] at h
  omega

/-- The walk without the first rune's own rule. -/
def walkG (f : Nat → Nat) (N : Nat) : Nat → Nat → Bool
  | 0, _ => true
  | g + 1, p => if p < N then (if errD (dN f N p) = true then false else if goesB (dN f N p).1 = false then false else walkG f N g (p + (dN f N p).2)) else true

theorem walkG_done (f : Nat → Nat) (N g p : Nat) (h : ¬ p < N) : walkG f N g p = true := by
  cases g with
  | zero => rfl
  | succ g => rw [walkG, if_neg h]

theorem dN_pos (f : Nat → Nat) (N p : Nat) : 1 ≤ (dN f N p).2 := decodeN_pos _ _ _ _ _

theorem walkW_pos (f : Nat → Nat) (N : Nat) : ∀ (g p : Nat), 0 < p → walkW f N g p = walkG f N g p
  | 0, _, _ => rfl
  | g + 1, p, hp => by
    rw [walkW, walkG, walkW_pos f N g (p + (dN f N p).2) (by omega)]
    have h0 : ¬ (p = 0 ∧ beginsB (dN f N p).1 = false) := fun h => by omega
    simp only [if_neg h0]

theorem nx_err {f : Nat → Nat} {N p : Nat} (h : errD (dN f N p) = true) : nx f N p = (0, 0) := by
  have := (errD_iff _).1 h
  unfold nx
  exact if_neg (fun h2 => h2.2 this)
theorem nx_no {f : Nat → Nat} {N p : Nat} (h : ¬ inTab charsT (dN f N p).1 = true) : nx f N p = (0, 0) := by
  unfold nx
  exact if_neg (fun h2 => h h2.1)
theorem nx_yes {f : Nat → Nat} {N p : Nat} (h : errD (dN f N p) = false) (hc : inTab charsT (dN f N p).1 = true) : nx f N p = dN f N p := by
  unfold nx
  exact if_pos ⟨hc, fun h2 => by
    have h3 : errD (dN f N p) = true := (errD_iff _).2 h2
    rw [h] at h3
    cases h3⟩

def allR (q : Option (List Nat)) : Bool :=
  match q with
  | none => false
  | some l => l.all fun x => goesB (x : Int)

theorem runes_walk (f : Nat → Nat) (N : Nat) : ∀ (g p : Nat), N ≤ g + p → allR (runesFrom f N g p) = walkG f N g p
  | 0, _, _ => rfl
  | g + 1, p, h => by
    by_cases hp : p < N
    · have hw := dN_pos f N p
      have ih := runes_walk f N g (p + (dN f N p).2) (by omega)
      rw [runesFrom, if_pos hp, walkG, if_pos hp]
      cases he : errD (dN f N p) with
      | true => rw [nx_err he]; rfl
      | false =>
        rw [if_neg (show ¬ false = true by decide)]
        by_cases hc : inTab charsT (dN f N p).1 = true
        · rw [nx_yes he hc, if_neg (show ¬ (dN f N p).2 = 0 by omega), ← ih]
          cases runesFrom f N g (p + (dN f N p).2) with
          | none => simp [allR]
          | some l =>
            simp only [allR, Option.map_some, List.all_cons]
            cases goesB (dN f N p).1 <;> simp
        · rw [nx_no hc, if_pos rfl]
          have : goesB (dN f N p).1 = false := by
            cases hq : goesB ((dN f N p).1 : Int) with
            | false => rfl
            | true => exact absurd (goes_nat _ hq).1 hc
          rw [if_pos this]
          rfl
    · rw [walkG_done f N (g + 1) p hp, runesFrom, if_neg hp]
      rfl

theorem nameR_eq (l : List UInt8) : nameR (runesFrom (fs l) l.length l.length 0) = nameW l := by
  cases l with
  | nil => rfl
  | cons b t =>
    obtain ⟨l, hl⟩ : ∃ l, b :: t = l := ⟨_, rfl⟩
    obtain ⟨n, hn⟩ : ∃ n, l.length = n + 1 := ⟨t.length, by rw [← hl]; rfl⟩
    have hemp : l.isEmpty = false := by rw [← hl]; rfl
    rw [hl]
    unfold nameW
    rw [hemp, hn]
    have hp : 0 < n + 1 := by omega
    have hw := dN_pos (fs l) (n + 1) 0
    have ih := runes_walk (fs l) (n + 1) n (0 + (dN (fs l) (n + 1) 0).2) (by omega)
    rw [runesFrom, if_pos hp, walkW, if_pos hp]
    cases he : errD (dN (fs l) (n + 1) 0) with
    | true => rw [nx_err he]; rfl
    | false =>
      rw [if_neg (show ¬ false = true by decide)]
      by_cases hc : inTab charsT (dN (fs l) (n + 1) 0).1 = true
      · rw [nx_yes he hc, if_neg (show ¬ (dN (fs l) (n + 1) 0).2 = 0 by omega), walkW_pos _ _ _ _ (by omega), ← ih]
        cases runesFrom (fs l) (n + 1) n (0 + (dN (fs l) (n + 1) 0).2) with
        | none => simp [allR, nameR]
        | some u =>
          simp only [allR, nameR, Option.map_some, List.all_cons, true_and, Bool.not_false, Bool.true_and]
          cases beginsB ((dN (fs l) (n + 1) 0).1 : Int) <;> cases goesB ((dN (fs l) (n + 1) 0).1 : Int) <;> simp
      · rw [nx_no hc, if_pos rfl]
        have hg : goesB (dN (fs l) (n + 1) 0).1 = false := by
          cases hq : goesB ((dN (fs l) (n + 1) 0).1 : Int) with
          | false => rfl
          | true => exact absurd (goes_nat _ hq).1 hc
        rw [if_pos hg]
        simp [nameR]

/-! ### A rune behind a name, a rune ahead of one -/
/-- A rune's bytes. -/
def encB (m : Nat) : List UInt8 := (encN m).map fun x => UInt8.ofNat x

/-! ### Lines a second time -/

/-- What a step answers: what it tells, the place behind it and what is left there; or a code and a place. -/
inductive Sx (α : Type) where
  | ok (x : α) (i : Nat) (r : List UInt8)
  | no (c p : Nat)
/-- A step behind a step. -/
def Sx.then {α β : Type} (s : Sx α) (f : α → Nat → List UInt8 → Sx β) : Sx β :=
  match s with
  | .ok x i r => f x i r
  | .no c p => .no c p
/-- What stands ahead of a text, and behind it. -/
def cutS (m : List UInt8) : List UInt8 → Option (List UInt8 × List UInt8)
  | [] => none
  | x :: t => if m.isPrefixOf (x :: t) = true then some ([], (x :: t).drop m.length) else (cutS m t).map fun q => (x :: q.1, q.2)
/-- A digit's value; 99: it is none. -/
def digS (c : UInt8) : Nat := if 48 ≤ c ∧ c ≤ 57 then c.toNat - 48 else if 97 ≤ c ∧ c ≤ 102 then c.toNat - 97 + 10 else if 65 ≤ c ∧ c ≤ 70 then c.toNat - 65 + 10 else 99
def digsS (base : Nat) : Nat → List UInt8 → Option Nat
  | v, [] => some v
  | v, c :: t => if digS c < base then digsS base (v * base + digS c) t else none
/-- The number below 2^31 that digits tell, if they tell one. -/
def numS (base : Nat) (s : List UInt8) : Option Nat :=
  if s = [] then none else (digsS base 0 s).bind fun v => if v < 2147483648 then some v else none
def charS (q : Option Nat) : Option Nat := q.bind fun v => if inTab charsT (v : Int) = true then some v else none
/-- What stands between & and ; of a reference: its rune. -/
def toldS (s : List UInt8) : Option Nat :=
  if s = [97, 109, 112] then some 38
  else if s = [108, 116] then some 60
  else if s = [103, 116] then some 62
  else if s = [113, 117, 111, 116] then some 34
  else if s = [97, 112, 111, 115] then some 39
  else if [35, 120].isPrefixOf s = true then charS (numS 16 (s.drop 2))
  else if [35].isPrefixOf s = true then charS (numS 10 (s.drop 1))
  else none
def refS (i : Nat) (r : List UInt8) : Sx Nat :=
  match cutS [59] (r.drop 1) with
  | none => .no 5 i
  | some q => match toldS q.1 with
    | none => .no 5 i
    | some n => .ok n (i + (1 + q.1.length + 1)) q.2
/-- A letter, small. -/
def smallS (x : UInt8) : UInt8 := if 65 ≤ x ∧ x ≤ 90 then x + 32 else x
/-- Are texts the same but for great and small letters? (of a text of small letters of ASCII without k and s) -/
def sameS (s m : List UInt8) : Bool := s.map smallS == m
end Go.Proofs.YtocnedpclllbhaaGreatDoor
namespace Go.Proofs.YtocnedpclllbhaaGreatDoor
open Go.RowKit Go.Lib Go.Joins

/-- Of what was there nothing has turned but these blocks. -/
structure Keeps (S : Nat → Prop) (w w' : World) : Prop where
  os : w'.os = w.os
  tape : w'.tape = w.tape
  output : w'.output = w.output
  size : w.heap.size ≤ w'.heap.size
  block : ∀ k, k < w.heap.size → ¬ S k → w'.heap[k]? = w.heap[k]?

def Non : Nat → Prop := fun _ => False
/-- One block alone. -/
def One (b : Nat) : Nat → Prop := fun k => k = b
/-- These blocks, or new ones. -/
def Fresh (S : Nat → Prop) (n : Nat) (S' : Nat → Prop) : Prop := ∀ k, S' k → S k ∨ n ≤ k

theorem Keeps.refl (S : Nat → Prop) (w : World) : Keeps S w w := ⟨rfl, rfl, rfl, Nat.le_refl _, fun _ _ _ => rfl⟩
theorem Keeps.trans {S S' : Nat → Prop} {a b c : World} (h : Keeps S a b) (k : Keeps S' b c) (hs : Fresh S a.heap.size S') : Keeps S a c :=
  ⟨k.os.trans h.os, k.tape.trans h.tape, k.output.trans h.output, Nat.le_trans h.size k.size, fun i hi hn =>
    (k.block i (Nat.lt_of_lt_of_le hi h.size) (fun e => by rcases hs i e with h1 | h1; exact hn h1; omega)).trans (h.block i hi hn)⟩
theorem Keeps.mono {S S' : Nat → Prop} {a b : World} (h : Keeps S a b) (hs : ∀ k, k < a.heap.size → S k → S' k) : Keeps S' a b :=
  ⟨h.os, h.tape, h.output, h.size, fun i hi hn => h.block i hi (fun e => hn (hs i hi e))⟩
theorem Keeps.drew {S : Nat → Prop} {a b : World} (h : Keeps S a b) : Keeps S a b.drew := ⟨h.os, h.tape, h.output, h.size, h.block⟩
theorem Keeps.drewN {S : Nat → Prop} {a b : World} (h : Keeps S a b) (n : Nat) : Keeps S a (b.drewN n) := ⟨h.os, h.tape, h.output, h.size, h.block⟩
theorem Keeps.alloc {S : Nat → Prop} {a b : World} (h : Keeps S a b) (o : Obj) : Keeps S a (b.alloc o) :=
  ⟨h.os, h.tape, h.output, by have := h.size; simp; omega, fun i hi hn => (Below.heap_alloc b o i (Nat.lt_of_lt_of_le hi h.size)).trans (h.block i hi hn)⟩
theorem Keeps.setCell {S : Nat → Prop} {a b : World} (h : Keeps S a b) {p : Addr} (hp : S p.block ∨ a.heap.size ≤ p.block) (u : Value) : Keeps S a (b.setCell p u) :=
  ⟨h.os, h.tape, h.output, by have := h.size; simp [World.setCell]; omega, fun i hi hn => (Below.heap_setCell b p u i (fun e => by rcases hp with h1 | h1; exact hn (e ▸ h1); omega)).trans (h.block i hi hn)⟩
theorem Keeps.grown {S : Nat → Prop} {a b c : World} {row : Option Nat} (h : Keeps S a b) (hg : b.grownBy c row) (hr : ∀ k, row = some k → S k ∨ a.heap.size ≤ k) : Keeps S a c :=
  ⟨hg.os.trans h.os, hg.tape.trans h.tape, hg.output.trans h.output, Nat.le_trans h.size hg.size, fun i hi hn =>
    (hg.block i (Nat.lt_of_lt_of_le hi h.size) (fun e => by rcases hr i e.symm with h1 | h1; exact hn h1; omega)).trans (h.block i hi hn)⟩
theorem Keeps.below {S : Nat → Prop} {a b c : World} (h : Keeps S a b) {n : Nat} (hb : Below n b c) (hn : a.heap.size ≤ n) : Keeps S a c :=
  ⟨hb.os.trans h.os, hb.tape.trans h.tape, hb.output.trans h.output, Nat.le_trans h.size hb.size, fun i hi hs => (hb.block i (by omega)).trans (h.block i hi hs)⟩
theorem keeps_below {w w' : World} (h : Below w.heap.size w w') (S : Nat → Prop) : Keeps S w w' := (Keeps.refl S w).below h (Nat.le_refl _)
theorem Keeps.toBelow {S : Nat → Prop} {w w' : World} (h : Keeps S w w') {n : Nat} (hn : n ≤ w.heap.size) (hS : ∀ k, S k → n ≤ k) : Below n w w' :=
  ⟨h.os, h.tape, h.output, h.size, fun k hk => h.block k (by omega) (fun e => by have := hS k e; omega)⟩
theorem lt_of_block {w : World} {b : Nat} {o : Obj} (h : w.heap[b]? = some o) : b < w.heap.size := (Array.getElem?_eq_some_iff.1 h).1
theorem block_below {w w' : World} (h : Below w.heap.size w w') {b : Nat} {o : Obj} (hb : w.heap[b]? = some o) : w'.heap[b]? = some o := (h.block b (lt_of_block hb)).trans hb
theorem block_keep {w w' : World} {O : Nat → Prop} {b : Nat} {o : Obj} (h : w.heap[b]? = some o) (hk : Keeps O w w') (hb : ¬ O b) : w'.heap[b]? = some o := (hk.block b (lt_of_block h) hb).trans h

/-- What SimpleFold's table holds for ASCII. -/
def foldN (i : Nat) : Nat := if 65 ≤ i ∧ i ≤ 90 then i + 32 else if i = 107 then 8490 else if i = 115 then 383 else if 97 ≤ i ∧ i ≤ 122 then i - 32 else i
def SomeErr (g : Nat) (w : World) : Prop := ∃ ev, w.cell? ⟨g, 0, none⟩ = some ev ∧ (ev = .nilIface ∨ ∃ te pe, ev = .iface te pe)
/-- What the laid variables hold. -/
structure EnvAt (w : World) : Prop where
  laid : Laid w
  mx : MaxLen w
  fold : ∀ i, i < 128 → w.cell? ⟨6, i, none⟩ = some (.int .u16 (foldN i : Int))
theorem cell_keeps {w w' : World} {B b o : Nat} {v : Value} (h : w.cell? ⟨b, o, none⟩ = some v) (hk : Keeps (One B) w w') (hb : b ≠ B) : w'.cell? ⟨b, o, none⟩ = some v :=
  (World.cell?_of_block (hk.block b (lt_of_cell h) hb)).trans h
theorem EnvAt.keeps {w w' : World} {B : Nat} (h : EnvAt w) (hk : Keeps (One B) w w') (hB : 13 ≤ B) : EnvAt w' where
  laid := ⟨⟨fun c hc => cell_keeps (h.laid.1.1 c hc) hk (by omega), fun i hi => ⟨cell_keeps (h.laid.1.2 i hi).1 hk (by omega), cell_keeps (h.laid.1.2 i hi).2 hk (by omega)⟩⟩, fun j v hj => cell_keeps (h.laid.2.1 j v hj) hk (by omega), fun j v hj => cell_keeps (h.laid.2.2.1 j v hj) hk (by omega), fun j v hj => cell_keeps (h.laid.2.2.2 j v hj) hk (by omega)⟩
  mx := let ⟨m, hm⟩ := h.mx; ⟨m, cell_keeps hm hk (by omega)⟩
  fold := fun i hi => cell_keeps (h.fold i hi) hk (by omega)
theorem EnvAt.below {w w' : World} (h : EnvAt w) (hb : Below w.heap.size w w') : EnvAt w' := h.keeps (B := w.heap.size + 15) ((Keeps.refl _ w).below hb (Nat.le_refl _)) (by omega)

/-- Bytes as a text. -/
def strB (l : List UInt8) : ByteArray := ⟨l.toArray⟩

theorem index_cutS (m : List UInt8) (hm : m ≠ []) : ∀ r : List UInt8, Lib.index r m = match cutS m r with | none => -1 | some q => (q.1.length : Int)
  | [] => by cases m with
    | nil => exact absurd rfl hm
    | cons => rfl
  | x :: t => by
    have ih := index_cutS m hm t
    unfold cutS Lib.index
    by_cases h : m.isPrefixOf (x :: t) = true
    · rw [if_pos h, if_pos h]; rfl
    · rw [if_neg h, if_neg h, ih]
      cases cutS m t with
      | none => rfl
      | some q => simp
end Go.Proofs.YtocnedpclllbhaaGreatDoor
