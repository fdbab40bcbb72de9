/-
  What the walks of this seat share: how a call is told that leaves one value and makes new blocks alone; the tables of ranges of runes. No condition. unicode/utf8.DecodeRune over a slice of bytes: the rune at its beginning and its width, as the model's own decoder of strings tells them. Condition: the two tables of unicode/utf8 hold what their initialisers lay. Whether XML has a rune, whether a name may begin and go on with it: the program's three loops over its tables. Condition: the tables' cells hold the ranges.
-/
import Derived.Test.YtfonflbpkbibbaaGreatDoorChecked
import Derived.WalkKit
import Derived.ProofKit
import Derived.Below
import Derived.Lib.Walk
import Derived.Deep.LoopGhost
import Derived.Deep.MidRow
import Derived.Lib.Hide
import Derived.Shelf.Unicode.DecodeSlow
namespace Go.Proofs.YtfonflbpkbibbaaGreatDoor
open Go.RowKit

/-- A call that returns one value and turns nothing that was there. -/
def Leaves (v : Value) (w : World) (e : Ending) (w' : World) : Prop := e = .returned v ∧ Below w.heap.size w w'

theorem below_then {w w1 w2 : World} (h : Below w.heap.size w w1) (k : Below w1.heap.size w1 w2) : Below w.heap.size w w2 := h.trans (k.mono h.size)

theorem lt_of_cell {w : World} {b o : Nat} {v : Value} (h : w.cell? ⟨b, o, none⟩ = some v) : b < w.heap.size := by
  rcases Nat.lt_or_ge b w.heap.size with h' | h'
  · exact h'
  · simp [World.cell?, Array.getElem?_eq_none h'] at h

theorem cell_below {w w' : World} (hb : Below w.heap.size w w') {b o : Nat} {v : Value} (h : w.cell? ⟨b, o, none⟩ = some v) : w'.cell? ⟨b, o, none⟩ = some v :=
  (hb.cell (p := ⟨b, o, none⟩) (lt_of_cell h)).trans h

/-- The program's ranges: XML's runes; what a name may begin with; what it may go on with beside that. -/
def charsT : List (Int × Int) := [(9, 10), (13, 13), (32, 55295), (57344, 65533), (65536, 1114111)]
def firstsT : List (Int × Int) := [(65, 90), (95, 95), (97, 122), (192, 214), (216, 246), (248, 767), (880, 893), (895, 8191), (8204, 8205), (8304, 8591), (11264, 12271), (12289, 55295), (63744, 64975), (65008, 65533), (65536, 983039)]
def furtherT : List (Int × Int) := [(45, 46), (48, 57), (183, 183), (768, 879), (8255, 8256)]

def inPair (r : Int) (p : Int × Int) : Bool := decide (p.1 ≤ r) && decide (r ≤ p.2)
def inTab (t : List (Int × Int)) (r : Int) : Bool := t.any (inPair r)

/-- A table's numbers, one behind the other. -/
def flatT (t : List (Int × Int)) : List Value := t.flatMap fun p => [.int .i32 p.1, .int .i32 p.2]

/-- The cells of a block hold a table. -/
def TabAt (g : Nat) (t : List (Int × Int)) (w : World) : Prop := w.rangeAt g 0 (flatT t)

theorem TabAt.below {g t} {w w' : World} (h : TabAt g t w) (hb : Below w.heap.size w w') : TabAt g t w' :=
  fun j v hj => cell_below hb (h j v hj)

def pairV (p : Int × Int) : Value := .agg #[.int .i32 p.1, .int .i32 p.2]

theorem inTab_cons {t : List (Int × Int)} {i : Nat} {p : Int × Int} {r : Int} (h : t[i]? = some p) : inTab (t.drop i) r = (inPair r p || inTab (t.drop (i + 1)) r) := by
  obtain ⟨hi, rfl⟩ := List.getElem?_eq_some_iff.1 h
  rw [List.drop_eq_getElem_cons hi]
  rfl

set_option maxRecDepth 100000 in
set_option maxHeartbeats 1000000 in
theorem holds_pair (p : Int × Int) (r : Int) (w : World) : Calls Tryz.prog 140 #[pairV p, .int .i32 r] w (Leaves (.bool (inPair r p)) w) := by
  obtain ⟨a, b⟩ := p
  unfold pairV inPair
  by_cases h1 : a ≤ r
  · have d1 : decide (a ≤ r) = true := decide_eq_true h1
    by_cases h2 : r ≤ b
    · have d2 : decide (r ≤ b) = true := decide_eq_true h2
      go_enter Tryz.func140, Tryz.ntmps140
      go_wp2
      go_ret
      exact ⟨by simp [h1, h2], (Below.refl _ _).alloc (Nat.le_refl _) _⟩
    · have d2 : decide (r ≤ b) = false := decide_eq_false h2
      go_enter Tryz.func140, Tryz.ntmps140
      go_wp2
      go_ret
      exact ⟨by simp, (Below.refl _ _).alloc (Nat.le_refl _) _⟩
  · have d1 : decide (a ≤ r) = false := decide_eq_false h1
    go_enter Tryz.func140, Tryz.ntmps140
    go_wp2
    go_ret
    exact ⟨by simp, (Below.refl _ _).alloc (Nat.le_refl _) _⟩

end Go.Proofs.YtfonflbpkbibbaaGreatDoor
namespace Go.Proofs.YtfonflbpkbibbaaGreatDoor
open Go.RowKit Go.Lib

/-- A slice of bytes of length n leads to the numbers f 0, .., f (n - 1). -/
def Row8 (w : World) (a : Option Addr) (n : Nat) (f : Nat → Nat) : Prop :=
  (∀ i, f i < 256) ∧ n ≤ 9223372036854775807 ∧ (n = 0 ∨ ∃ b o, a = some ⟨b, o, none⟩ ∧ ∀ i, i < n → w.cell? ⟨b, o + i, none⟩ = some (.int .u8 (f i)))

theorem Row8.below {w w' : World} {a n f} (h : Row8 w a n f) (hb : Below w.heap.size w w') : Row8 w' a n f := by
  refine ⟨h.1, h.2.1, ?_⟩
  rcases h.2.2 with h0 | ⟨b, o, ha, hc⟩
  · exact Or.inl h0
  · exact Or.inr ⟨b, o, ha, fun i hi => cell_below hb (hc i hi)⟩

theorem cell_alloc {w : World} {b o : Nat} {v : Value} (h : w.cell? ⟨b, o, none⟩ = some v) (ob : Obj) : (w.alloc ob).cell? ⟨b, o, none⟩ = some v :=
  cell_below ((Below.refl _ w).alloc (Nat.le_refl _) ob) h

def runeOf (d : Nat × Nat) : Value := .tuple #[.int .i32 d.1, .int .i64 d.2]

set_option maxHeartbeats 4000000 in
set_option maxRecDepth 1000000 in
theorem slow_calls (b o c n : Nat) (f : Nat → Nat) (w : World) (hT : Lib.Utf8Tabs 1 2 w) (hf : ∀ i, f i < 256) (hn1 : 1 ≤ n) (hn : n ≤ 9223372036854775807) (hcell : ∀ i, i < n → w.cell? ⟨b, o + i, none⟩ = some (.int .u8 (f i))) :
    Calls Tryz.prog 175 #[.slice (some ⟨b, o, none⟩) n c] w (Leaves (runeOf (decodeN n (f 0) (f 1) (f 2) (f 3))) w) := by
  obtain ⟨x0, hx0⟩ : ∃ x0, f 0 = x0 := ⟨_, rfl⟩
  obtain ⟨x1, hx1⟩ : ∃ x1, f 1 = x1 := ⟨_, rfl⟩
  obtain ⟨x2, hx2⟩ : ∃ x2, f 2 = x2 := ⟨_, rfl⟩
  obtain ⟨x3, hx3⟩ : ∃ x3, f 3 = x3 := ⟨_, rfl⟩
  have l0 : x0 < 256 := hx0 ▸ hf 0
  have l1 : x1 < 256 := hx1 ▸ hf 1
  have l2 : x2 < 256 := hx2 ▸ hf 2
  have l3 : x3 < 256 := hx3 ▸ hf 3
  have hz0 : (0 : Int) < (n : Int) := by omega
  have hz0' : ¬ ((n : Int) < 1) := by omega
  have k0 : w.cell? ⟨b, o, none⟩ = some (.int .u8 x0) := by have := hcell 0 (by omega); rwa [hx0] at this
  have hk1 : 1 < n → w.cell? ⟨b, o + 1, none⟩ = some (.int .u8 x1) := fun h => by have := hcell 1 h; rwa [hx1] at this
  have hk2 : 2 < n → w.cell? ⟨b, o + 2, none⟩ = some (.int .u8 x2) := fun h => by have := hcell 2 h; rwa [hx2] at this
  have hk3 : 3 < n → w.cell? ⟨b, o + 3, none⟩ = some (.int .u8 x3) := fun h => by have := hcell 3 h; rwa [hx3] at this
  rw [hx0, hx1, hx2, hx3]
  clear hcell hf hx0 hx1 hx2 hx3 f
  have hc0 := hT.1 x0 (by omega)
  have hres : firstT x0 < 240 → decodeN n x0 x1 x2 x3 = slowN n x0 x1 x2 x3 (firstT x0 % 8) (accLo (firstT x0 / 16)) (accHi (firstT x0 / 16)) :=
    fun h => (Lib.slow_eq _ _ _ _ _ (by omega) (by omega) (by omega) (by omega) h).symm
  rcases Lib.firstT_cases x0 with hX | hX | hX | hX | hX | hX | hX | hX | hX
  · rw [Lib.ascii_eq _ _ _ _ _ hX]
    rw [hX] at hc0
    clear hres hT hX hk1 hk2 hk3
    go_enter Tryz.func175, Tryz.ntmps175
    go_wp2
    rw [Utf8W.mask240, Utf8W.keep_byte ⟨x0, l0⟩]
    go_ret2
    exact ⟨rfl, Below.refl _ _⟩
  · rw [Lib.bad_eq _ _ _ _ _ (by omega) hX]
    rw [hX] at hc0
    clear hres hT hX hk1 hk2 hk3
    go_enter Tryz.func175, Tryz.ntmps175
    go_wp2
    rw [Utf8W.mask241, Utf8W.drop_byte ⟨x0, l0⟩]
    go_ret2
    exact ⟨rfl, Below.refl _ _⟩
  all_goals replace hres := hres (by omega)
  · rw [hX] at hc0 hres
    have ha0 := (hT.2 0 (by omega)).1
    have ha1 := (hT.2 0 (by omega)).2
    simp only [accLo, accHi, Nat.reduceMul, Nat.reduceAdd, Nat.reduceEqDiff, if_true, if_false, Nat.reduceMod, Nat.reduceDiv] at ha0 ha1 hres
    rw [hres]
    clear hres hT hX
    by_cases hs : n < 2
    · have hsz : (n : Int) < 2 := by omega
      clear hk1 hk2 hk3
      go_enter Tryz.func175, Tryz.ntmps175
      go_wp2
      all_goals
        go_ret2
        refine ⟨?_, (Below.refl _ _).alloc (Nat.le_refl _) _⟩
        unfold slowN runeOf
        repeat' split
        all_goals first
          | (exfalso; omega)
          | rfl
          | (simp only [Int.natCast_add, Int.natCast_mul, Int.natCast_emod, Int.natCast_ofNat]; rfl)
    · have hz1 : (1 : Int) < (n : Int) := by omega
      have k1 := fun ob => cell_alloc (hk1 (by omega)) ob
      clear hk1 hk2 hk3
      go_enter Tryz.func175, Tryz.ntmps175
      go_wp2
      all_goals
        go_ret2
        refine ⟨?_, (Below.refl _ _).alloc (Nat.le_refl _) _⟩
        unfold slowN runeOf
        repeat' split
        all_goals first
          | (exfalso; omega)
          | rfl
          | (simp only [Int.natCast_add, Int.natCast_mul, Int.natCast_emod, Int.natCast_ofNat]; rfl)
  · rw [hX] at hc0 hres
    have ha0 := (hT.2 1 (by omega)).1
    have ha1 := (hT.2 1 (by omega)).2
    simp only [accLo, accHi, Nat.reduceMul, Nat.reduceAdd, Nat.reduceEqDiff, if_true, if_false, Nat.reduceMod, Nat.reduceDiv] at ha0 ha1 hres
    rw [hres]
    clear hres hT hX
    by_cases hs : n < 3
    · have hsz : (n : Int) < 3 := by omega
      clear hk1 hk2 hk3
      go_enter Tryz.func175, Tryz.ntmps175
      go_wp2
      all_goals
        go_ret2
        refine ⟨?_, (Below.refl _ _).alloc (Nat.le_refl _) _⟩
        unfold slowN runeOf
        repeat' split
        all_goals first
          | (exfalso; omega)
          | rfl
          | (simp only [Int.natCast_add, Int.natCast_mul, Int.natCast_emod, Int.natCast_ofNat]; rfl)
    · have hz1 : (1 : Int) < (n : Int) := by omega
      have k1 := fun ob => cell_alloc (hk1 (by omega)) ob
      have hz2 : (2 : Int) < (n : Int) := by omega
      have k2 := fun ob => cell_alloc (hk2 (by omega)) ob
      clear hk1 hk2 hk3
      go_enter Tryz.func175, Tryz.ntmps175
      go_wp2
      all_goals
        go_ret2
        refine ⟨?_, (Below.refl _ _).alloc (Nat.le_refl _) _⟩
        unfold slowN runeOf
        repeat' split
        all_goals first
          | (exfalso; omega)
          | rfl
          | (simp only [Int.natCast_add, Int.natCast_mul, Int.natCast_emod, Int.natCast_ofNat]; rfl)
  · rw [hX] at hc0 hres
    have ha0 := (hT.2 0 (by omega)).1
    have ha1 := (hT.2 0 (by omega)).2
    simp only [accLo, accHi, Nat.reduceMul, Nat.reduceAdd, Nat.reduceEqDiff, if_true, if_false, Nat.reduceMod, Nat.reduceDiv] at ha0 ha1 hres
    rw [hres]
    clear hres hT hX
    by_cases hs : n < 3
    · have hsz : (n : Int) < 3 := by omega
      clear hk1 hk2 hk3
      go_enter Tryz.func175, Tryz.ntmps175
      go_wp2
      all_goals
        go_ret2
        refine ⟨?_, (Below.refl _ _).alloc (Nat.le_refl _) _⟩
        unfold slowN runeOf
        repeat' split
        all_goals first
          | (exfalso; omega)
          | rfl
          | (simp only [Int.natCast_add, Int.natCast_mul, Int.natCast_emod, Int.natCast_ofNat]; rfl)
    · have hz1 : (1 : Int) < (n : Int) := by omega
      have k1 := fun ob => cell_alloc (hk1 (by omega)) ob
      have hz2 : (2 : Int) < (n : Int) := by omega
      have k2 := fun ob => cell_alloc (hk2 (by omega)) ob
      clear hk1 hk2 hk3
      go_enter Tryz.func175, Tryz.ntmps175
      go_wp2
      all_goals
        go_ret2
        refine ⟨?_, (Below.refl _ _).alloc (Nat.le_refl _) _⟩
        unfold slowN runeOf
        repeat' split
        all_goals first
          | (exfalso; omega)
          | rfl
          | (simp only [Int.natCast_add, Int.natCast_mul, Int.natCast_emod, Int.natCast_ofNat]; rfl)
  · rw [hX] at hc0 hres
    have ha0 := (hT.2 2 (by omega)).1
    have ha1 := (hT.2 2 (by omega)).2
    simp only [accLo, accHi, Nat.reduceMul, Nat.reduceAdd, Nat.reduceEqDiff, if_true, if_false, Nat.reduceMod, Nat.reduceDiv] at ha0 ha1 hres
    rw [hres]
    clear hres hT hX
    by_cases hs : n < 3
    · have hsz : (n : Int) < 3 := by omega
      clear hk1 hk2 hk3
      go_enter Tryz.func175, Tryz.ntmps175
      go_wp2
      all_goals
        go_ret2
        refine ⟨?_, (Below.refl _ _).alloc (Nat.le_refl _) _⟩
        unfold slowN runeOf
        repeat' split
        all_goals first
          | (exfalso; omega)
          | rfl
          | (simp only [Int.natCast_add, Int.natCast_mul, Int.natCast_emod, Int.natCast_ofNat]; rfl)
    · have hz1 : (1 : Int) < (n : Int) := by omega
      have k1 := fun ob => cell_alloc (hk1 (by omega)) ob
      have hz2 : (2 : Int) < (n : Int) := by omega
      have k2 := fun ob => cell_alloc (hk2 (by omega)) ob
      clear hk1 hk2 hk3
      go_enter Tryz.func175, Tryz.ntmps175
      go_wp2
      all_goals
        go_ret2
        refine ⟨?_, (Below.refl _ _).alloc (Nat.le_refl _) _⟩
        unfold slowN runeOf
        repeat' split
        all_goals first
          | (exfalso; omega)
          | rfl
          | (simp only [Int.natCast_add, Int.natCast_mul, Int.natCast_emod, Int.natCast_ofNat]; rfl)
  · rw [hX] at hc0 hres
    have ha0 := (hT.2 3 (by omega)).1
    have ha1 := (hT.2 3 (by omega)).2
    simp only [accLo, accHi, Nat.reduceMul, Nat.reduceAdd, Nat.reduceEqDiff, if_true, if_false, Nat.reduceMod, Nat.reduceDiv] at ha0 ha1 hres
    rw [hres]
    clear hres hT hX
    by_cases hs : n < 4
    · have hsz : (n : Int) < 4 := by omega
      clear hk1 hk2 hk3
      go_enter Tryz.func175, Tryz.ntmps175
      go_wp2
      all_goals
        go_ret2
        refine ⟨?_, (Below.refl _ _).alloc (Nat.le_refl _) _⟩
        unfold slowN runeOf
        repeat' split
        all_goals first
          | (exfalso; omega)
          | rfl
          | (simp only [Int.natCast_add, Int.natCast_mul, Int.natCast_emod, Int.natCast_ofNat]; rfl)
    · have hz1 : (1 : Int) < (n : Int) := by omega
      have k1 := fun ob => cell_alloc (hk1 (by omega)) ob
      have hz2 : (2 : Int) < (n : Int) := by omega
      have k2 := fun ob => cell_alloc (hk2 (by omega)) ob
      have hz3 : (3 : Int) < (n : Int) := by omega
      have k3 := fun ob => cell_alloc (hk3 (by omega)) ob
      clear hk1 hk2 hk3
      go_enter Tryz.func175, Tryz.ntmps175
      go_wp2
      all_goals
        go_ret2
        refine ⟨?_, (Below.refl _ _).alloc (Nat.le_refl _) _⟩
        unfold slowN runeOf
        repeat' split
        all_goals first
          | (exfalso; omega)
          | rfl
          | (simp only [Int.natCast_add, Int.natCast_mul, Int.natCast_emod, Int.natCast_ofNat]; rfl)
  · rw [hX] at hc0 hres
    have ha0 := (hT.2 0 (by omega)).1
    have ha1 := (hT.2 0 (by omega)).2
    simp only [accLo, accHi, Nat.reduceMul, Nat.reduceAdd, Nat.reduceEqDiff, if_true, if_false, Nat.reduceMod, Nat.reduceDiv] at ha0 ha1 hres
    rw [hres]
    clear hres hT hX
    by_cases hs : n < 4
    · have hsz : (n : Int) < 4 := by omega
      clear hk1 hk2 hk3
      go_enter Tryz.func175, Tryz.ntmps175
      go_wp2
      all_goals
        go_ret2
        refine ⟨?_, (Below.refl _ _).alloc (Nat.le_refl _) _⟩
        unfold slowN runeOf
        repeat' split
        all_goals first
          | (exfalso; omega)
          | rfl
          | (simp only [Int.natCast_add, Int.natCast_mul, Int.natCast_emod, Int.natCast_ofNat]; rfl)
    · have hz1 : (1 : Int) < (n : Int) := by omega
      have k1 := fun ob => cell_alloc (hk1 (by omega)) ob
      have hz2 : (2 : Int) < (n : Int) := by omega
      have k2 := fun ob => cell_alloc (hk2 (by omega)) ob
      have hz3 : (3 : Int) < (n : Int) := by omega
      have k3 := fun ob => cell_alloc (hk3 (by omega)) ob
      clear hk1 hk2 hk3
      go_enter Tryz.func175, Tryz.ntmps175
      go_wp2
      all_goals
        go_ret2
        refine ⟨?_, (Below.refl _ _).alloc (Nat.le_refl _) _⟩
        unfold slowN runeOf
        repeat' split
        all_goals first
          | (exfalso; omega)
          | rfl
          | (simp only [Int.natCast_add, Int.natCast_mul, Int.natCast_emod, Int.natCast_ofNat]; rfl)
  · rw [hX] at hc0 hres
    have ha0 := (hT.2 4 (by omega)).1
    have ha1 := (hT.2 4 (by omega)).2
    simp only [accLo, accHi, Nat.reduceMul, Nat.reduceAdd, Nat.reduceEqDiff, if_true, if_false, Nat.reduceMod, Nat.reduceDiv] at ha0 ha1 hres
    rw [hres]
    clear hres hT hX
    by_cases hs : n < 4
    · have hsz : (n : Int) < 4 := by omega
      clear hk1 hk2 hk3
      go_enter Tryz.func175, Tryz.ntmps175
      go_wp2
      all_goals
        go_ret2
        refine ⟨?_, (Below.refl _ _).alloc (Nat.le_refl _) _⟩
        unfold slowN runeOf
        repeat' split
        all_goals first
          | (exfalso; omega)
          | rfl
          | (simp only [Int.natCast_add, Int.natCast_mul, Int.natCast_emod, Int.natCast_ofNat]; rfl)
    · have hz1 : (1 : Int) < (n : Int) := by omega
      have k1 := fun ob => cell_alloc (hk1 (by omega)) ob
      have hz2 : (2 : Int) < (n : Int) := by omega
      have k2 := fun ob => cell_alloc (hk2 (by omega)) ob
      have hz3 : (3 : Int) < (n : Int) := by omega
      have k3 := fun ob => cell_alloc (hk3 (by omega)) ob
      clear hk1 hk2 hk3
      go_enter Tryz.func175, Tryz.ntmps175
      go_wp2
      all_goals
        go_ret2
        refine ⟨?_, (Below.refl _ _).alloc (Nat.le_refl _) _⟩
        unfold slowN runeOf
        repeat' split
        all_goals first
          | (exfalso; omega)
          | rfl
          | (simp only [Int.natCast_add, Int.natCast_mul, Int.natCast_emod, Int.natCast_ofNat]; rfl)

end Go.Proofs.YtfonflbpkbibbaaGreatDoor
namespace Go.Proofs.YtfonflbpkbibbaaGreatDoor
open Go.RowKit

theorem under39 : Tryz.prog.underlying 190 = some (.array 5 188) := by kernel_rfl
theorem under40 : Tryz.prog.underlying 189 = some (.array 15 188) := by kernel_rfl

theorem index_chars (i : Nat) (p : Int × Int) (hp : charsT[i]? = some p) (w : World) : (Instr.index 190 (.agg (flatT charsT).toArray) (.int .i64 (i : Int))).run Tryz.prog w = .ok (.agg #[.int .i32 p.1, .int .i32 p.2]) w := by
  have x0 : ∀ w : World, (Instr.index 190 (.agg (flatT charsT).toArray) (.int .i64 0)).run Tryz.prog w = .ok (.agg #[.int .i32 9, .int .i32 10]) w := fun _ => by kernel_rfl
  have x1 : ∀ w : World, (Instr.index 190 (.agg (flatT charsT).toArray) (.int .i64 1)).run Tryz.prog w = .ok (.agg #[.int .i32 13, .int .i32 13]) w := fun _ => by kernel_rfl
  have x2 : ∀ w : World, (Instr.index 190 (.agg (flatT charsT).toArray) (.int .i64 2)).run Tryz.prog w = .ok (.agg #[.int .i32 32, .int .i32 55295]) w := fun _ => by kernel_rfl
  have x3 : ∀ w : World, (Instr.index 190 (.agg (flatT charsT).toArray) (.int .i64 3)).run Tryz.prog w = .ok (.agg #[.int .i32 57344, .int .i32 65533]) w := fun _ => by kernel_rfl
  have x4 : ∀ w : World, (Instr.index 190 (.agg (flatT charsT).toArray) (.int .i64 4)).run Tryz.prog w = .ok (.agg #[.int .i32 65536, .int .i32 1114111]) w := fun _ => by kernel_rfl
  have hi : i < 5 := by
    rcases Nat.lt_or_ge i 5 with h | h
    · exact h
    · rw [List.getElem?_eq_none (show charsT.length ≤ i from h)] at hp
      cases hp
  rcases (show i = 0 ∨ i = 1 ∨ i = 2 ∨ i = 3 ∨ i = 4 from by omega) with rfl | rfl | rfl | rfl | rfl
  · cases hp; exact x0 w
  · cases hp; exact x1 w
  · cases hp; exact x2 w
  · cases hp; exact x3 w
  · cases hp; exact x4 w

set_option maxRecDepth 100000 in
set_option maxHeartbeats 4000000 in
theorem chars_calls (r : Int) (w : World) (hT : TabAt 9 charsT w) : Calls Tryz.prog 151 #[.int .i32 r] w (Leaves (.bool (inTab charsT r)) w) := by
  have ix := index_chars
  obtain ⟨fl, hfl⟩ : ∃ fl, flatT charsT = fl := ⟨_, rfl⟩
  have hlen : fl.length = 10 := by rw [← hfl]; rfl
  unfold TabAt at hT
  rw [hfl] at hT ix
  go_enter Tryz.func151, Tryz.ntmps151
  go_wp2_with (refine wpList_load_mid rfl 190 _ rfl 9 0 rfl fl _ hT under39 rfl (by rw [hlen]; kernel_rfl) ?_)
  go_loopg [6] 5 (fun g s wr => ∃ i : Nat, s = .int .i64 i ∧ g + i = 5 ∧ inTab charsT r = inTab (charsT.drop i) r ∧ Below w.heap.size w wr)
  case atStart => exact ⟨0, rfl, rfl, rfl, Below.refl _ _⟩
  case round =>
    obtain ⟨i, rfl, hg, ht, hb⟩ := hrel
    have HG := Lib.hid hg
    have HT := Lib.hid ht
    have HB := Lib.hid hb
    clear hg ht hb
    by_cases hlt : i < 5
    · have hd : decide ((i : Int) < 5) = true := by simp; omega
      obtain ⟨⟨a, b⟩, hp⟩ : ∃ p, charsT[i]? = some p := ⟨_, List.getElem?_eq_getElem (show i < charsT.length from hlt)⟩
      have ix2 := ix i (a, b) hp
      have HP := Lib.hid hp
      clear hp ix
      go_wp2_with fail
      refine (holds_pair (a, b) r _).mono ?_
      rintro e w2 ⟨rfl, hb2⟩
      have HB2 := Lib.hid hb2
      clear hb2
      cases hin : inPair r (a, b) with
      | true =>
        go_wp2
        go_ret
        refine ⟨by rw [HT.out, inTab_cons HP.out, hin]; rfl, ?_⟩
        exact below_then (HB.out.alloc HB.out.size _) HB2.out
      | false =>
        go_wp2
        go_roundg (gk - 1)
        case measure => have := HG.out; omega
        case rel => exact ⟨i + 1, by go_num, by have := HG.out; omega, by rw [HT.out, inTab_cons HP.out, hin]; rfl, below_then (HB.out.alloc HB.out.size _) HB2.out⟩
    · have hd : decide ((i : Int) < 5) = false := by simp; omega
      have hi : i = 5 := by have := HG.out; omega
      have h0 : inTab (charsT.drop i) r = false := by rw [hi]; rfl
      have H0 := Lib.hid h0
      clear h0 ix
      go_wp2
      go_ret
      exact ⟨by rw [HT.out, H0.out]; rfl, HB.out⟩

theorem index_firsts (i : Nat) (p : Int × Int) (hp : firstsT[i]? = some p) (w : World) : (Instr.index 189 (.agg (flatT firstsT).toArray) (.int .i64 (i : Int))).run Tryz.prog w = .ok (.agg #[.int .i32 p.1, .int .i32 p.2]) w := by
  have x0 : ∀ w : World, (Instr.index 189 (.agg (flatT firstsT).toArray) (.int .i64 0)).run Tryz.prog w = .ok (.agg #[.int .i32 65, .int .i32 90]) w := fun _ => by kernel_rfl
  have x1 : ∀ w : World, (Instr.index 189 (.agg (flatT firstsT).toArray) (.int .i64 1)).run Tryz.prog w = .ok (.agg #[.int .i32 95, .int .i32 95]) w := fun _ => by kernel_rfl
  have x2 : ∀ w : World, (Instr.index 189 (.agg (flatT firstsT).toArray) (.int .i64 2)).run Tryz.prog w = .ok (.agg #[.int .i32 97, .int .i32 122]) w := fun _ => by kernel_rfl
  have x3 : ∀ w : World, (Instr.index 189 (.agg (flatT firstsT).toArray) (.int .i64 3)).run Tryz.prog w = .ok (.agg #[.int .i32 192, .int .i32 214]) w := fun _ => by kernel_rfl
  have x4 : ∀ w : World, (Instr.index 189 (.agg (flatT firstsT).toArray) (.int .i64 4)).run Tryz.prog w = .ok (.agg #[.int .i32 216, .int .i32 246]) w := fun _ => by kernel_rfl
  have x5 : ∀ w : World, (Instr.index 189 (.agg (flatT firstsT).toArray) (.int .i64 5)).run Tryz.prog w = .ok (.agg #[.int .i32 248, .int .i32 767]) w := fun _ => by kernel_rfl
  have x6 : ∀ w : World, (Instr.index 189 (.agg (flatT firstsT).toArray) (.int .i64 6)).run Tryz.prog w = .ok (.agg #[.int .i32 880, .int .i32 893]) w := fun _ => by kernel_rfl
  have x7 : ∀ w : World, (Instr.index 189 (.agg (flatT firstsT).toArray) (.int .i64 7)).run Tryz.prog w = .ok (.agg #[.int .i32 895, .int .i32 8191]) w := fun _ => by kernel_rfl
  have x8 : ∀ w : World, (Instr.index 189 (.agg (flatT firstsT).toArray) (.int .i64 8)).run Tryz.prog w = .ok (.agg #[.int .i32 8204, .int .i32 8205]) w := fun _ => by kernel_rfl
  have x9 : ∀ w : World, (Instr.index 189 (.agg (flatT firstsT).toArray) (.int .i64 9)).run Tryz.prog w = .ok (.agg #[.int .i32 8304, .int .i32 8591]) w := fun _ => by kernel_rfl
  have x10 : ∀ w : World, (Instr.index 189 (.agg (flatT firstsT).toArray) (.int .i64 10)).run Tryz.prog w = .ok (.agg #[.int .i32 11264, .int .i32 12271]) w := fun _ => by kernel_rfl
  have x11 : ∀ w : World, (Instr.index 189 (.agg (flatT firstsT).toArray) (.int .i64 11)).run Tryz.prog w = .ok (.agg #[.int .i32 12289, .int .i32 55295]) w := fun _ => by kernel_rfl
  have x12 : ∀ w : World, (Instr.index 189 (.agg (flatT firstsT).toArray) (.int .i64 12)).run Tryz.prog w = .ok (.agg #[.int .i32 63744, .int .i32 64975]) w := fun _ => by kernel_rfl
  have x13 : ∀ w : World, (Instr.index 189 (.agg (flatT firstsT).toArray) (.int .i64 13)).run Tryz.prog w = .ok (.agg #[.int .i32 65008, .int .i32 65533]) w := fun _ => by kernel_rfl
  have x14 : ∀ w : World, (Instr.index 189 (.agg (flatT firstsT).toArray) (.int .i64 14)).run Tryz.prog w = .ok (.agg #[.int .i32 65536, .int .i32 983039]) w := fun _ => by kernel_rfl
  have hi : i < 15 := by
    rcases Nat.lt_or_ge i 15 with h | h
    · exact h
    · rw [List.getElem?_eq_none (show firstsT.length ≤ i from h)] at hp
      cases hp
  rcases (show i = 0 ∨ i = 1 ∨ i = 2 ∨ i = 3 ∨ i = 4 ∨ i = 5 ∨ i = 6 ∨ i = 7 ∨ i = 8 ∨ i = 9 ∨ i = 10 ∨ i = 11 ∨ i = 12 ∨ i = 13 ∨ i = 14 from by omega) with rfl | rfl | rfl | rfl | rfl | rfl | rfl | rfl | rfl | rfl | rfl | rfl | rfl | rfl | rfl
  · cases hp; exact x0 w
  · cases hp; exact x1 w
  · cases hp; exact x2 w
  · cases hp; exact x3 w
  · cases hp; exact x4 w
  · cases hp; exact x5 w
  · cases hp; exact x6 w
  · cases hp; exact x7 w
  · cases hp; exact x8 w
  · cases hp; exact x9 w
  · cases hp; exact x10 w
  · cases hp; exact x11 w
  · cases hp; exact x12 w
  · cases hp; exact x13 w
  · cases hp; exact x14 w

set_option maxRecDepth 100000 in
set_option maxHeartbeats 4000000 in
theorem firsts_calls (r : Int) (w : World) (hT : TabAt 3 firstsT w) : Calls Tryz.prog 112 #[.int .i32 r] w (Leaves (.bool (inTab firstsT r)) w) := by
  have ix := index_firsts
  obtain ⟨fl, hfl⟩ : ∃ fl, flatT firstsT = fl := ⟨_, rfl⟩
  have hlen : fl.length = 30 := by rw [← hfl]; rfl
  unfold TabAt at hT
  rw [hfl] at hT ix
  go_enter Tryz.func112, Tryz.ntmps112
  go_wp2_with (refine wpList_load_mid rfl 189 _ rfl 3 0 rfl fl _ hT under40 rfl (by rw [hlen]; kernel_rfl) ?_)
  go_loopg [6] 15 (fun g s wr => ∃ i : Nat, s = .int .i64 i ∧ g + i = 15 ∧ inTab firstsT r = inTab (firstsT.drop i) r ∧ Below w.heap.size w wr)
  case atStart => exact ⟨0, rfl, rfl, rfl, Below.refl _ _⟩
  case round =>
    obtain ⟨i, rfl, hg, ht, hb⟩ := hrel
    have HG := Lib.hid hg
    have HT := Lib.hid ht
    have HB := Lib.hid hb
    clear hg ht hb
    by_cases hlt : i < 15
    · have hd : decide ((i : Int) < 15) = true := by simp; omega
      obtain ⟨⟨a, b⟩, hp⟩ : ∃ p, firstsT[i]? = some p := ⟨_, List.getElem?_eq_getElem (show i < firstsT.length from hlt)⟩
      have ix2 := ix i (a, b) hp
      have HP := Lib.hid hp
      clear hp ix
      go_wp2_with fail
      refine (holds_pair (a, b) r _).mono ?_
      rintro e w2 ⟨rfl, hb2⟩
      have HB2 := Lib.hid hb2
      clear hb2
      cases hin : inPair r (a, b) with
      | true =>
        go_wp2
        go_ret
        refine ⟨by rw [HT.out, inTab_cons HP.out, hin]; rfl, ?_⟩
        exact below_then (HB.out.alloc HB.out.size _) HB2.out
      | false =>
        go_wp2
        go_roundg (gk - 1)
        case measure => have := HG.out; omega
        case rel => exact ⟨i + 1, by go_num, by have := HG.out; omega, by rw [HT.out, inTab_cons HP.out, hin]; rfl, below_then (HB.out.alloc HB.out.size _) HB2.out⟩
    · have hd : decide ((i : Int) < 15) = false := by simp; omega
      have hi : i = 15 := by have := HG.out; omega
      have h0 : inTab (firstsT.drop i) r = false := by rw [hi]; rfl
      have H0 := Lib.hid h0
      clear h0 ix
      go_wp2
      go_ret
      exact ⟨by rw [HT.out, H0.out]; rfl, HB.out⟩

theorem index_further (i : Nat) (p : Int × Int) (hp : furtherT[i]? = some p) (w : World) : (Instr.index 190 (.agg (flatT furtherT).toArray) (.int .i64 (i : Int))).run Tryz.prog w = .ok (.agg #[.int .i32 p.1, .int .i32 p.2]) w := by
  have x0 : ∀ w : World, (Instr.index 190 (.agg (flatT furtherT).toArray) (.int .i64 0)).run Tryz.prog w = .ok (.agg #[.int .i32 45, .int .i32 46]) w := fun _ => by kernel_rfl
  have x1 : ∀ w : World, (Instr.index 190 (.agg (flatT furtherT).toArray) (.int .i64 1)).run Tryz.prog w = .ok (.agg #[.int .i32 48, .int .i32 57]) w := fun _ => by kernel_rfl
  have x2 : ∀ w : World, (Instr.index 190 (.agg (flatT furtherT).toArray) (.int .i64 2)).run Tryz.prog w = .ok (.agg #[.int .i32 183, .int .i32 183]) w := fun _ => by kernel_rfl
  have x3 : ∀ w : World, (Instr.index 190 (.agg (flatT furtherT).toArray) (.int .i64 3)).run Tryz.prog w = .ok (.agg #[.int .i32 768, .int .i32 879]) w := fun _ => by kernel_rfl
  have x4 : ∀ w : World, (Instr.index 190 (.agg (flatT furtherT).toArray) (.int .i64 4)).run Tryz.prog w = .ok (.agg #[.int .i32 8255, .int .i32 8256]) w := fun _ => by kernel_rfl
  have hi : i < 5 := by
    rcases Nat.lt_or_ge i 5 with h | h
    · exact h
    · rw [List.getElem?_eq_none (show furtherT.length ≤ i from h)] at hp
      cases hp
  rcases (show i = 0 ∨ i = 1 ∨ i = 2 ∨ i = 3 ∨ i = 4 from by omega) with rfl | rfl | rfl | rfl | rfl
  · cases hp; exact x0 w
  · cases hp; exact x1 w
  · cases hp; exact x2 w
  · cases hp; exact x3 w
  · cases hp; exact x4 w

set_option maxRecDepth 100000 in
set_option maxHeartbeats 4000000 in
theorem further_calls (r : Int) (w : World) (hT : TabAt 4 furtherT w) (hF : TabAt 3 firstsT w) : Calls Tryz.prog 113 #[.int .i32 r] w (Leaves (.bool (inTab furtherT r || inTab firstsT r)) w) := by
  have ix := index_further
  obtain ⟨fl, hfl⟩ : ∃ fl, flatT furtherT = fl := ⟨_, rfl⟩
  have hlen : fl.length = 10 := by rw [← hfl]; rfl
  unfold TabAt at hT
  rw [hfl] at hT ix
  go_enter Tryz.func113, Tryz.ntmps113
  go_wp2_with (refine wpList_load_mid rfl 190 _ rfl 4 0 rfl fl _ hT under39 rfl (by rw [hlen]; kernel_rfl) ?_)
  go_loopg [6] 5 (fun g s wr => ∃ i : Nat, s = .int .i64 i ∧ g + i = 5 ∧ inTab furtherT r = inTab (furtherT.drop i) r ∧ Below w.heap.size w wr)
  case atStart => exact ⟨0, rfl, rfl, rfl, Below.refl _ _⟩
  case round =>
    obtain ⟨i, rfl, hg, ht, hb⟩ := hrel
    have HG := Lib.hid hg
    have HT := Lib.hid ht
    have HB := Lib.hid hb
    clear hg ht hb
    by_cases hlt : i < 5
    · have hd : decide ((i : Int) < 5) = true := by simp; omega
      obtain ⟨⟨a, b⟩, hp⟩ : ∃ p, furtherT[i]? = some p := ⟨_, List.getElem?_eq_getElem (show i < furtherT.length from hlt)⟩
      have ix2 := ix i (a, b) hp
      have HP := Lib.hid hp
      clear hp ix
      go_wp2_with fail
      refine (holds_pair (a, b) r _).mono ?_
      rintro e w2 ⟨rfl, hb2⟩
      have HB2 := Lib.hid hb2
      clear hb2
      cases hin : inPair r (a, b) with
      | true =>
        go_wp2
        go_ret
        refine ⟨by rw [HT.out, inTab_cons HP.out, hin]; rfl, ?_⟩
        exact below_then (HB.out.alloc HB.out.size _) HB2.out
      | false =>
        go_wp2
        go_roundg (gk - 1)
        case measure => have := HG.out; omega
        case rel => exact ⟨i + 1, by go_num, by have := HG.out; omega, by rw [HT.out, inTab_cons HP.out, hin]; rfl, below_then (HB.out.alloc HB.out.size _) HB2.out⟩
    · have hd : decide ((i : Int) < 5) = false := by simp; omega
      have hi : i = 5 := by have := HG.out; omega
      have h0 : inTab (furtherT.drop i) r = false := by rw [hi]; rfl
      have H0 := Lib.hid h0
      clear h0 ix
      go_wp2_with fail
      refine (firsts_calls r _ (hF.below HB.out)).mono ?_
      rintro e w2 ⟨rfl, hb2⟩
      have HB2 := Lib.hid hb2
      clear hb2
      go_wp2
      go_ret
      exact ⟨by rw [HT.out, H0.out]; rfl, below_then HB.out HB2.out⟩

end Go.Proofs.YtfonflbpkbibbaaGreatDoor
