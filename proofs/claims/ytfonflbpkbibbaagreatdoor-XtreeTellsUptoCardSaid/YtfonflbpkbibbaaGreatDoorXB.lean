/-
  A document's scan in memory: its block and the document's bytes; what a step leaves; peek, must and blanks. Condition: the scan lies in memory, the document's bytes beside it.
-/
import Derived.Test.YtfonflbpkbibbaaGreatDoorXP
import Derived.Lib.SmallJoins
import Derived.Laws.Rows
import Derived.Deep.QuietTactic
import Derived.BigQuiet
import Derived.WalkLawsBesides
namespace Go.Proofs.YtfonflbpkbibbaaGreatDoor
open Go.RowKit Go.Lib Go.Joins

/-- Of what was there nothing has turned but these blocks. -/
structure Keeps (S : Nat → Prop) (w w' : World) : Prop where
  os : w'.os = w.os
  tape : w'.tape = w.tape
  output : w'.output = w.output
  size : w.heap.size ≤ w'.heap.size
  block : ∀ k, k < w.heap.size → ¬ S k → w'.heap[k]? = w.heap[k]?

def Non : Nat → Prop := fun _ => False
/-- One block alone. -/
def One (b : Nat) : Nat → Prop := fun k => k = b
/-- These blocks, or new ones. -/
def Fresh (S : Nat → Prop) (n : Nat) (S' : Nat → Prop) : Prop := ∀ k, S' k → S k ∨ n ≤ k

theorem Keeps.refl (S : Nat → Prop) (w : World) : Keeps S w w := ⟨rfl, rfl, rfl, Nat.le_refl _, fun _ _ _ => rfl⟩
theorem Keeps.trans {S S' : Nat → Prop} {a b c : World} (h : Keeps S a b) (k : Keeps S' b c) (hs : Fresh S a.heap.size S') : Keeps S a c :=
  ⟨k.os.trans h.os, k.tape.trans h.tape, k.output.trans h.output, Nat.le_trans h.size k.size, fun i hi hn =>
    (k.block i (Nat.lt_of_lt_of_le hi h.size) (fun e => by rcases hs i e with h1 | h1; exact hn h1; omega)).trans (h.block i hi hn)⟩
theorem Keeps.mono {S S' : Nat → Prop} {a b : World} (h : Keeps S a b) (hs : ∀ k, k < a.heap.size → S k → S' k) : Keeps S' a b :=
  ⟨h.os, h.tape, h.output, h.size, fun i hi hn => h.block i hi (fun e => hn (hs i hi e))⟩
theorem Keeps.drew {S : Nat → Prop} {a b : World} (h : Keeps S a b) : Keeps S a b.drew := ⟨h.os, h.tape, h.output, h.size, h.block⟩
theorem Keeps.drewN {S : Nat → Prop} {a b : World} (h : Keeps S a b) (n : Nat) : Keeps S a (b.drewN n) := ⟨h.os, h.tape, h.output, h.size, h.block⟩
theorem Keeps.alloc {S : Nat → Prop} {a b : World} (h : Keeps S a b) (o : Obj) : Keeps S a (b.alloc o) :=
  ⟨h.os, h.tape, h.output, by have := h.size; simp; omega, fun i hi hn => (Below.heap_alloc b o i (Nat.lt_of_lt_of_le hi h.size)).trans (h.block i hi hn)⟩
theorem Keeps.setCell {S : Nat → Prop} {a b : World} (h : Keeps S a b) {p : Addr} (hp : S p.block ∨ a.heap.size ≤ p.block) (u : Value) : Keeps S a (b.setCell p u) :=
  ⟨h.os, h.tape, h.output, by have := h.size; simp [World.setCell]; omega, fun i hi hn => (Below.heap_setCell b p u i (fun e => by rcases hp with h1 | h1; exact hn (e ▸ h1); omega)).trans (h.block i hi hn)⟩
theorem Keeps.grown {S : Nat → Prop} {a b c : World} {row : Option Nat} (h : Keeps S a b) (hg : b.grownBy c row) (hr : ∀ k, row = some k → S k ∨ a.heap.size ≤ k) : Keeps S a c :=
  ⟨hg.os.trans h.os, hg.tape.trans h.tape, hg.output.trans h.output, Nat.le_trans h.size hg.size, fun i hi hn =>
    (hg.block i (Nat.lt_of_lt_of_le hi h.size) (fun e => by rcases hr i e.symm with h1 | h1; exact hn h1; omega)).trans (h.block i hi hn)⟩
theorem Keeps.below {S : Nat → Prop} {a b c : World} (h : Keeps S a b) {n : Nat} (hb : Below n b c) (hn : a.heap.size ≤ n) : Keeps S a c :=
  ⟨hb.os.trans h.os, hb.tape.trans h.tape, hb.output.trans h.output, Nat.le_trans h.size hb.size, fun i hi hs => (hb.block i (by omega)).trans (h.block i hi hs)⟩
theorem keeps_below {w w' : World} (h : Below w.heap.size w w') (S : Nat → Prop) : Keeps S w w' := (Keeps.refl S w).below h (Nat.le_refl _)
theorem Keeps.toBelow {S : Nat → Prop} {w w' : World} (h : Keeps S w w') {n : Nat} (hn : n ≤ w.heap.size) (hS : ∀ k, S k → n ≤ k) : Below n w w' :=
  ⟨h.os, h.tape, h.output, h.size, fun k hk => h.block k (by omega) (fun e => by have := hS k e; omega)⟩
theorem fresh_trans {S S' S'' : Nat → Prop} {n m : Nat} (h : Fresh S n S') (k : Fresh S' m S'') (hm : n ≤ m) : Fresh S n S'' := by
  intro i hi
  rcases k i hi with h1 | h1
  · exact h i h1
  · exact .inr (by omega)
theorem fresh_refl (S : Nat → Prop) (n : Nat) : Fresh S n S := fun _ h => .inl h
theorem fresh_non (S : Nat → Prop) (n : Nat) : Fresh S n Non := fun _ h => h.elim

theorem lt_of_block {w : World} {b : Nat} {o : Obj} (h : w.heap[b]? = some o) : b < w.heap.size := (Array.getElem?_eq_some_iff.1 h).1
theorem block_below {w w' : World} (h : Below w.heap.size w w') {b : Nat} {o : Obj} (hb : w.heap[b]? = some o) : w'.heap[b]? = some o := (h.block b (lt_of_block hb)).trans hb
theorem block_keep {w w' : World} {O : Nat → Prop} {b : Nat} {o : Obj} (h : w.heap[b]? = some o) (hk : Keeps O w w') (hb : ¬ O b) : w'.heap[b]? = some o := (hk.block b (lt_of_block h) hb).trans h
/-- A call that draws, and turns nothing. -/
def Tells (v : Value) (w : World) (e : Ending) (w' : World) : Prop := e = .returned v ∧ ∃ n, w' = w.drewN n

theorem quiet_add {P : Program} {f : FuncId} {args : Array Value} {w : World} {a n : Nat} {v : Value} (h : Calls P f args (w.drewN (a + n)) (Tells v (w.drewN (a + n)))) :
    Calls P f args (w.drewN (a + n)) fun e w'' => e = .returned v ∧ ∃ m, w'' = w.drewN (a + m) :=
  h.mono fun _ _ ⟨he, m, hm⟩ => ⟨he, n + m, by rw [hm, World.drewN_drewN, Nat.add_assoc]⟩

/-- What is wrong, as the scan throws it. -/
def wrongV (c p : Nat) : Value := .iface 102 (.agg #[.int .i64 (c : Int), .int .i64 (p : Int)])
/-- A scan lies in block B, at place i, t being left; the document's bytes lie elsewhere. -/
structure ScAt (w : World) (B : Nat) (a : Option Addr) (c : Nat) (l : List UInt8) (i : Nat) (t : List UInt8) : Prop where
  blk : w.heap[B]? = some (.cells #[.slice a l.length c, .int .i64 (i : Int)] 106 (0, 0))
  row : l.length = 0 ∨ ∃ b o, a = some ⟨b, o, none⟩ ∧ b ≠ B ∧ ∀ k, k < l.length → w.cell? ⟨b, o + k, none⟩ = some (.int .u8 (fs l k : Int))
  nul : a = none → c = 0
  cap : l.length ≤ c
  most : c ≤ maxLen
  few : l.length ≤ 65536
  fits : i ≤ l.length
  left : t = l.drop i
theorem ScAt.moved {w w' : World} {B : Nat} {a : Option Addr} {c : Nat} {l : List UInt8} {i : Nat} {t : List UInt8} (h : ScAt w B a c l i t) (hk : Keeps (One B) w w') (j : Nat) (hb : w'.heap[B]? = some (.cells #[.slice a l.length c, .int .i64 (j : Int)] 106 (0, 0))) (hj : j ≤ l.length) (u : List UInt8) (hu : u = l.drop j) : ScAt w' B a c l j u where
  blk := hb
  row := by
    rcases h.row with h0 | ⟨b, o, h1, h2, h3⟩
    · exact .inl h0
    · exact .inr ⟨b, o, h1, h2, fun k hk' => (World.cell?_of_block (hk.block b (lt_of_cell (h3 k hk')) h2)).trans (h3 k hk')⟩
  nul := h.nul
  cap := h.cap
  most := h.most
  few := h.few
  fits := hj
  left := hu
theorem ScAt.keep {w w' : World} {B : Nat} {a : Option Addr} {c : Nat} {l : List UInt8} {i : Nat} {t : List UInt8} (h : ScAt w B a c l i t) (hb : Below w.heap.size w w') : ScAt w' B a c l i t :=
  h.moved (keeps_below hb (One B)) i (block_below hb h.blk) h.fits t h.left
theorem ScAt.drawn {w : World} {B : Nat} {a : Option Addr} {c : Nat} {l : List UInt8} {i : Nat} {t : List UInt8} (h : ScAt w B a c l i t) (n : Nat) : ScAt (w.drewN n) B a c l i t :=
  h.keep ⟨rfl, rfl, rfl, Nat.le_refl _, fun _ _ => rfl⟩
/-- The place moves on. -/
theorem ScAt.place {w : World} {B : Nat} {a : Option Addr} {c : Nat} {l : List UInt8} {i : Nat} {t : List UInt8} (h : ScAt w B a c l i t) {j : Nat} (hj : j ≤ l.length) {u : List UInt8} (hu : u = l.drop j) : ScAt (w.setCell ⟨B, 1, none⟩ (.int .i64 (j : Int))) B a c l j u ∧ Keeps (One B) w (w.setCell ⟨B, 1, none⟩ (.int .i64 (j : Int))) := by
  have hk : Keeps (One B) w (w.setCell ⟨B, 1, none⟩ (.int .i64 (j : Int))) := (Keeps.refl (One B) w).setCell (p := ⟨B, 1, none⟩) (.inl rfl) _
  exact ⟨h.moved hk j (block_setCell (i := 1) h.blk _) hj u hu, hk⟩
theorem ScAt.cells {w : World} {B : Nat} {a : Option Addr} {c : Nat} {l : List UInt8} {i : Nat} {t : List UInt8} (h : ScAt w B a c l i t) : w.cell? ⟨B, 0, none⟩ = some (.slice a l.length c) ∧ w.cell? ⟨B, 1, none⟩ = some (.int .i64 (i : Int)) :=
  ⟨(cell_of_block h.blk 0).trans rfl, (cell_of_block h.blk 1).trans rfl⟩
theorem ScAt.len {w : World} {B : Nat} {a : Option Addr} {c : Nat} {l : List UInt8} {i : Nat} {t : List UInt8} (h : ScAt w B a c l i t) : i + t.length = l.length := by
  rw [h.left, List.length_drop]; have := h.fits; omega
theorem ScAt.head {w : World} {B : Nat} {a : Option Addr} {c : Nat} {l : List UInt8} {i : Nat} {x : UInt8} {t : List UInt8} (h : ScAt w B a c l i (x :: t)) : i < l.length ∧ fs l i = x.toNat ∧ t = l.drop (i + 1) := by
  have hl := h.len
  have hlt : i < l.length := by rw [List.length_cons] at hl; omega
  have h1 := h.left
  rw [List.drop_eq_getElem_cons hlt] at h1
  injection h1 with h2 h3
  exact ⟨hlt, by unfold fs; rw [List.getD_eq_getElem?_getD, List.getElem?_eq_getElem hlt, h2]; rfl, h3⟩
theorem mustS_cons (b x : UInt8) (i : Nat) (t : List UInt8) : mustS b i (x :: t) = if x = b then .ok () (i + 1) t else .no 2 i := rfl
theorem blkS_cons (i : Nat) (x : UInt8) (t : List UInt8) : blkS i (x :: t) = if blankB (x.toNat : Int) = true then blkS (i + 1) t else .ok () i (x :: t) := rfl
/-- A call that throws what is wrong, and turns nothing. -/
def Throws (c p : Nat) (w : World) (e : Ending) (w' : World) : Prop := e = .panicked [{ v := wrongV c p, recovered := false }] ∧ ∃ n, w' = w.drewN n
/-- What a step leaves: what it tells, the scan, and nothing else that was there has turned; or what is wrong. -/
def ScOut {α : Type} (w : World) (B : Nat) (a : Option Addr) (c : Nat) (l : List UInt8) (val : α → Value) : Sx α → Ending → World → Prop
  | .ok x i t, e, w' => e = .returned (val x) ∧ ScAt w' B a c l i t ∧ Keeps (One B) w w'
  | .no cd p, e, w' => e = .panicked [{ v := wrongV cd p, recovered := false }] ∧ Keeps (One B) w w'
theorem ScOut.after {α : Type} {w w1 w2 : World} {B : Nat} {a : Option Addr} {c : Nat} {l : List UInt8} {val : α → Value} {s : Sx α} {e : Ending} (h : ScOut w1 B a c l val s e w2) (hk : Keeps (One B) w w1) : ScOut w B a c l val s e w2 := by
  cases s with
  | ok x i t => exact ⟨h.1, h.2.1, hk.trans h.2.2 (fresh_refl _ _)⟩
  | no cd p => exact ⟨h.1, hk.trans h.2 (fresh_refl _ _)⟩

set_option maxRecDepth 100000 in
set_option maxHeartbeats 1000000 in
theorem peek_end {w : World} {B : Nat} {a : Option Addr} {c : Nat} {l : List UInt8} {i : Nat} (h : ScAt w B a c l i []) : Calls Tryz.prog 130 #[.pointer (some ⟨B, 0, none⟩)] w (Throws 6 i w) := by
  obtain ⟨e0, e1⟩ := h.cells
  have hlen := h.len
  have hin : i = l.length := by simpa using hlen
  rw [← hin] at e0
  have hz : ((i : Int) == (i : Int)) = true := by simp
  clear h hlen hin
  go_enter Tryz.func130, Tryz.ntmps130
  go_wp2_with fail
  go_quiet (fail)
  go_wp2_with fail
  exact ⟨rfl, rfl, _, rfl⟩
set_option maxRecDepth 100000 in
set_option maxHeartbeats 1000000 in
theorem peek_ok {w : World} {B : Nat} {a : Option Addr} {c : Nat} {l : List UInt8} {i : Nat} {x : UInt8} {t : List UInt8} (h : ScAt w B a c l i (x :: t)) : Calls Tryz.prog 130 #[.pointer (some ⟨B, 0, none⟩)] w (Tells (.int .u8 (x.toNat : Int)) w) := by
  obtain ⟨e0, e1⟩ := h.cells
  obtain ⟨hlt, hx, _⟩ := h.head
  obtain ⟨n, hn⟩ : ∃ n, l.length = n := ⟨_, rfl⟩
  have hrow := h.row
  rw [hn] at e0 hlt hrow
  rcases hrow with h0 | ⟨b, o, rfl, hne, hrow⟩
  · omega
  have hcell := hrow i hlt
  rw [hx] at hcell
  have hz : ((i : Int) == (n : Int)) = false := by simp; omega
  obtain ⟨y, hy⟩ : ∃ y, x.toNat = y := ⟨_, rfl⟩
  rw [hy] at hcell ⊢
  clear h hrow hn hx hne hy
  go_enter Tryz.func130, Tryz.ntmps130
  go_wp2_with fail
  go_quiet (fail)
  go_wp2_with fail
  go_quiet (fail)
  go_wp2
  go_ret
  exact ⟨rfl, _, World.drewN_drewN _ _ _⟩

set_option maxRecDepth 100000 in
set_option maxHeartbeats 1000000 in
theorem must_calls {w : World} {B : Nat} {a : Option Addr} {c : Nat} {l : List UInt8} {i : Nat} {t : List UInt8} (h : ScAt w B a c l i t) (b : UInt8) : Calls Tryz.prog 133 #[.pointer (some ⟨B, 0, none⟩), .int .u8 (b.toNat : Int)] w (ScOut w B a c l (fun _ : Unit => .tuple #[]) (mustS b i t)) := by
  cases t with
  | nil =>
    have HC := Lib.hid (peek_end h)
    have HF : Hid (∀ k, ScOut w B a c l (fun _ : Unit => .tuple #[]) (mustS b i []) (.panicked [{ v := wrongV 6 i, recovered := false }]) (w.drewN k)) := Lib.hid fun k => ⟨rfl, (Keeps.refl _ _).drewN k⟩
    clear h
    go_enter Tryz.func133, Tryz.ntmps133
    go_wp2_with fail
    with_reducible refine HC.out.mono ?_
    rintro e w1 ⟨rfl, k, rfl⟩
    go_wp2_with fail
    exact ⟨rfl, HF.out _⟩
  | cons x t =>
    have HC := Lib.hid (peek_ok h)
    obtain ⟨e0, e1⟩ := h.cells
    obtain ⟨hlt, _, ht⟩ := h.head
    have hfew := h.few
    by_cases hb : x = b
    · have hz : ((x.toNat : Int) != (b.toNat : Int)) = false := by simp [hb]
      have f1 := unfrozen_of_block h.blk 1
      have hadd : IntKind.i64.wrap ((i : Int) + 1) = ((i + 1 : Nat) : Int) := IntWalk.i64_in _ (by omega)
      have HF : Hid (∀ k, ScOut w B a c l (fun _ : Unit => .tuple #[]) (mustS b i (x :: t)) (.returned (.tuple #[])) ((w.setCell ⟨B, 1, none⟩ (.int .i64 ((i + 1 : Nat) : Int))).drewN k)) := Lib.hid fun k => by
        rw [mustS_cons, if_pos hb]
        have := h.place (j := i + 1) hlt ht
        exact ⟨rfl, this.1.drawn k, this.2.drewN k⟩
      clear h hb hlt ht hfew
      go_enter Tryz.func133, Tryz.ntmps133
      go_wp2_with fail
      with_reducible refine HC.out.mono ?_
      rintro e w1 ⟨rfl, k, rfl⟩
      go_wp2_with fail
      go_end0
      exact HF.out _
    · have hz : ((x.toNat : Int) != (b.toNat : Int)) = true := by
        simp only [bne_iff_ne, ne_eq, Int.ofNat_inj]
        exact fun h => hb (UInt8.toNat_inj.1 h)
      have HF : Hid (∀ k, ScOut w B a c l (fun _ : Unit => .tuple #[]) (mustS b i (x :: t)) (.panicked [{ v := wrongV 2 i, recovered := false }]) (w.drewN k)) := Lib.hid fun k => by
        rw [mustS_cons, if_neg hb]
        exact ⟨rfl, (Keeps.refl _ _).drewN k⟩
      clear h hb hlt ht hfew
      go_enter Tryz.func133, Tryz.ntmps133
      go_wp2_with fail
      with_reducible refine HC.out.mono ?_
      rintro e w1 ⟨rfl, k, rfl⟩
      go_wp2_with fail
      exact ⟨rfl, HF.out _⟩

set_option maxRecDepth 100000 in
set_option maxHeartbeats 2000000 in
theorem blanks_calls {w : World} {B : Nat} {a : Option Addr} {c : Nat} {l : List UInt8} {i : Nat} {t : List UInt8} (h : ScAt w B a c l i t) : Calls Tryz.prog 132 #[.pointer (some ⟨B, 0, none⟩)] w (ScOut w B a c l (fun q : Bool => .bool q) (blanksS i t)) := by
  obtain ⟨e0, e1⟩ := h.cells
  have hfew := h.few
  obtain ⟨R, hR⟩ : ∃ R, blkS i t = R := ⟨_, rfl⟩
  have hb : blanksS i t = R.then fun _ j t => .ok (decide (i < j)) j t := by unfold blanksS; rw [hR]
  rw [hb]
  have HR := Lib.hid hR
  have HS := Lib.hid h
  obtain ⟨G, hG⟩ : ∃ G, t.length = G := ⟨_, rfl⟩
  have HG := Lib.hid hG
  clear h hR hb e0 hG
  go_enter Tryz.func132, Tryz.ntmps132
  go_wp2_with fail
  go_loopg [] (G + 1) (fun gk wr => ∃ j u, gk = u.length + 1 ∧ i ≤ j ∧ blkS j u = R ∧ ScAt wr B a c l j u ∧ Keeps (One B) w wr)
  case atStart => exact ⟨i, t, by rw [HG.out], Nat.le_refl _, HR.out, HS.out, Keeps.refl _ _⟩
  case round =>
    obtain ⟨j, u, rfl, hij, hq, hs, hk⟩ := hrel
    have HQ := Lib.hid hq
    have HS1 := Lib.hid hs
    have HK := Lib.hid hk
    obtain ⟨y0, y1⟩ := hs.cells
    cases u with
    | nil =>
      have HC := Lib.hid (peek_end hs)
      have HF : Hid (∀ k, ScOut w B a c l (fun q : Bool => .bool q) (R.then fun _ j t => .ok (decide (i < j)) j t) (.panicked [{ v := wrongV 6 j, recovered := false }]) (wr.drewN k)) := Lib.hid fun k => by
        rw [← HQ.out]
        exact ⟨rfl, HK.out.drewN k⟩
      clear hq hs hk HR HS HG
      go_wp2_with fail
      with_reducible refine HC.out.mono ?_
      rintro e w1 ⟨rfl, k, rfl⟩
      go_wp2_with fail
      exact ⟨rfl, HF.out _⟩
    | cons x u =>
      have HC := Lib.hid (peek_ok hs)
      obtain ⟨hlt, hx, hu⟩ := hs.head
      have hxl := x.toNat_lt
      have hi32 : IntKind.i32.wrap (x.toNat : Int) = (x.toNat : Int) := IntWalk.i32_in _ (by omega)
      have HBL := Lib.hid (fun W => blank_calls (x.toNat : Int) W)
      obtain ⟨q, hbq⟩ : ∃ q, blankB (x.toNat : Int) = q := ⟨_, rfl⟩
      rw [blkS_cons, hbq] at hq
      simp only [hbq] at HBL
      cases q with
      | false =>
        have HF : Hid (∀ k, ScOut w B a c l (fun q : Bool => .bool q) (R.then fun _ j t => .ok (decide (i < j)) j t) (.returned (.bool (decide (i < j)))) (wr.drewN k)) := Lib.hid fun k => by
          rw [if_neg Bool.false_ne_true] at hq
          rw [← hq]
          exact ⟨rfl, HS1.out.drawn k, HK.out.drewN k⟩
        clear hq hs hk HR HS HG hx hu hbq
        go_wp2_with fail
        with_reducible refine HC.out.mono ?_
        rintro e w1 ⟨rfl, k, rfl⟩
        go_wp2_with fail
        with_reducible refine (HBL.out _).mono ?_
        rintro e w3 ⟨rfl, rfl⟩
        go_wp2_with fail
        go_ret
        exact HF.out _
      | true =>
        rw [if_pos rfl] at hq
        have HQ2 := Lib.hid hq
        have hadd : IntKind.i64.wrap ((j : Int) + 1) = ((j + 1 : Nat) : Int) := IntWalk.i64_in _ (by omega)
        have f1 := unfrozen_of_block hs.blk 1
        have HN : Hid (∀ k, ScAt ((wr.setCell ⟨B, 1, none⟩ (.int .i64 ((j + 1 : Nat) : Int))).drewN k) B a c l (j + 1) u ∧ Keeps (One B) w ((wr.setCell ⟨B, 1, none⟩ (.int .i64 ((j + 1 : Nat) : Int))).drewN k)) := Lib.hid fun k => by
          have := HS1.out.place (j := j + 1) hlt hu
          exact ⟨this.1.drawn k, (HK.out.trans this.2 (fresh_refl _ _)).drewN k⟩
        clear hq hs hk HR HS HG hx hu hbq
        go_wp2_with fail
        with_reducible refine HC.out.mono ?_
        rintro e w1 ⟨rfl, k, rfl⟩
        go_wp2_with fail
        with_reducible refine (HBL.out _).mono ?_
        rintro e w3 ⟨rfl, rfl⟩
        go_wp2_with fail
        go_roundg (u.length + 1)
        case measure => simp
        case rel => exact ⟨j + 1, u, rfl, by omega, HQ2.out, (HN.out _).1, (HN.out _).2⟩

end Go.Proofs.YtfonflbpkbibbaaGreatDoor
