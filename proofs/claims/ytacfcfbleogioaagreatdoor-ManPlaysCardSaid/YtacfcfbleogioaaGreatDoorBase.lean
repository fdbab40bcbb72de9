/-
  What the walks of this seat share: a world in which nothing but some blocks has turned; a row of bytes; the program's disk in memory. No condition.
-/
import Derived.Test.YtacfcfbleogioaaGreatDoorChecked
import Derived.Test.YtacfcfbleogioaaGreatDoorPureB
import Derived.WalkKit
import Derived.ProofKit
import Derived.Below
import Derived.Lib.Walk
import Derived.Deep.LoopGhost
import Derived.Deep.MidRow
import Derived.Lib.Hide
import Derived.Lib.SmallJoins
import Derived.Maps.OwnSet
import Derived.Maps.Range
namespace Go.Proofs.YtacfcfbleogioaaGreatDoor
open Go.RowKit

/-- Of what was there nothing has turned but these blocks. -/
structure Keeps (S : Nat → Prop) (w w' : World) : Prop where
  os : w'.os = w.os
  tape : w'.tape = w.tape
  output : w'.output = w.output
  size : w.heap.size ≤ w'.heap.size
  block : ∀ k, k < w.heap.size → ¬ S k → w'.heap[k]? = w.heap[k]?

def Non : Nat → Prop := fun _ => False
/-- One block alone. -/
def One (b : Nat) : Nat → Prop := fun k => k = b
/-- These blocks, or new ones. -/
def Fresh (S : Nat → Prop) (n : Nat) (S' : Nat → Prop) : Prop := ∀ k, S' k → S k ∨ n ≤ k

theorem Keeps.refl (S : Nat → Prop) (w : World) : Keeps S w w := ⟨rfl, rfl, rfl, Nat.le_refl _, fun _ _ _ => rfl⟩
theorem Keeps.trans {S S' : Nat → Prop} {a b c : World} (h : Keeps S a b) (k : Keeps S' b c) (hs : Fresh S a.heap.size S') : Keeps S a c :=
  ⟨k.os.trans h.os, k.tape.trans h.tape, k.output.trans h.output, Nat.le_trans h.size k.size, fun i hi hn =>
    (k.block i (Nat.lt_of_lt_of_le hi h.size) (fun e => by rcases hs i e with h1 | h1; exact hn h1; omega)).trans (h.block i hi hn)⟩
theorem Keeps.mono {S S' : Nat → Prop} {a b : World} (h : Keeps S a b) (hs : ∀ k, k < a.heap.size → S k → S' k) : Keeps S' a b :=
  ⟨h.os, h.tape, h.output, h.size, fun i hi hn => h.block i hi (fun e => hn (hs i hi e))⟩
theorem Keeps.drew {S : Nat → Prop} {a b : World} (h : Keeps S a b) : Keeps S a b.drew := ⟨h.os, h.tape, h.output, h.size, h.block⟩
theorem Keeps.drewN {S : Nat → Prop} {a b : World} (h : Keeps S a b) (n : Nat) : Keeps S a (b.drewN n) := ⟨h.os, h.tape, h.output, h.size, h.block⟩
theorem Keeps.alloc {S : Nat → Prop} {a b : World} (h : Keeps S a b) (o : Obj) : Keeps S a (b.alloc o) :=
  ⟨h.os, h.tape, h.output, by have := h.size; simp; omega, fun i hi hn => (Below.heap_alloc b o i (Nat.lt_of_lt_of_le hi h.size)).trans (h.block i hi hn)⟩
theorem Keeps.setCell {S : Nat → Prop} {a b : World} (h : Keeps S a b) {p : Addr} (hp : S p.block ∨ a.heap.size ≤ p.block) (u : Value) : Keeps S a (b.setCell p u) :=
  ⟨h.os, h.tape, h.output, by have := h.size; simp [World.setCell]; omega, fun i hi hn => (Below.heap_setCell b p u i (fun e => by rcases hp with h1 | h1; exact hn (e ▸ h1); omega)).trans (h.block i hi hn)⟩
theorem Keeps.grown {S : Nat → Prop} {a b c : World} {row : Option Nat} (h : Keeps S a b) (hg : b.grownBy c row) (hr : ∀ k, row = some k → S k ∨ a.heap.size ≤ k) : Keeps S a c :=
  ⟨hg.os.trans h.os, hg.tape.trans h.tape, hg.output.trans h.output, Nat.le_trans h.size hg.size, fun i hi hn =>
    (hg.block i (Nat.lt_of_lt_of_le hi h.size) (fun e => by rcases hr i e.symm with h1 | h1; exact hn h1; omega)).trans (h.block i hi hn)⟩
theorem Keeps.below {S : Nat → Prop} {a b c : World} (h : Keeps S a b) {n : Nat} (hb : Below n b c) (hn : a.heap.size ≤ n) : Keeps S a c :=
  ⟨hb.os.trans h.os, hb.tape.trans h.tape, hb.output.trans h.output, Nat.le_trans h.size hb.size, fun i hi hs => (hb.block i (by omega)).trans (h.block i hi hs)⟩
theorem keeps_below {w w' : World} (h : Below w.heap.size w w') (S : Nat → Prop) : Keeps S w w' := (Keeps.refl S w).below h (Nat.le_refl _)
theorem Keeps.toBelow {S : Nat → Prop} {w w' : World} (h : Keeps S w w') {n : Nat} (hn : n ≤ w.heap.size) (hS : ∀ k, S k → n ≤ k) : Below n w w' :=
  ⟨h.os, h.tape, h.output, h.size, fun k hk => h.block k (by omega) (fun e => by have := hS k e; omega)⟩
theorem fresh_trans {S S' S'' : Nat → Prop} {n m : Nat} (h : Fresh S n S') (k : Fresh S' m S'') (hm : n ≤ m) : Fresh S n S'' := by
  intro i hi
  rcases k i hi with h1 | h1
  · exact h i h1
  · exact .inr (by omega)
theorem fresh_refl (S : Nat → Prop) (n : Nat) : Fresh S n S := fun _ h => .inl h
theorem fresh_non (S : Nat → Prop) (n : Nat) : Fresh S n Non := fun _ h => h.elim

theorem lt_of_block {w : World} {b : Nat} {o : Obj} (h : w.heap[b]? = some o) : b < w.heap.size := (Array.getElem?_eq_some_iff.1 h).1
theorem lt_of_cell {w : World} {b o : Nat} {v : Value} (h : w.cell? ⟨b, o, none⟩ = some v) : b < w.heap.size := by
  rcases Nat.lt_or_ge b w.heap.size with h' | h'
  · exact h'
  · simp [World.cell?, Array.getElem?_eq_none h'] at h

/-- A call that returns one value and turns nothing that was there. -/
def Leaves (v : Value) (w : World) (e : Ending) (w' : World) : Prop := e = .returned v ∧ Below w.heap.size w w'

theorem below_then {w w1 w2 : World} (h : Below w.heap.size w w1) (k : Below w1.heap.size w1 w2) : Below w.heap.size w w2 := h.trans (k.mono h.size)

/-- Bytes as cells. -/
def cellsN (l : List Nat) : List Value := l.map fun c : Nat => Value.int .u8 (c : Int)
theorem cellsN_app (l m : List Nat) : cellsN (l ++ m) = cellsN l ++ cellsN m := List.map_append
theorem cellsN_len (l : List Nat) : (cellsN l).length = l.length := List.length_map _
/-- A slice leads to these bytes, in blocks of S. -/
def Row (w : World) (S : Nat → Prop) (a : Option Addr) (l : List Nat) : Prop :=
  (∀ c ∈ l, c < 256) ∧ (l = [] ∨ ∃ b o, a = some ⟨b, o, none⟩ ∧ S b ∧ ∀ (i c : Nat), l[i]? = some c → w.cell? ⟨b, o + i, none⟩ = some (.int .u8 (c : Int)))

theorem Row.keep {w w' : World} {S O a l} (h : Row w S a l) (hb : Keeps O w w') (hO : ∀ k, S k → ¬ O k) : Row w' S a l := by
  refine ⟨h.1, ?_⟩
  rcases h.2 with h0 | ⟨b, o, ha, hS, hc⟩
  · exact Or.inl h0
  · exact Or.inr ⟨b, o, ha, hS, fun i c hi => (World.cell?_of_block (hb.block b (lt_of_cell (hc i c hi)) (hO b hS))).trans (hc i c hi)⟩
theorem Row.mono {w : World} {S S' : Nat → Prop} {a l} (h : Row w S a l) (hS : ∀ k, S k → S' k) : Row w S' a l := by
  refine ⟨h.1, ?_⟩
  rcases h.2 with h0 | ⟨b, o, ha, hs, hc⟩
  · exact Or.inl h0
  · exact Or.inr ⟨b, o, ha, hS b hs, hc⟩
theorem Row.take {w : World} {S a l} (h : Row w S a l) (n : Nat) : Row w S a (l.take n) := by
  refine ⟨fun c hc => h.1 c (List.mem_of_mem_take hc), ?_⟩
  rcases h.2 with h0 | ⟨b, o, ha, hs, hc⟩
  · exact Or.inl (by rw [h0]; exact List.take_nil)
  · refine Or.inr ⟨b, o, ha, hs, fun i c hi => hc i c ?_⟩
    rw [List.getElem?_take] at hi
    split at hi
    · exact hi
    · cases hi

/-- A slice value that holds these bytes. -/
structure Byt (w : World) (S : Nat → Prop) (v : Value) (l : List Nat) : Prop where
  is : ∃ a c, v = .slice a l.length c ∧ Row w S a l ∧ (a = none → c = 0) ∧ l.length ≤ c ∧ c ≤ maxLen

/-! ### the program's disk -/

/-- A file in memory: the block of its struct, its slice. -/
structure Cel where
  f : Fil
  fb : Nat
  dv : Value

def lit (s : ByteArray) : Lit := .string s.data.toList
def ent (c : Cel) : Lit × DataW Nat := (lit c.f.name, .lit (.int .u64 (c.fb : Int)))
def dat (cs : List Cel) : DataW Nat := .map (cs.map ent)
/-- How an element of the map of files reads. -/
def Rp : Value → Option (DataW Nat × List MemPlace)
  | .pointer none => some (.nil, [])
  | .pointer (some a) => if a.off = 0 ∧ a.spot = none then some (.lit (.int .u64 (a.block : Int)), []) else none
  | _ => none
/-- How a trouble reads. -/
def RtL : List Value → Option (DataW Nat × List MemPlace)
  | [.int .i64 a, .int .i64 k, .int .i64 p] => some (.agg [.lit (.int .i64 a), .lit (.int .i64 k), .lit (.int .i64 p)], [])
  | _ => none
def Rt : Value → Option (DataW Nat × List MemPlace)
  | .agg cs => RtL cs.toList
  | _ => none
def troV (t : Tro) : Value := .agg #[.int .i64 t.at_, .int .i64 t.kind, .int .i64 t.part]
def troD (t : Tro) : DataW Nat := .agg [.lit (.int .i64 t.at_), .lit (.int .i64 t.kind), .lit (.int .i64 t.part)]

/-- The map of troubles. -/
def TroAt (w : World) (T : Option Nat) (l : List Tro) : Prop :=
  match T with
  | none => ∀ i, tro l i = none
  | some t => ∃ n D, w.ownsMap Tryz.prog 3 Rt t n D ∧ n ≤ 1073741824 ∧ ∀ i : Int, (match tro l i with
    | none => Maps.has D (.int .i64 i) = false
    | some x => Maps.has D (.int .i64 i) = true ∧ ∀ z, D.atKey (.int .i64 i) z = troD x)

structure DiskAt (w : World) (S : Nat → Prop) (B : Nat) (d : Dsk) (F : Nat) (T : Option Nat) (cs : List Cel) : Prop where
  blk : w.heap[B]? = some (.cells #[.int .i64 d.room, .map (some F), .map T, .int .i64 d.ops, .bool d.down] 78 (0, 0))
  map : w.ownsMap Tryz.prog 9 Rp F cs.length (dat cs)
  tro : TroAt w T d.tr
  file : ∀ c ∈ cs, w.heap[c.fb]? = some (.cells #[c.dv, .int .i64 (c.f.safe : Int)] 74 (0, 0))
  row : ∀ c ∈ cs, w.ownsRow 0 5 1 c.dv c.f.data.length (cellsN c.f.data)
  is : cs.map Cel.f = d.L
  fbs : (cs.map Cel.fb).Nodup
  dbs : ∀ c ∈ cs, ∀ c' ∈ cs, c.fb ≠ c'.fb → ∀ k, c.dv.ownBlock = some k → c'.dv.ownBlock ≠ some k
  mapT : T ≠ some F
  sB : S B
  sF : S F
  sT : ∀ k, T = some k → S k
  sfb : ∀ c ∈ cs, S c.fb
  sdb : ∀ c ∈ cs, ∀ k, c.dv.ownBlock = some k → S k

/-- The program's disk at block B, in the blocks of S. -/
def Disk (w : World) (S : Nat → Prop) (B : Nat) (d : Dsk) : Prop := Inv d ∧ (∀ k, S k → k < w.heap.size) ∧ ∃ F T cs, DiskAt w S B d F T cs

theorem ownsMap_keep {w w' : World} {O : Nat → Prop} {P : Program} {k b n : Nat} {R : Value → Option (DataW Nat × List MemPlace)} {D : DataW Nat} (h : w.ownsMap P k R b n D) (hk : Keeps O w w') (hb : ¬ O b) : w'.ownsMap P k R b n D := by
  have hlt := h.lt
  obtain ⟨es, clock, h1, h2⟩ := h
  exact ⟨es, clock, (hk.block b hlt hb).trans h1, h2⟩
theorem ownsRow_keep {w w' : World} {O : Nat → Prop} {base e size n : Nat} {v : Value} {xs : List Value} (h : w.ownsRow base e size v n xs) (hk : Keeps O w w') (hb : ∀ k, v.ownBlock = some k → ¬ O k) : w'.ownsRow base e size v n xs := by
  refine ⟨h.1, ?_⟩
  rcases h.2 with hn | ⟨g, cap, cur, rfl, h1, h2, h3⟩
  · exact .inl hn
  · exact .inr ⟨g, cap, cur, rfl, h1, (hk.block g (lt_of_block h2) (hb g rfl)).trans h2, h3⟩
theorem block_keep {w w' : World} {O : Nat → Prop} {b : Nat} {o : Obj} (h : w.heap[b]? = some o) (hk : Keeps O w w') (hb : ¬ O b) : w'.heap[b]? = some o := (hk.block b (lt_of_block h) hb).trans h
theorem TroAt.keep {w w' : World} {O : Nat → Prop} {T : Option Nat} {l : List Tro} (h : TroAt w T l) (hk : Keeps O w w') (hb : ∀ k, T = some k → ¬ O k) : TroAt w' T l := by
  cases T with
  | none => exact h
  | some t =>
    obtain ⟨n, D, h1, h2⟩ := h
    exact ⟨n, D, ownsMap_keep h1 hk (hb t rfl), h2⟩

theorem DiskAt.keep {w w' : World} {S O : Nat → Prop} {B : Nat} {d : Dsk} {F : Nat} {T : Option Nat} {cs : List Cel} (h : DiskAt w S B d F T cs) (hk : Keeps O w w') (hO : ∀ k, S k → ¬ O k) : DiskAt w' S B d F T cs where
  blk := block_keep h.blk hk (hO B h.sB)
  map := ownsMap_keep h.map hk (hO F h.sF)
  tro := h.tro.keep hk (fun k e => hO k (h.sT k e))
  file := fun c hc => block_keep (h.file c hc) hk (hO _ (h.sfb c hc))
  row := fun c hc => ownsRow_keep (h.row c hc) hk (fun k e => hO k (h.sdb c hc k e))
  is := h.is
  fbs := h.fbs
  dbs := h.dbs
  mapT := h.mapT
  sB := h.sB
  sF := h.sF
  sT := h.sT
  sfb := h.sfb
  sdb := h.sdb
theorem Disk.keep {w w' : World} {S O : Nat → Prop} {B : Nat} {d : Dsk} (h : Disk w S B d) (hk : Keeps O w w') (hO : ∀ k, S k → ¬ O k) : Disk w' S B d := by
  obtain ⟨hi, hS, F, T, cs, hd⟩ := h
  exact ⟨hi, fun k e => Nat.lt_of_lt_of_le (hS k e) hk.size, F, T, cs, hd.keep hk hO⟩

theorem TroAt.lt {w : World} {T : Option Nat} {l : List Tro} (h : TroAt w T l) : ∀ k, T = some k → k < w.heap.size := by
  rintro k rfl
  obtain ⟨n, D, h1, _⟩ := h
  exact h1.lt
/-- No more blocks than there are. -/
theorem DiskAt.tight {w : World} {S : Nat → Prop} {B : Nat} {d : Dsk} {F : Nat} {T : Option Nat} {cs : List Cel} (h : DiskAt w S B d F T cs) : DiskAt w (fun k => S k ∧ k < w.heap.size) B d F T cs :=
  { h with
    sB := ⟨h.sB, lt_of_block h.blk⟩
    sF := ⟨h.sF, h.map.lt⟩
    sT := fun k e => ⟨h.sT k e, h.tro.lt k e⟩
    sfb := fun c hc => ⟨h.sfb c hc, lt_of_block (h.file c hc)⟩
    sdb := fun c hc k e => ⟨h.sdb c hc k e, ((h.row c hc).lt k e).2⟩ }
theorem Disk.below {w w' : World} {S : Nat → Prop} {B : Nat} {d : Dsk} (h : Disk w S B d) (hb : Below w.heap.size w w') : Disk w' S B d := h.keep (keeps_below hb Non) (fun _ _ h => h)

/-- What an operation leaves: the disk's new state, in its blocks and new ones; nothing else has turned. -/
def Turns (w : World) (S : Nat → Prop) (B : Nat) (d' : Dsk) (w' : World) : Prop := ∃ S', Disk w' S' B d' ∧ Fresh S w.heap.size S' ∧ Keeps S w w'
/-- .. and answers one value. -/
def Does (w : World) (S : Nat → Prop) (B : Nat) (v : Value) (d' : Dsk) (e : Ending) (w' : World) : Prop := e = .returned v ∧ Turns w S B d' w'

/-! ### names as keys -/
theorem bytesBefore_is : ∀ a b : List UInt8, bytesBefore a b = decide (a < b)
  | [], [] => by simp [bytesBefore]
  | [], _ :: _ => by simp [bytesBefore]
  | _ :: _, [] => by simp [bytesBefore]
  | a :: r, b :: s => by
    have ih := bytesBefore_is r s
    simp only [bytesBefore, ih]
    rw [Bool.eq_iff_iff]
    simp [List.cons_lt_cons_iff]
theorem before_is (a b : ByteArray) : (lit a).before (lit b) = nlt a b := bytesBefore_is _ _
theorem same_is (a b : ByteArray) : (lit a).sameKey (lit b) = decide (a = b) := by
  show (a.data.toList == b.data.toList) = decide (a = b)
  rw [Bool.eq_iff_iff]
  simp only [beq_iff_eq, decide_eq_true_eq]
  exact ⟨name_ext, fun h => by rw [h]⟩

def cfnd (n : ByteArray) (cs : List Cel) : Option Cel := cs.find? (fun c => decide (c.f.name = n))
theorem cfnd_is (n : ByteArray) (cs : List Cel) : fnd n (cs.map Cel.f) = (cfnd n cs).map Cel.f := by
  unfold fnd cfnd
  rw [List.find?_map]
  rfl
theorem cfnd_some {n : ByteArray} {cs : List Cel} {c : Cel} (h : cfnd n cs = some c) : c ∈ cs ∧ c.f.name = n := by
  unfold cfnd at h
  exact ⟨List.mem_of_find?_eq_some h, by simpa using List.find?_some h⟩
theorem atKey_dat (cs : List Cel) (n : ByteArray) (z : DataW Nat) : (dat cs).atKey (lit n) z = match cfnd n cs with | some c => .lit (.int .u64 (c.fb : Int)) | none => z := by
  unfold dat DataW.atKey cfnd
  simp only [List.find?_map]
  have e : ((fun p : Lit × DataW Nat => p.1.sameKey (lit n)) ∘ ent) = fun c : Cel => decide (c.f.name = n) := by
    funext c
    exact same_is _ _
  rw [e]
  cases cs.find? (fun c => decide (c.f.name = n)) <;> rfl
theorem del_dat (cs : List Cel) (n : ByteArray) : (dat cs).del (lit n) = dat (cs.filter (fun c => !decide (c.f.name = n))) := by
  unfold dat DataW.del
  simp only [List.filter_map]
  have e : ((fun p : Lit × DataW Nat => !p.1.sameKey (lit n)) ∘ ent) = fun c : Cel => !decide (c.f.name = n) := by
    funext c
    show (!(lit c.f.name).sameKey (lit n)) = _
    rw [same_is]
  rw [e]
def cins (c : Cel) : List Cel → List Cel
  | [] => [c]
  | g :: L => if nlt g.f.name c.f.name then g :: cins c L else c :: g :: L
theorem cins_is (c : Cel) (cs : List Cel) : (cins c cs).map Cel.f = ins c.f (cs.map Cel.f) := by
  induction cs with
  | nil => rfl
  | cons g L ih =>
    unfold cins
    simp only [List.map_cons]
    unfold ins
    split
    · rw [List.map_cons, ih]
    · rfl
theorem mem_cins {f g : Cel} {L : List Cel} : g ∈ cins f L ↔ g = f ∨ g ∈ L := by
  induction L with
  | nil => simp [cins]
  | cons x L ih =>
    unfold cins
    split
    · rw [List.mem_cons, ih, List.mem_cons]
      constructor
      · rintro (h | h | h)
        · exact .inr (.inl h)
        · exact .inl h
        · exact .inr (.inr h)
      · rintro (h | h | h)
        · exact .inr (.inl h)
        · exact .inl h
        · exact .inr (.inr h)
    · simp
theorem perm_cins (f : Cel) (L : List Cel) : (cins f L).Perm (f :: L) := by
  induction L with
  | nil => exact .refl _
  | cons x L ih =>
    unfold cins
    split
    · exact (ih.cons x).trans (.swap f x L)
    · exact .refl _
theorem insert_dat (c : Cel) (cs : List Cel) (hn : ∀ g ∈ cs, g.f.name ≠ c.f.name) : DataW.insert (ent c) (cs.map ent) = (cins c cs).map ent := by
  induction cs with
  | nil => rfl
  | cons g L ih =>
    have hg := hn g (List.mem_cons_self ..)
    unfold cins
    simp only [List.map_cons]
    unfold DataW.insert
    rw [show (ent c).1.before (ent g).1 = nlt c.f.name g.f.name from before_is _ _]
    by_cases h : nlt g.f.name c.f.name = true
    · rw [if_pos h, nlt_asymm h, if_neg (by decide), List.map_cons, ih (fun x hx => hn x (List.mem_cons_of_mem _ hx))]
    · have h' : nlt c.f.name g.f.name = true := nlt_total (by simpa using h) hg
      rw [if_neg h, h', if_pos rfl]
      rfl
theorem put_dat (c : Cel) (cs : List Cel) : (dat cs).put (lit c.f.name) (.lit (.int .u64 (c.fb : Int))) = dat (cins c (cs.filter (fun g => !decide (g.f.name = c.f.name)))) := by
  have h := del_dat cs c.f.name
  unfold dat DataW.del at h
  simp only [DataW.map.injEq] at h
  unfold dat DataW.put
  simp only [h]
  congr 1
  exact insert_dat c _ (fun g hg => by have := (List.mem_filter.1 hg).2; simpa using this)
theorem size_dat (cs : List Cel) : Maps.size (dat cs) = cs.length := by simp [Maps.size, dat]

theorem Rp_inv {v : Value} {n : Nat} {ps : List MemPlace} (h : Rp v = some (.lit (.int .u64 (n : Int)), ps)) : v = .pointer (some ⟨n, 0, none⟩) := by
  unfold Rp at h
  split at h
  · cases h
  · rename_i a
    split at h
    · rename_i hc
      obtain ⟨b, o, sp⟩ := a
      simp only [Option.some.injEq, Prod.mk.injEq, DataW.lit.injEq, Lit.int.injEq, true_and] at h
      obtain ⟨rfl, rfl⟩ := hc
      have : b = n := by have := h.1; omega
      rw [this]
    · cases h
  · cases h
theorem Rp_nil {v : Value} {ps : List MemPlace} (h : Rp v = some (.nil, ps)) : v = .pointer none := by
  unfold Rp at h
  split at h
  · rfl
  · split at h <;> cases h
  · cases h
theorem Rp_mk (n : Nat) : Rp (.pointer (some ⟨n, 0, none⟩)) = some (.lit (.int .u64 (n : Int)), []) := by simp [Rp]

end Go.Proofs.YtacfcfbleogioaaGreatDoor
