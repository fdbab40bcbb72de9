/-
  A disk by definition, as lists: its files by rising names, and what each operation makes of them. Of no program. No condition.
  The arithmetic of the sums: numbers of 32 bits that are divided by 2 and turned; what follows of the bits that are turned in a row of bytes. Of no program. No condition.
  Frames by definition: a number's four bytes, what stands at the beginning of bytes, the record there, all records. Of no program. No condition.
  Segments by definition: names, heads, what a segment's bytes are, and what Create, Append and Open make of a disk. Of no program. No condition.
  How few bytes and operations a disk has behind Create, Append and Open of a segment; that it is a disk. Of no program. No condition.
-/
import Derived.Lib.ItoaNum
namespace Go.Proofs.YtacfcfbleogioaaGreatDoor

/-- A file: its name, its bytes, how many of them are safe. -/
structure Fil where
  name : ByteArray
  data : List Nat
  safe : Nat

/-- A trouble. -/
structure Tro where
  at_ : Int
  kind : Int
  part : Int

/-- A disk: room, files by rising names, troubles, operations, whether the power is gone. -/
structure Dsk where
  room : Int
  L : List Fil
  tr : List Tro
  ops : Int
  down : Bool

/-- One name ahead of another one. -/
def nlt (a b : ByteArray) : Bool := decide (a.data.toList < b.data.toList)

/-- The file of a name. -/
def fnd (n : ByteArray) (L : List Fil) : Option Fil := L.find? (fun f => decide (f.name = n))
/-- All files but that of a name. -/
def dro (n : ByteArray) (L : List Fil) : List Fil := L.filter (fun f => !decide (f.name = n))
/-- A file at its place. -/
def ins (f : Fil) : List Fil → List Fil
  | [] => [f]
  | g :: L => if nlt g.name f.name then g :: ins f L else f :: g :: L
/-- The file of a name is another one. -/
def upd (n : ByteArray) (h : Fil → Fil) (L : List Fil) : List Fil := L.map (fun f => if f.name = n then h f else f)
def used (L : List Fil) : Nat := (L.map (fun f => f.data.length)).sum

/-- A character that a name may have. -/
def okc (c : UInt8) : Bool := (97 ≤ c.toNat && c.toNat ≤ 122) || (48 ≤ c.toNat && c.toNat ≤ 57) || c.toNat == 46 || c.toNat == 45
/-- A name. -/
def nmd (s : ByteArray) : Bool := s.data.toList.all okc && decide (1 ≤ s.size) && decide (s.size ≤ 40)

/-- The trouble that befalls operation i. -/
def hits (i : Int) (t : Tro) : Bool := decide (t.at_ = i) && decide (1 ≤ t.kind) && decide (t.kind ≤ 3)
def tro (l : List Tro) (i : Int) : Option Tro := l.find? (hits i)

/-- A number, or what of 0 and most lies next to it. -/
def wth (n : Int) (most : Nat) : Nat := min n.toNat most

/-- An operation: 1 Create, 2 Append, 3 Cut, 4 Sync, 5 Rename, 6 Delete. -/
structure Opn where
  kind : Nat
  name : ByteArray
  to : ByteArray
  n : Int
  b : List Nat

/-- Its own refusal, the file being f. -/
def refF (d : Dsk) (o : Opn) (f : Fil) : Int :=
  if o.kind = 2 then (if d.room - (used d.L : Int) < (o.b.length : Int) then 40 else 0)
  else if o.kind = 3 then (if o.n < 0 ∨ (f.data.length : Int) < o.n then 80 else 0)
  else if o.kind = 5 then (if nmd o.to = false then 44 else 0)
  else 0
/-- Its own refusal. -/
def ref (d : Dsk) (o : Opn) : Int :=
  if o.kind = 1 then (if nmd o.name = false then 44 else if (fnd o.name d.L).isSome then 43 else if 64 ≤ d.L.length then 40 else 0)
  else match fnd o.name d.L with
    | none => 42
    | some f => refF d o f

def addB (b : List Nat) (f : Fil) : Fil := { f with data := f.data ++ b }
def cutB (n : Nat) (f : Fil) : Fil := { f with data := f.data.take n, safe := min f.safe n }
def synB (f : Fil) : Fil := { f with safe := f.data.length }

/-- A file has another name. -/
def ren (n to : ByteArray) (L : List Fil) : List Fil :=
  match fnd n L with
  | none => L
  | some f => ins { f with name := to } (dro to (dro n L))
/-- What it does of the files. -/
def whole (o : Opn) (L : List Fil) : List Fil :=
  if o.kind = 1 then ins ⟨o.name, [], 0⟩ L
  else if o.kind = 2 then upd o.name (addB o.b) L
  else if o.kind = 3 then upd o.name (cutB o.n.toNat) L
  else if o.kind = 4 then upd o.name synB L
  else if o.kind = 5 then ren o.name o.to L
  else dro o.name L

/-- What is done of it when a trouble befalls. -/
def part (o : Opn) (p : Int) (L : List Fil) : List Fil :=
  if o.kind = 2 then upd o.name (addB (o.b.take (wth p o.b.length))) L else L

def tld (k : Int) : Int := if k = 1 then 40 else if k = 2 then 41 else if k = 3 then 45 else 0

/-- An operation: what it answers, and the disk behind it. -/
def step (d : Dsk) (o : Opn) : Int × Dsk :=
  if d.down then (45, d)
  else
    if ref d o ≠ 0 then (ref d o, { d with ops := d.ops + 1 })
    else match tro d.tr (d.ops + 1) with
      | none => (0, { d with ops := d.ops + 1, L := whole o d.L })
      | some t => (tld t.kind, { d with ops := d.ops + 1, L := part o t.part d.L, down := decide (t.kind = 3) })

def arm (l : List Tro) (d : Dsk) : Dsk := { d with tr := l, ops := 0 }

/-! ### what holds of every disk -/
def Srt (L : List Fil) : Prop := L.Pairwise (fun f g => nlt f.name g.name = true)
structure Inv (d : Dsk) : Prop where
  room0 : 0 ≤ d.room
  room1 : d.room ≤ 9223372036854775807
  srt : Srt d.L
  most : d.L.length ≤ 64
  name : ∀ f ∈ d.L, nmd f.name = true
  safe : ∀ f ∈ d.L, f.safe ≤ f.data.length
  byte : ∀ f ∈ d.L, ∀ c ∈ f.data, c < 256
  fit : (used d.L : Int) ≤ d.room

theorem name_ext {a b : ByteArray} (h : a.data.toList = b.data.toList) : a = b := by
  cases a; cases b
  simp only [ByteArray.mk.injEq]
  exact Array.toList_inj.1 h

theorem nlt_irrefl (a : ByteArray) : nlt a a = false := by
  unfold nlt
  simp only [decide_eq_false_iff_not]
  exact List.lt_irrefl _
theorem nlt_trans {a b c : ByteArray} (h : nlt a b = true) (k : nlt b c = true) : nlt a c = true := by
  unfold nlt at *
  simp only [decide_eq_true_eq] at *
  exact List.lt_trans h k
theorem nlt_total {a b : ByteArray} (h : nlt a b = false) (hne : a ≠ b) : nlt b a = true := by
  unfold nlt at *
  simp only [decide_eq_true_eq, decide_eq_false_iff_not] at *
  rcases List.le_iff_lt_or_eq.1 (List.not_lt.1 h) with h1 | h1
  · exact h1
  · exact absurd (name_ext h1.symm) hne
theorem nlt_asymm {a b : ByteArray} (h : nlt a b = true) : nlt b a = false := by
  cases h1 : nlt b a
  · rfl
  · have := nlt_trans h h1
    rw [nlt_irrefl] at this
    cases this
theorem nlt_ne {a b : ByteArray} (h : nlt a b = true) : a ≠ b := by
  rintro rfl
  rw [nlt_irrefl] at h
  cases h

theorem fnd_some {n : ByteArray} {L : List Fil} {f : Fil} (h : fnd n L = some f) : f ∈ L ∧ f.name = n := by
  unfold fnd at h
  exact ⟨List.mem_of_find?_eq_some h, by simpa using List.find?_some h⟩
theorem fnd_none {n : ByteArray} {L : List Fil} (h : fnd n L = none) : ∀ f ∈ L, f.name ≠ n := by
  unfold fnd at h
  intro f hf
  have := List.find?_eq_none.1 h f hf
  simpa using this
theorem fnd_mem {L : List Fil} (hs : Srt L) {f : Fil} (hf : f ∈ L) : fnd f.name L = some f := by
  induction L with
  | nil => cases hf
  | cons g L ih =>
    obtain ⟨h1, h2⟩ := List.pairwise_cons.1 hs
    unfold fnd
    rw [List.find?_cons]
    rcases List.mem_cons.1 hf with rfl | hf
    · simp
    · have : g.name ≠ f.name := nlt_ne (h1 f hf)
      simp only [this, decide_false]
      exact ih h2 hf

theorem mem_ins {f g : Fil} {L : List Fil} : g ∈ ins f L ↔ g = f ∨ g ∈ L := by
  induction L with
  | nil => simp [ins]
  | cons x L ih =>
    unfold ins
    split
    · rw [List.mem_cons, ih, List.mem_cons]
      constructor
      · rintro (h | h | h)
        · exact .inr (.inl h)
        · exact .inl h
        · exact .inr (.inr h)
      · rintro (h | h | h)
        · exact .inr (.inl h)
        · exact .inl h
        · exact .inr (.inr h)
    · simp
theorem len_ins (f : Fil) (L : List Fil) : (ins f L).length = L.length + 1 := by
  induction L with
  | nil => rfl
  | cons x L ih =>
    unfold ins
    split
    · simp [ih]
    · simp
theorem used_ins (f : Fil) (L : List Fil) : used (ins f L) = used L + f.data.length := by
  induction L with
  | nil => simp [ins, used]
  | cons x L ih =>
    unfold ins
    split
    · simp only [used, List.map_cons, List.sum_cons] at *
      omega
    · simp only [used, List.map_cons, List.sum_cons]
      omega
theorem srt_ins {f : Fil} {L : List Fil} (hs : Srt L) (hn : ∀ g ∈ L, g.name ≠ f.name) : Srt (ins f L) := by
  induction L with
  | nil => simp [ins, Srt]
  | cons x L ih =>
    obtain ⟨h1, h2⟩ := List.pairwise_cons.1 hs
    unfold ins
    split
    · rename_i hx
      refine List.pairwise_cons.2 ⟨fun g hg => ?_, ih h2 (fun g hg => hn g (List.mem_cons_of_mem _ hg))⟩
      rcases mem_ins.1 hg with rfl | hg
      · exact hx
      · exact h1 g hg
    · rename_i hx
      have hx' := nlt_total (by simpa using hx) (hn x (List.mem_cons_self ..))
      refine List.pairwise_cons.2 ⟨fun g hg => ?_, hs⟩
      rcases List.mem_cons.1 hg with rfl | hg
      · exact hx'
      · exact nlt_trans hx' (h1 g hg)
theorem srt_dro {n : ByteArray} {L : List Fil} (hs : Srt L) : Srt (dro n L) := hs.filter _
theorem mem_dro {n : ByteArray} {L : List Fil} {g : Fil} : g ∈ dro n L ↔ g ∈ L ∧ g.name ≠ n := by
  unfold dro
  rw [List.mem_filter]
  simp
theorem dro_none {n : ByteArray} {L : List Fil} (h : fnd n L = none) : dro n L = L := by
  unfold dro
  refine List.filter_eq_self.2 (fun f hf => ?_)
  have := fnd_none h f hf
  simp [this]
theorem used_dro {n : ByteArray} {L : List Fil} (hs : Srt L) {f : Fil} (h : fnd n L = some f) : used (dro n L) + f.data.length = used L := by
  induction L with
  | nil => simp [fnd] at h
  | cons x L ih =>
    obtain ⟨h1, h2⟩ := List.pairwise_cons.1 hs
    by_cases hx : x.name = n
    · have hf : f = x := by
        unfold fnd at h
        rw [List.find?_cons] at h
        simp only [hx, decide_true] at h
        exact (Option.some.inj h).symm
      have hr : dro n (x :: L) = L := by
        unfold dro
        rw [List.filter_cons]
        simp only [hx, decide_true, Bool.not_true, Bool.false_eq_true, if_false]
        refine List.filter_eq_self.2 (fun g hg => ?_)
        have : g.name ≠ n := by rw [← hx]; exact (nlt_ne (h1 g hg)).symm
        simp [this]
      rw [hr, hf]
      simp only [used, List.map_cons, List.sum_cons]
      omega
    · have hf : fnd n L = some f := by
        unfold fnd at h ⊢
        rw [List.find?_cons] at h
        simpa only [hx, decide_false] using h
      have hr : dro n (x :: L) = x :: dro n L := by
        unfold dro
        rw [List.filter_cons]
        simp [hx]
      have := ih h2 hf
      rw [hr]
      simp only [used, List.map_cons, List.sum_cons] at *
      omega
theorem len_dro (n : ByteArray) (L : List Fil) : (dro n L).length ≤ L.length := List.length_filter_le _ _
theorem len_dro_lt {n : ByteArray} {L : List Fil} {f : Fil} (h : fnd n L = some f) : (dro n L).length < L.length := by
  obtain ⟨hf, hn⟩ := fnd_some h
  refine Nat.lt_of_le_of_ne (len_dro n L) (fun e => ?_)
  have := List.length_filter_eq_length_iff.1 e f hf
  simp [hn] at this
theorem used_dro_le (n : ByteArray) (L : List Fil) : used (dro n L) ≤ used L := by
  induction L with
  | nil => simp [dro, used]
  | cons x L ih =>
    by_cases hx : x.name = n
    · have hr : dro n (x :: L) = dro n L := by unfold dro; rw [List.filter_cons]; simp [hx]
      rw [hr]
      simp only [used, List.map_cons, List.sum_cons] at *
      omega
    · have hr : dro n (x :: L) = x :: dro n L := by unfold dro; rw [List.filter_cons]; simp [hx]
      rw [hr]
      simp only [used, List.map_cons, List.sum_cons] at *
      omega
theorem used_mem {L : List Fil} {f : Fil} (h : f ∈ L) : f.data.length ≤ used L := by
  induction L with
  | nil => cases h
  | cons x L ih =>
    simp only [used, List.map_cons, List.sum_cons] at *
    rcases List.mem_cons.1 h with rfl | h
    · omega
    · have := ih h
      omega

/-- Names alone are kept. -/
theorem srt_map {L L' : List Fil} (h : L'.map Fil.name = L.map Fil.name) (hs : Srt L) : Srt L' := by
  have e : ∀ M : List Fil, Srt M ↔ (M.map Fil.name).Pairwise (fun a b => nlt a b = true) := fun M => by
    unfold Srt
    rw [List.pairwise_map]
  rw [e, h, ← e]
  exact hs
theorem names_upd (n : ByteArray) (h : Fil → Fil) (hh : ∀ f, (h f).name = f.name) (L : List Fil) : (upd n h L).map Fil.name = L.map Fil.name := by
  unfold upd
  rw [List.map_map]
  refine List.map_congr_left (fun f _ => ?_)
  show (if f.name = n then h f else f).name = f.name
  split
  · exact hh f
  · rfl
theorem len_upd (n : ByteArray) (h : Fil → Fil) (L : List Fil) : (upd n h L).length = L.length := List.length_map _
theorem mem_upd {n : ByteArray} {h : Fil → Fil} {L : List Fil} {g : Fil} (hg : g ∈ upd n h L) : (∃ f ∈ L, f.name = n ∧ g = h f) ∨ (g ∈ L ∧ g.name ≠ n) := by
  unfold upd at hg
  obtain ⟨f, hf, rfl⟩ := List.mem_map.1 hg
  split
  · rename_i hn
    exact .inl ⟨f, hf, hn, rfl⟩
  · rename_i hn
    exact .inr ⟨hf, hn⟩
theorem used_upd {n : ByteArray} {h : Fil → Fil} {L : List Fil} (hs : Srt L) {f : Fil} (hf : fnd n L = some f) : used (upd n h L) + f.data.length = used L + (h f).data.length := by
  induction L with
  | nil => simp [fnd] at hf
  | cons x L ih =>
    obtain ⟨h1, h2⟩ := List.pairwise_cons.1 hs
    by_cases hx : x.name = n
    · have e : f = x := by
        unfold fnd at hf
        rw [List.find?_cons] at hf
        simp only [hx, decide_true] at hf
        exact (Option.some.inj hf).symm
      have hr : upd n h L = L := by
        have e2 : List.map (fun f => if f.name = n then h f else f) L = List.map id L := List.map_congr_left (fun g hg => by
          have : g.name ≠ n := by rw [← hx]; exact (nlt_ne (h1 g hg)).symm
          rw [if_neg this]; rfl)
        unfold upd
        rw [e2, List.map_id]
      have hr2 : upd n h (x :: L) = h x :: L := by
        show (if x.name = n then h x else x) :: upd n h L = _
        rw [if_pos hx, hr]
      rw [hr2, e]
      simp only [used, List.map_cons, List.sum_cons]
      omega
    · have e : fnd n L = some f := by
        unfold fnd at hf ⊢
        rw [List.find?_cons] at hf
        simpa only [hx, decide_false] using hf
      have hr2 : upd n h (x :: L) = x :: upd n h L := by
        show (if x.name = n then h x else x) :: upd n h L = _
        rw [if_neg hx]
      have := ih h2 e
      rw [hr2]
      simp only [used, List.map_cons, List.sum_cons] at *
      omega

/-! ### each operation keeps what holds -/
theorem fnd_is {n : ByteArray} {L : List Fil} : (fnd n L).isSome = false ↔ fnd n L = none := by cases fnd n L <;> simp

theorem wth_le (n : Int) (m : Nat) : wth n m ≤ m := Nat.min_le_right _ _

theorem inv_upd {d : Dsk} {n : ByteArray} {h : Fil → Fil} (hi : Inv d) (hn : ∀ f, (h f).name = f.name) (hs : ∀ f ∈ d.L, (h f).safe ≤ (h f).data.length)
    (hb : ∀ f ∈ d.L, ∀ c ∈ (h f).data, c < 256) (hu : (used (upd n h d.L) : Int) ≤ d.room) (o : Int) (t : List Tro) (b : Bool) : Inv ⟨d.room, upd n h d.L, t, o, b⟩ where
  room0 := hi.room0
  room1 := hi.room1
  srt := srt_map (names_upd n h hn d.L) hi.srt
  most := by rw [len_upd]; exact hi.most
  name := fun g hg => by
    rcases mem_upd hg with ⟨f, hf, _, rfl⟩ | ⟨hf, _⟩
    · rw [hn]; exact hi.name f hf
    · exact hi.name g hf
  safe := fun g hg => by
    rcases mem_upd hg with ⟨f, hf, _, rfl⟩ | ⟨hf, _⟩
    · exact hs f hf
    · exact hi.safe g hf
  byte := fun g hg => by
    rcases mem_upd hg with ⟨f, hf, _, rfl⟩ | ⟨hf, _⟩
    · exact hb f hf
    · exact hi.byte g hf
  fit := hu

theorem inv_same {d : Dsk} (hi : Inv d) (o : Int) (t : List Tro) (b : Bool) : Inv ⟨d.room, d.L, t, o, b⟩ :=
  ⟨hi.room0, hi.room1, hi.srt, hi.most, hi.name, hi.safe, hi.byte, hi.fit⟩

theorem upd_none {n : ByteArray} {L : List Fil} (h : Fil → Fil) (hf : fnd n L = none) : upd n h L = L := by
  have e2 : List.map (fun f => if f.name = n then h f else f) L = List.map id L := List.map_congr_left (fun g hg => by
    rw [if_neg (fnd_none hf g hg)]; rfl)
  unfold upd
  rw [e2, List.map_id]

theorem inv_dro {d : Dsk} (hi : Inv d) (n : ByteArray) (o : Int) (t : List Tro) (b : Bool) : Inv ⟨d.room, dro n d.L, t, o, b⟩ where
  room0 := hi.room0
  room1 := hi.room1
  srt := srt_dro hi.srt
  most := Nat.le_trans (len_dro n d.L) hi.most
  name := fun g hg => hi.name g (mem_dro.1 hg).1
  safe := fun g hg => hi.safe g (mem_dro.1 hg).1
  byte := fun g hg => hi.byte g (mem_dro.1 hg).1
  fit := by have := used_dro_le n d.L; have := hi.fit; show (used (dro n d.L) : Int) ≤ d.room; omega

theorem inv_ins {d : Dsk} (hi : Inv d) {f : Fil} (hf : nmd f.name = true) (hs : f.safe ≤ f.data.length) (hb : ∀ c ∈ f.data, c < 256) (hn : ∀ g ∈ d.L, g.name ≠ f.name) (hm : d.L.length < 64) (hu : (used d.L : Int) + f.data.length ≤ d.room)
    (o : Int) (t : List Tro) (b : Bool) : Inv ⟨d.room, ins f d.L, t, o, b⟩ where
  room0 := hi.room0
  room1 := hi.room1
  srt := srt_ins hi.srt hn
  most := by rw [len_ins]; omega
  name := fun g hg => by
    rcases mem_ins.1 hg with rfl | hg
    · exact hf
    · exact hi.name g hg
  safe := fun g hg => by
    rcases mem_ins.1 hg with rfl | hg
    · exact hs
    · exact hi.safe g hg
  byte := fun g hg => by
    rcases mem_ins.1 hg with rfl | hg
    · exact hb
    · exact hi.byte g hg
  fit := by show (used (ins f d.L) : Int) ≤ d.room; rw [used_ins]; omega

theorem ref_file {d : Dsk} {o : Opn} (h1 : o.kind ≠ 1) (hr : ref d o = 0) : ∃ f, fnd o.name d.L = some f ∧ refF d o f = 0 := by
  unfold ref at hr
  rw [if_neg h1] at hr
  cases hf : fnd o.name d.L with
  | none => rw [hf] at hr; cases hr
  | some f => rw [hf] at hr; exact ⟨f, rfl, hr⟩

theorem inv_add {d : Dsk} (hi : Inv d) {n : ByteArray} {f : Fil} (hf : fnd n d.L = some f) {l : List Nat} (hb : ∀ c ∈ l, c < 256) (hl : (used d.L : Int) + l.length ≤ d.room) (q : Int) (t : List Tro) (b : Bool) : Inv ⟨d.room, upd n (addB l) d.L, t, q, b⟩ := by
  refine inv_upd (h := addB l) hi (fun _ => rfl) (fun g hg => ?_) (fun g hg c hc => ?_) ?_ q t b
  · have := hi.safe g hg
    simp only [addB, List.length_append]; omega
  · rcases List.mem_append.1 hc with hc | hc
    · exact hi.byte g hg c hc
    · exact hb c hc
  · have := used_upd (h := addB l) hi.srt hf
    simp only [addB, List.length_append] at this ⊢
    omega

theorem inv_whole {d : Dsk} {o : Opn} (hi : Inv d) (hb : ∀ c ∈ o.b, c < 256) (hr : ref d o = 0) (q : Int) (t : List Tro) (b : Bool) : Inv ⟨d.room, whole o d.L, t, q, b⟩ := by
  have hfit := hi.fit
  by_cases k1 : o.kind = 1
  · unfold ref at hr
    unfold whole
    rw [if_pos k1] at hr ⊢
    by_cases h1 : nmd o.name = false
    · rw [if_pos h1] at hr; cases hr
    rw [if_neg h1] at hr
    by_cases h2 : (fnd o.name d.L).isSome = true
    · rw [if_pos h2] at hr; cases hr
    rw [if_neg h2] at hr
    by_cases h3 : 64 ≤ d.L.length
    · rw [if_pos h3] at hr; cases hr
    exact inv_ins (f := ⟨o.name, [], 0⟩) hi (by simpa using h1) (Nat.zero_le _) (fun c hc => by cases hc) (fnd_none (fnd_is.1 (by simpa using h2))) (by omega) (by simpa using hfit) q t b
  obtain ⟨f, hf, hr⟩ := ref_file k1 hr
  obtain ⟨hm, hn⟩ := fnd_some hf
  unfold whole
  unfold refF at hr
  rw [if_neg k1]
  by_cases k2 : o.kind = 2
  · rw [if_pos k2] at hr ⊢
    by_cases h1 : d.room - (used d.L : Int) < (o.b.length : Int)
    · rw [if_pos h1] at hr; cases hr
    exact inv_add hi hf hb (by omega) q t b
  rw [if_neg k2] at hr ⊢
  by_cases k3 : o.kind = 3
  · rw [if_pos k3] at hr ⊢
    by_cases h1 : o.n < 0 ∨ (f.data.length : Int) < o.n
    · rw [if_pos h1] at hr; cases hr
    refine inv_upd (h := cutB o.n.toNat) hi (fun _ => rfl) (fun g hg => ?_) (fun g hg c hc => ?_) ?_ q t b
    · have := hi.safe g hg
      simp only [cutB, List.length_take]; omega
    · exact hi.byte g hg c (List.mem_of_mem_take hc)
    · have := used_upd (h := cutB o.n.toNat) hi.srt hf
      simp only [cutB, List.length_take] at *
      omega
  rw [if_neg k3] at hr ⊢
  by_cases k4 : o.kind = 4
  · rw [if_pos k4]
    refine inv_upd (h := synB) hi (fun _ => rfl) (fun g hg => Nat.le_refl _) (fun g hg c hc => hi.byte g hg c hc) ?_ q t b
    have := used_upd (h := synB) hi.srt hf
    simp only [synB] at *
    omega
  rw [if_neg k4]
  by_cases k5 : o.kind = 5
  · rw [if_pos k5] at hr ⊢
    by_cases h1 : nmd o.to = false
    · rw [if_pos h1] at hr; cases hr
    unfold ren
    rw [hf]
    have h2 := inv_dro (inv_dro hi o.name q t b) o.to q t b
    refine inv_ins (f := { f with name := o.to }) h2 (by simpa using h1) (hi.safe f hm) (hi.byte f hm) (fun g hg => (mem_dro.1 hg).2) ?_ ?_ q t b
    · have h3 := len_dro_lt hf
      have h4 := len_dro o.to (dro o.name d.L)
      have := hi.most
      show (dro o.to (dro o.name d.L)).length < 64
      omega
    · have h3 := used_dro hi.srt hf
      have h4 := used_dro_le o.to (dro o.name d.L)
      show ((used (dro o.to (dro o.name d.L)) : Nat) : Int) + (f.data.length : Int) ≤ d.room
      omega
  rw [if_neg k5]
  exact inv_dro hi o.name q t b

theorem inv_part {d : Dsk} {o : Opn} (hi : Inv d) (hb : ∀ c ∈ o.b, c < 256) (hr : ref d o = 0) (p : Int) (q : Int) (t : List Tro) (b : Bool) : Inv ⟨d.room, part o p d.L, t, q, b⟩ := by
  unfold part
  by_cases k2 : o.kind = 2
  · obtain ⟨f, hf, hr⟩ := ref_file (by omega) hr
    unfold refF at hr
    rw [if_pos k2] at hr ⊢
    by_cases h1 : d.room - (used d.L : Int) < (o.b.length : Int)
    · rw [if_pos h1] at hr; cases hr
    refine inv_add hi hf (fun c hc => hb c (List.mem_of_mem_take hc)) ?_ q t b
    simp only [List.length_take]
    omega
  · rw [if_neg k2]
    exact inv_same hi q t b

theorem inv_step {d : Dsk} {o : Opn} (hi : Inv d) (hb : ∀ c ∈ o.b, c < 256) : Inv (step d o).2 := by
  unfold step
  split
  · exact hi
  · split
    · exact inv_same hi _ _ _
    · rename_i hr
      have hr : ref d o = 0 := by simpa using hr
      split
      · exact inv_whole hi hb hr _ _ _
      · exact inv_part hi hb hr _ _ _ _

theorem inv_arm {d : Dsk} (hi : Inv d) (l : List Tro) : Inv (arm l d) := inv_same hi 0 l d.down

end Go.Proofs.YtacfcfbleogioaaGreatDoor

namespace Go.Proofs.YtacfcfbleogioaaGreatDoor

/-- What an odd number is turned by. -/
def poly : BitVec 32 := 0xEDB88320#32

/-- A number divided by 2, and turned if it was odd. -/
def hb (x : BitVec 32) : BitVec 32 := (x >>> 1) ^^^ (if x.getLsbD 0 then poly else 0#32)

/-- So many times. -/
def hbs : Nat → BitVec 32 → BitVec 32
  | 0, x => x
  | n + 1, x => hbs n (hb x)

/-- A byte more. -/
def stepB (x : BitVec 32) (c : Nat) : BitVec 32 := hbs 8 (x ^^^ BitVec.ofNat 32 c)

/-- The number behind bytes. -/
def reg (x : BitVec 32) : List Nat → BitVec 32
  | [] => x
  | c :: l => reg (stepB x c) l

def ones : BitVec 32 := 0xFFFFFFFF#32

/-- A sum that goes on; the sum of bytes. -/
def onB (s : BitVec 32) (l : List Nat) : BitVec 32 := ones ^^^ reg (ones ^^^ s) l
def sumB (l : List Nat) : BitVec 32 := onB 0#32 l

theorem hb_xor (x y : BitVec 32) : hb (x ^^^ y) = hb x ^^^ hb y := by
  apply BitVec.eq_of_getLsbD_eq
  intro i hi
  unfold hb
  simp only [BitVec.getLsbD_xor, BitVec.getLsbD_ushiftRight]
  cases x.getLsbD 0 <;> cases y.getLsbD 0 <;> cases x.getLsbD (1 + i) <;> cases y.getLsbD (1 + i) <;> simp

theorem hbs_xor : ∀ (n : Nat) (x y : BitVec 32), hbs n (x ^^^ y) = hbs n x ^^^ hbs n y
  | 0, _, _ => rfl
  | n + 1, x, y => by rw [hbs, hbs, hbs, hb_xor, hbs_xor n]
/-- A number of which the least bits are clear is divided alone. -/
theorem hbs_low : ∀ (n : Nat) (x : BitVec 32), (∀ i, i < n → x.getLsbD i = false) → hbs n x = x >>> n
  | 0, x, _ => by rw [hbs, BitVec.ushiftRight_zero]
  | n + 1, x, h => by
    have e : hb x = x >>> 1 := by
      unfold hb
      rw [h 0 (by omega), if_neg (by decide), BitVec.xor_zero]
    rw [hbs, e, hbs_low n _ (fun i hi => by rw [BitVec.getLsbD_ushiftRight]; exact h (1 + i) (by omega)), Nat.add_comm n 1, BitVec.shiftRight_add]

theorem low_bits : ∀ i : Fin 32, (255#32).getLsbD i.val = decide (i.val < 8) := by decide

/-- A byte's step as the document tells it. -/
theorem step_is (x : BitVec 32) (c : Nat) : (x >>> 8) ^^^ hbs 8 ((x &&& 255#32) ^^^ BitVec.ofNat 32 c) = stepB x c := by
  have hx : x = (x &&& 255#32) ^^^ ((x >>> 8) <<< 8) := by
    apply BitVec.eq_of_getLsbD_eq
    intro i hi
    rw [BitVec.getLsbD_xor, BitVec.getLsbD_and, low_bits ⟨i, hi⟩, BitVec.getLsbD_shiftLeft, BitVec.getLsbD_ushiftRight]
    by_cases h8 : i < 8
    · simp [h8]
    · simp only [h8, hi, decide_true, decide_false, Bool.and_false, Bool.not_false, Bool.true_and, Bool.false_xor]
      rw [show 8 + (i - 8) = i by omega]
  have hl : hbs 8 ((x >>> 8) <<< 8) = x >>> 8 := by
    rw [hbs_low 8 _ (fun i hi => by rw [BitVec.getLsbD_shiftLeft]; simp [hi])]
    apply BitVec.eq_of_getLsbD_eq
    intro i hi
    simp only [BitVec.getLsbD_ushiftRight, BitVec.getLsbD_shiftLeft]
    by_cases h : 8 + i < 32
    · simp [h]
    · rw [BitVec.getLsbD_of_ge x (8 + i) (by omega), decide_eq_false h, Bool.false_and, Bool.false_and]
  unfold stepB
  have e : x ^^^ BitVec.ofNat 32 c = ((x &&& 255#32) ^^^ BitVec.ofNat 32 c) ^^^ ((x >>> 8) <<< 8) := by
    rw [BitVec.xor_assoc, BitVec.xor_comm (BitVec.ofNat 32 c), ← BitVec.xor_assoc, ← hx]
  rw [e, hbs_xor 8 _ ((x >>> 8) <<< 8), hl, BitVec.xor_comm]

/-- The reference's bit: what it does of a number and a bit. -/
def refBit (x : BitVec 32) (b : Bool) : BitVec 32 := if x.getLsbD 0 != b then (x >>> 1) ^^^ poly else x >>> 1

/-- A row of k bits of a byte is gone; so many are left. -/
theorem refBit_is (k : Nat) (x : BitVec 32) (c : BitVec 32) : hbs (k + 1) (x ^^^ c) = hbs k (refBit x (c.getLsbD 0) ^^^ (c >>> 1)) := by
  rw [hbs]
  congr 1
  rw [hb_xor]
  unfold hb refBit
  apply BitVec.eq_of_getLsbD_eq
  intro i hi
  cases x.getLsbD 0 <;> cases c.getLsbD 0 <;> simp [BitVec.getLsbD_xor]
  all_goals (cases x.getLsbD (1 + i) <;> cases c.getLsbD (1 + i) <;> cases poly.getLsbD i <;> rfl)

theorem byte_gone {c : Nat} (h : c < 256) : BitVec.ofNat 32 c >>> 8 = 0#32 := by
  apply BitVec.eq_of_toNat_eq
  rw [BitVec.toNat_ushiftRight, BitVec.toNat_ofNat, Nat.shiftRight_eq_div_pow, BitVec.toNat_zero]
  omega

theorem reg_append : ∀ (l m : List Nat) (x : BitVec 32), reg x (l ++ m) = reg (reg x l) m
  | [], _, _ => rfl
  | c :: l, m, x => by rw [List.cons_append, reg, reg, reg_append l m]

theorem on_sum (l m : List Nat) : onB (sumB l) m = sumB (l ++ m) := by
  unfold sumB onB
  rw [reg_append, ← BitVec.xor_assoc, BitVec.xor_self, BitVec.zero_xor]
end Go.Proofs.YtacfcfbleogioaaGreatDoor

namespace Go.Proofs.YtacfcfbleogioaaGreatDoor

/-- These are bytes. -/
def Byts (l : List Nat) : Prop := ∀ c ∈ l, c < 256
theorem Byts.app {l m : List Nat} (h : Byts l) (k : Byts m) : Byts (l ++ m) := fun c hc => (List.mem_append.1 hc).elim (h c) (k c)
theorem Byts.take {l : List Nat} (h : Byts l) (n : Nat) : Byts (l.take n) := fun c hc => h c (List.mem_of_mem_take hc)
theorem Byts.drop {l : List Nat} (h : Byts l) (n : Nat) : Byts (l.drop n) := fun c hc => h c (List.mem_of_mem_drop hc)

/-- A number's four bytes. -/
def w32 (n : Nat) : List Nat := [n % 256, n / 256 % 256, n / 65536 % 256, n / 16777216 % 256]
/-- The number that four bytes are. -/
def g4 (a b c d : Nat) : Nat := a + 256 * b + 65536 * c + 16777216 * d
def get32 : List Nat → Nat
  | a :: b :: c :: d :: _ => g4 a b c d
  | _ => 0

theorem w32_len (n : Nat) : (w32 n).length = 4 := rfl
theorem w32_byts (n : Nat) : Byts (w32 n) := by
  intro c hc
  unfold w32 at hc
  simp only [List.mem_cons, List.not_mem_nil, or_false] at hc
  rcases hc with rfl | rfl | rfl | rfl <;> omega
theorem get_w32 {n : Nat} (h : n < 4294967296) (t : List Nat) : get32 (w32 n ++ t) = n := by
  show g4 (n % 256) (n / 256 % 256) (n / 65536 % 256) (n / 16777216 % 256) = n
  unfold g4
  omega
theorem four {l : List Nat} (h : 4 ≤ l.length) : ∃ a b c d t, l = a :: b :: c :: d :: t := by
  match l, h with
  | a :: b :: c :: d :: t, _ => exact ⟨a, b, c, d, t, rfl⟩
theorem get32_lt {l : List Nat} (h : Byts l) : get32 l < 4294967296 := by
  unfold get32
  split
  · next a b c d t =>
    have ha := h a (by simp)
    have hb := h b (by simp)
    have hc := h c (by simp)
    have hd := h d (by simp)
    unfold g4
    omega
  · decide
theorem w32_get {l : List Nat} (h : Byts l) (h4 : 4 ≤ l.length) : w32 (get32 l) = l.take 4 := by
  obtain ⟨a, b, c, d, t, rfl⟩ := four h4
  have ha := h a (by simp)
  have hb := h b (by simp)
  have hc := h c (by simp)
  have hd := h d (by simp)
  show w32 (g4 a b c d) = [a, b, c, d]
  unfold w32 g4
  simp only [List.cons.injEq, and_true]
  refine ⟨by omega, by omega, by omega, by omega⟩
theorem get32_take {l : List Nat} {n : Nat} (h4 : 4 ≤ n) : get32 (l.take n) = get32 l := by
  match n, h4 with
  | n + 4, _ =>
    match l with
    | [] => rfl
    | [a] => rfl
    | [a, b] => rfl
    | [a, b, c] => rfl
    | a :: b :: c :: d :: t => rfl
/-- A frame's sum, as a number. -/
def sumN (l r : List Nat) : Nat := (onB (sumB l) r).toNat
theorem sumN_lt (l r : List Nat) : sumN l r < 4294967296 := (onB (sumB l) r).isLt
/-- A record's frame. -/
def frm (r : List Nat) : List Nat := w32 r.length ++ (w32 (sumN (w32 r.length) r) ++ r)
theorem frm_len (r : List Nat) : (frm r).length = 8 + r.length := by
  unfold frm
  rw [List.length_append, List.length_append, w32_len, w32_len]
  omega
theorem frm_byts {r : List Nat} (h : Byts r) : Byts (frm r) := (w32_byts _).app ((w32_byts _).app h)
/-- Put. -/
def putB (r : List Nat) : List Nat := if 1 ≤ r.length ∧ r.length ≤ 1048576 then frm r else []
theorem putB_byts {r : List Nat} (h : Byts r) : Byts (putB r) := by
  unfold putB
  split
  · exact frm_byts h
  · intro c hc; cases hc
theorem putB_len (r : List Nat) : (putB r).length ≤ 8 + r.length := by
  unfold putB
  split
  · rw [frm_len]; omega
  · exact Nat.zero_le _

/-- The record at the beginning. -/
def recB (b : List Nat) : List Nat := (b.drop 8).take (get32 b)
/-- What stands at the beginning. -/
def standsB (b : List Nat) : Nat :=
  if b.length = 0 then 2
  else if b.length < 4 then 3
  else if ¬ (1 ≤ get32 b ∧ get32 b ≤ 1048576) then 4
  else if b.length < 8 + get32 b then 3
  else if get32 (b.drop 4) ≠ sumN (b.take 4) (recB b) then 4
  else 1

theorem stands_any (b : List Nat) : standsB b = 1 ∨ standsB b = 2 ∨ standsB b = 3 ∨ standsB b = 4 := by
  unfold standsB
  repeat' split
  all_goals simp
/-- What is known of bytes that begin with a frame. -/
theorem fwhole {b : List Nat} (h : standsB b = 1) : 1 ≤ get32 b ∧ get32 b ≤ 1048576 ∧ 8 + get32 b ≤ b.length ∧ get32 (b.drop 4) = sumN (b.take 4) (recB b) ∧ (recB b).length = get32 b := by
  unfold standsB at h
  split at h
  · cases h
  split at h
  · cases h
  split at h
  · cases h
  split at h
  · cases h
  split at h
  · cases h
  · next h1 h2 h3 h4 h5 =>
    have h3' := Classical.not_not.1 h3
    refine ⟨h3'.1, h3'.2, by omega, Classical.not_not.1 h5, ?_⟩
    unfold recB
    rw [List.length_take, List.length_drop]
    omega
/-- Bytes that begin with a frame are that frame, and what is behind it. -/
theorem whole_frm {b : List Nat} (hb : Byts b) (h : standsB b = 1) : frm (recB b) = b.take (8 + get32 b) := by
  obtain ⟨h1, h2, h3, h4, h5⟩ := fwhole h
  unfold frm
  have e1 : w32 (get32 b) = b.take 4 := w32_get hb (by omega)
  have e2 : w32 (get32 (b.drop 4)) = (b.drop 4).take 4 := w32_get (hb.drop 4) (by rw [List.length_drop]; omega)
  rw [h5, e1, ← h4, e2]
  unfold recB
  rw [show 8 + get32 b = 4 + (4 + get32 b) by omega, List.take_add, List.take_add, List.drop_drop]
theorem frm_first (r t : List Nat) (hr : 1 ≤ r.length) (hr2 : r.length ≤ 1048576) : standsB (frm r ++ t) = 1 ∧ get32 (frm r ++ t) = r.length ∧ recB (frm r ++ t) = r ∧ (frm r ++ t).drop (8 + r.length) = t := by
  have hg : get32 (frm r ++ t) = r.length := by
    unfold frm
    rw [List.append_assoc]
    exact get_w32 (by omega) _
  have hl : (frm r ++ t).length = 8 + r.length + t.length := by rw [List.length_append, frm_len]
  have hrec : recB (frm r ++ t) = r := by
    unfold recB
    rw [hg]
    unfold frm
    show List.take r.length (r ++ t) = r
    exact List.take_left
  have htk : (frm r ++ t).take 4 = w32 r.length := rfl
  have hdr : get32 ((frm r ++ t).drop 4) = sumN (w32 r.length) r := by
    show get32 (w32 (sumN (w32 r.length) r) ++ r ++ t) = _
    rw [List.append_assoc]
    exact get_w32 (sumN_lt _ _) _
  refine ⟨?_, hg, hrec, ?_⟩
  · unfold standsB
    rw [if_neg (by omega), if_neg (by omega), if_neg (by rw [hg]; omega), if_neg (by rw [hg]; omega), if_neg (by rw [hdr, hrec, htk]; exact fun h => h rfl)]
  · exact List.drop_left' (frm_len r)
/-- Frames one behind the other. -/
def frs : List (List Nat) → List Nat
  | [] => []
  | r :: l => putB r ++ frs l
theorem frs_byts : ∀ {l : List (List Nat)}, (∀ r ∈ l, Byts r) → Byts (frs l)
  | [], _ => fun c hc => by cases hc
  | r :: l, h => by
    rw [frs]
    exact (putB_byts (h r (List.mem_cons_self ..))).app (frs_byts (fun x hx => h x (List.mem_cons_of_mem _ hx)))
/-- How many bytes some rows have together. -/
def tot (l : List (List Nat)) : Nat := (l.map List.length).sum
theorem tot_nil : tot [] = 0 := rfl
theorem tot_cons (r : List Nat) (l : List (List Nat)) : tot (r :: l) = r.length + tot l := by simp [tot]
end Go.Proofs.YtacfcfbleogioaaGreatDoor

namespace Go.Proofs.YtacfcfbleogioaaGreatDoor

/-- May a number be? -/
def mayN (n : Int) : Bool := decide (1 ≤ n) && decide (n ≤ 99999999)
theorem mayN_is {n : Int} : mayN n = true ↔ 1 ≤ n ∧ n ≤ 99999999 := by unfold mayN; simp
/-- So many digits of a number. -/
def pad : Nat → Nat → List UInt8
  | 0, _ => []
  | k + 1, n => pad k (n / 10) ++ [UInt8.ofNat (48 + n % 10)]
/-- A name's characters, and a name. -/
def nameL (n : Nat) : List UInt8 := [115, 101, 103, 46] ++ pad 8 n
def nameB (n : Int) : ByteArray := if mayN n then ⟨(nameL n.toNat).toArray⟩ else ⟨#[]⟩
theorem pad_len : ∀ k n, (pad k n).length = k
  | 0, _ => rfl
  | k + 1, n => by rw [pad, List.length_append, pad_len k]; rfl
theorem nameB_may {n : Int} (h : mayN n = true) : nameB n = ⟨(nameL n.toNat).toArray⟩ := if_pos h
theorem nameB_not {n : Int} (h : mayN n = false) : nameB n = ⟨#[]⟩ := if_neg (by rw [h]; decide)
theorem decDigits_small {n : Nat} (h : n < 10) : Lib.decDigits n = [UInt8.ofNat (48 + n)] := by rw [Lib.decDigits, dif_pos h]
theorem decDigits_more {n : Nat} (h : ¬ n < 10) : Lib.decDigits n = Lib.decDigits (n / 10) ++ [UInt8.ofNat (48 + n % 10)] := by rw [Lib.decDigits, dif_neg h]
theorem decDigits_pos (n : Nat) : 1 ≤ (Lib.decDigits n).length := by
  by_cases h : n < 10
  · rw [decDigits_small h]; simp
  · rw [decDigits_more h, List.length_append]; simp
theorem decDigits_le : ∀ (k n : Nat), n < 10 ^ (k + 1) → (Lib.decDigits n).length ≤ k + 1
  | 0, n, h => by rw [decDigits_small (by omega)]; simp
  | k + 1, n, h => by
    by_cases h1 : n < 10
    · rw [decDigits_small h1]; simp
    · rw [decDigits_more h1, List.length_append]
      have hk : n / 10 < 10 ^ (k + 1) := by rw [Nat.div_lt_iff_lt_mul (by decide)]; rw [Nat.pow_succ] at h; exact h
      have := decDigits_le k (n / 10) hk
      simp
      omega
theorem pad_zero : ∀ k, pad k 0 = List.replicate k 48
  | 0 => rfl
  | k + 1 => by
    rw [pad, Nat.zero_div, pad_zero k, List.replicate_succ']
    rfl
/-- The digits, and zeros ahead of them. -/
theorem pad_is : ∀ (k n : Nat), (Lib.decDigits n).length ≤ k → pad k n = List.replicate (k - (Lib.decDigits n).length) 48 ++ Lib.decDigits n
  | 0, n, h => by have := decDigits_pos n; omega
  | k + 1, n, h => by
    by_cases h1 : n < 10
    · rw [decDigits_small h1, pad, Nat.div_eq_of_lt h1, pad_zero, Nat.mod_eq_of_lt h1]
      rfl
    · rw [decDigits_more h1, List.length_append] at h ⊢
      have ih := pad_is k (n / 10) (by simp at h; omega)
      rw [pad, ih, List.append_assoc]
      congr 2
      simp only [List.length_cons, List.length_nil]
      omega

/-! ### operations -/
def noS : ByteArray := ⟨#[]⟩
def opA (n : Int) (b : List Nat) : Opn := ⟨2, nameB n, noS, 0, b⟩
def opK (n : Int) (k : Nat) : Opn := ⟨3, nameB n, noS, (k : Int), []⟩
def opS (n : Int) : Opn := ⟨4, nameB n, noS, 0, []⟩
def opD (n : Int) : Opn := ⟨6, nameB n, noS, 0, []⟩

/-- What stands behind the good bytes is taken away. -/
def undoB (d : Dsk) (n : Int) (size : Nat) : Int × Dsk := if size = 0 then step d (opD n) else step d (opK n size)
/-- Bytes are laid behind the good ones, and made safe. -/
def laysB (d : Dsk) (n : Int) (b : List Nat) : Int × Dsk := if (step d (opA n b)).1 = 0 then step (step d (opA n b)).2 (opS n) else step d (opA n b)
/-- .. or that is undone: the code, whether it is sick, the disk. -/
def writeB (d : Dsk) (n : Int) (size : Nat) (b : List Nat) : Int × Bool × Dsk :=
  if (laysB d n b).1 = 0 then (0, false, (laysB d n b).2)
  else ((laysB d n b).1, decide ((undoB (laysB d n b).2 n size).1 ≠ 0), (undoB (laysB d n b).2 n size).2)
/-- An open segment: its good bytes, whether it is sick. -/
structure Sg where
  size : Nat
  sick : Bool
/-- May these be appended? -/
def okL (L : List (List Nat)) : Bool := decide (L ≠ []) && L.all (fun r => decide (1 ≤ r.length) && decide (r.length ≤ 1048576))
/-- Append: the code, the segment, the disk. -/
def appendB (d : Dsk) (n : Int) (g : Sg) (L : List (List Nat)) : Int × Sg × Dsk :=
  if g.sick then (51, g, d)
  else if okL L = false then (80, g, d)
  else ((writeB d n g.size (frs L)).1, ⟨if (writeB d n g.size (frs L)).1 = 0 then g.size + (frs L).length else g.size, (writeB d n g.size (frs L)).2.1⟩, (writeB d n g.size (frs L)).2.2)
end Go.Proofs.YtacfcfbleogioaaGreatDoor

namespace Go.Proofs.YtacfcfbleogioaaGreatDoor

theorem used_cutT {n : ByteArray} {h : Fil → Fil} (hh : ∀ f, (h f).data.length ≤ f.data.length) : ∀ L : List Fil, used (upd n h L) ≤ used L
  | [] => Nat.le_refl _
  | f :: L => by
    have ih := used_cutT (n := n) hh L
    unfold upd at ih ⊢
    simp only [used, List.map_cons, List.sum_cons] at ih ⊢
    split
    · have := hh f; omega
    · omega
theorem used_addT {n : ByteArray} {l : List Nat} {L : List Fil} (hs : Srt L) : used (upd n (addB l) L) ≤ used L + l.length := by
  cases hf : fnd n L with
  | none => rw [upd_none _ hf]; omega
  | some f =>
    have := used_upd (h := addB l) hs hf
    simp only [addB, List.length_append] at this
    omega
theorem used_wholeT {d : Dsk} (hi : Inv d) (o : Opn) : used (whole o d.L) ≤ used d.L + o.b.length := by
  unfold whole
  split
  · rw [used_ins]; simp
  · split
    · exact used_addT hi.srt
    · split
      · have := used_cutT (n := o.name) (h := cutB o.n.toNat) (fun f => by simp only [cutB, List.length_take]; omega) d.L
        omega
      · split
        · have := used_cutT (n := o.name) (h := synB) (fun f => Nat.le_refl _) d.L
          omega
        · split
          · unfold ren
            cases hf : fnd o.name d.L with
            | none => dsimp only; omega
            | some f =>
              dsimp only
              rw [used_ins]
              have h1 := used_dro hi.srt hf
              have h2 := used_dro_le o.to (dro o.name d.L)
              show used (dro o.to (dro o.name d.L)) + f.data.length ≤ _
              omega
          · have := used_dro_le o.name d.L; omega
theorem used_partT {d : Dsk} (hi : Inv d) (o : Opn) (p : Int) : used (part o p d.L) ≤ used d.L + o.b.length := by
  unfold part
  split
  · refine Nat.le_trans (used_addT hi.srt) ?_
    rw [List.length_take]
    omega
  · omega
theorem step_room (d : Dsk) (o : Opn) : (step d o).2.room = d.room ∧ (step d o).2.tr = d.tr ∧ d.ops ≤ (step d o).2.ops ∧ (step d o).2.ops ≤ d.ops + 1 := by
  unfold step
  split
  · exact ⟨rfl, rfl, by show d.ops ≤ d.ops; omega, by show d.ops ≤ d.ops + 1; omega⟩
  · split
    · exact ⟨rfl, rfl, by show d.ops ≤ d.ops + 1; omega, by show d.ops + 1 ≤ d.ops + 1; omega⟩
    · split
      · exact ⟨rfl, rfl, by show d.ops ≤ d.ops + 1; omega, by show d.ops + 1 ≤ d.ops + 1; omega⟩
      · exact ⟨rfl, rfl, by show d.ops ≤ d.ops + 1; omega, by show d.ops + 1 ≤ d.ops + 1; omega⟩

/-- Few bytes, few operations. -/
structure Few (d : Dsk) (m k : Nat) : Prop where
  inv : Inv d
  used : used d.L ≤ m
  ops0 : 0 ≤ d.ops
  ops1 : d.ops ≤ (k : Int)
theorem Few.mono {d : Dsk} {m k m' k' : Nat} (h : Few d m k) (hm : m ≤ m') (hk : k ≤ k') : Few d m' k' := ⟨h.inv, Nat.le_trans h.used hm, h.ops0, by have := h.ops1; omega⟩
theorem used_stepT {d : Dsk} (hi : Inv d) (o : Opn) : used (step d o).2.L ≤ used d.L + o.b.length := by
  unfold step
  split
  · dsimp only; omega
  · split
    · dsimp only; omega
    · split
      · exact used_wholeT hi o
      · exact used_partT hi o _
theorem Few.step {d : Dsk} {m k : Nat} (h : Few d m k) (o : Opn) (hb : ∀ c ∈ o.b, c < 256) {M : Nat} (hM : m + o.b.length ≤ M) : Few (step d o).2 M (k + 1) := by
  obtain ⟨_, _, r2, r3⟩ := step_room d o
  have h1 := used_stepT h.inv o
  have h2 := h.used
  have h3 := h.ops0
  have h4 := h.ops1
  exact ⟨inv_step h.inv hb, by omega, by omega, by omega⟩
theorem byts_nil : ∀ c ∈ ([] : List Nat), c < 256 := fun c h => by cases h
theorem Few.undo {d : Dsk} {m k : Nat} (h : Few d m k) (n : Int) (z : Nat) : Few (undoB d n z).2 m (k + 1) := by
  unfold undoB
  split
  · exact h.step (opD n) byts_nil (Nat.le_refl _)
  · exact h.step (opK n z) byts_nil (Nat.le_refl _)
theorem Few.lays {d : Dsk} {m k : Nat} (h : Few d m k) (n : Int) {b : List Nat} (hb : Byts b) : Few (laysB d n b).2 (m + b.length) (k + 2) := by
  have h1 := h.step (opA n b) hb (Nat.le_refl _)
  unfold laysB
  split
  · exact h1.step (opS n) byts_nil (Nat.le_refl _)
  · exact h1.mono (Nat.le_refl _) (by omega)
theorem Few.write {d : Dsk} {m k : Nat} (h : Few d m k) (n : Int) (z : Nat) {b : List Nat} (hb : Byts b) : Few (writeB d n z b).2.2 (m + b.length) (k + 3) := by
  have h1 := h.lays n hb
  unfold writeB
  split
  · exact h1.mono (Nat.le_refl _) (by omega)
  · exact (h1.undo n z).mono (Nat.le_refl _) (by omega)
theorem Few.append {d : Dsk} {m k : Nat} (h : Few d m k) (n : Int) (g : Sg) {L : List (List Nat)} (hL : ∀ r ∈ L, Byts r) : Few (appendB d n g L).2.2 (m + (frs L).length) (k + 3) := by
  unfold appendB
  split
  · exact h.mono (by omega) (by omega)
  · split
    · exact h.mono (by omega) (by omega)
    · exact h.write n g.size (frs_byts hL)
theorem Few.arm {d : Dsk} {m k : Nat} (h : Few d m k) (l : List Tro) : Few (arm l d) m k :=
  ⟨inv_arm h.inv l, h.used, Int.le_refl _, Int.natCast_nonneg _⟩

end Go.Proofs.YtacfcfbleogioaaGreatDoor
