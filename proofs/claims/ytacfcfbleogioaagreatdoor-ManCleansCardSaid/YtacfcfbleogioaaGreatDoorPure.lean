/-
  A disk by definition, as lists: its files by rising names, and what each operation makes of them. Of no program. No condition.
-/
namespace Go.Proofs.YtacfcfbleogioaaGreatDoor

/-- A file: its name, its bytes, how many of them are safe. -/
structure Fil where
  name : ByteArray
  data : List Nat
  safe : Nat

/-- A trouble. -/
structure Tro where
  at_ : Int
  kind : Int
  part : Int

/-- A disk: room, files by rising names, troubles, operations, whether the power is gone. -/
structure Dsk where
  room : Int
  L : List Fil
  tr : List Tro
  ops : Int
  down : Bool

/-- One name ahead of another one. -/
def nlt (a b : ByteArray) : Bool := decide (a.data.toList < b.data.toList)

/-- The file of a name. -/
def fnd (n : ByteArray) (L : List Fil) : Option Fil := L.find? (fun f => decide (f.name = n))
/-- All files but that of a name. -/
def dro (n : ByteArray) (L : List Fil) : List Fil := L.filter (fun f => !decide (f.name = n))
/-- A file at its place. -/
def ins (f : Fil) : List Fil → List Fil
  | [] => [f]
  | g :: L => if nlt g.name f.name then g :: ins f L else f :: g :: L
/-- The file of a name is another one. -/
def upd (n : ByteArray) (h : Fil → Fil) (L : List Fil) : List Fil := L.map (fun f => if f.name = n then h f else f)
def used (L : List Fil) : Nat := (L.map (fun f => f.data.length)).sum

/-- A character that a name may have. -/
def okc (c : UInt8) : Bool := (97 ≤ c.toNat && c.toNat ≤ 122) || (48 ≤ c.toNat && c.toNat ≤ 57) || c.toNat == 46 || c.toNat == 45
/-- A name. -/
def nmd (s : ByteArray) : Bool := s.data.toList.all okc && decide (1 ≤ s.size) && decide (s.size ≤ 40)

/-- The trouble that befalls operation i. -/
def hits (i : Int) (t : Tro) : Bool := decide (t.at_ = i) && decide (1 ≤ t.kind) && decide (t.kind ≤ 3)
def tro (l : List Tro) (i : Int) : Option Tro := l.find? (hits i)

/-- A number, or what of 0 and most lies next to it. -/
def wth (n : Int) (most : Nat) : Nat := min n.toNat most

/-- An operation: 1 Create, 2 Append, 3 Cut, 4 Sync, 5 Rename, 6 Delete. -/
structure Opn where
  kind : Nat
  name : ByteArray
  to : ByteArray
  n : Int
  b : List Nat

/-- Its own refusal, the file being f. -/
def refF (d : Dsk) (o : Opn) (f : Fil) : Int :=
  if o.kind = 2 then (if d.room - (used d.L : Int) < (o.b.length : Int) then 40 else 0)
  else if o.kind = 3 then (if o.n < 0 ∨ (f.data.length : Int) < o.n then 80 else 0)
  else if o.kind = 5 then (if nmd o.to = false then 44 else 0)
  else 0
/-- Its own refusal. -/
def ref (d : Dsk) (o : Opn) : Int :=
  if o.kind = 1 then (if nmd o.name = false then 44 else if (fnd o.name d.L).isSome then 43 else if 64 ≤ d.L.length then 40 else 0)
  else match fnd o.name d.L with
    | none => 42
    | some f => refF d o f

def addB (b : List Nat) (f : Fil) : Fil := { f with data := f.data ++ b }
def cutB (n : Nat) (f : Fil) : Fil := { f with data := f.data.take n, safe := min f.safe n }
def synB (f : Fil) : Fil := { f with safe := f.data.length }

/-- A file has another name. -/
def ren (n to : ByteArray) (L : List Fil) : List Fil :=
  match fnd n L with
  | none => L
  | some f => ins { f with name := to } (dro to (dro n L))
/-- What it does of the files. -/
def whole (o : Opn) (L : List Fil) : List Fil :=
  if o.kind = 1 then ins ⟨o.name, [], 0⟩ L
  else if o.kind = 2 then upd o.name (addB o.b) L
  else if o.kind = 3 then upd o.name (cutB o.n.toNat) L
  else if o.kind = 4 then upd o.name synB L
  else if o.kind = 5 then ren o.name o.to L
  else dro o.name L

/-- What is done of it when a trouble befalls. -/
def part (o : Opn) (p : Int) (L : List Fil) : List Fil :=
  if o.kind = 2 then upd o.name (addB (o.b.take (wth p o.b.length))) L else L

def tld (k : Int) : Int := if k = 1 then 40 else if k = 2 then 41 else if k = 3 then 45 else 0

/-- An operation: what it answers, and the disk behind it. -/
def step (d : Dsk) (o : Opn) : Int × Dsk :=
  if d.down then (45, d)
  else
    if ref d o ≠ 0 then (ref d o, { d with ops := d.ops + 1 })
    else match tro d.tr (d.ops + 1) with
      | none => (0, { d with ops := d.ops + 1, L := whole o d.L })
      | some t => (tld t.kind, { d with ops := d.ops + 1, L := part o t.part d.L, down := decide (t.kind = 3) })

/-- The power comes again: from the i-th file on. -/
def crs (ts : List Int) : Nat → List Fil → List Fil
  | _, [] => []
  | i, f :: L => (let n := f.safe + (match ts[i]? with | some t => wth t (f.data.length - f.safe) | none => 0); ⟨f.name, f.data.take n, n⟩) :: crs ts (i + 1) L
def crash (ts : List Int) (d : Dsk) : Dsk := { d with L := crs ts 0 d.L, tr := [], down := false }
def arm (l : List Tro) (d : Dsk) : Dsk := { d with tr := l, ops := 0 }

/-- A disk is loaded, file by file. -/
def fits (d : Dsk) (f : Fil) : Bool := nmd f.name && !(fnd f.name d.L).isSome && decide (d.L.length < 64) && decide ((f.data.length : Int) ≤ d.room - (used d.L : Int))

/-! ### what holds of every disk -/
def Srt (L : List Fil) : Prop := L.Pairwise (fun f g => nlt f.name g.name = true)
structure Inv (d : Dsk) : Prop where
  room0 : 0 ≤ d.room
  room1 : d.room ≤ 9223372036854775807
  srt : Srt d.L
  most : d.L.length ≤ 64
  name : ∀ f ∈ d.L, nmd f.name = true
  safe : ∀ f ∈ d.L, f.safe ≤ f.data.length
  byte : ∀ f ∈ d.L, ∀ c ∈ f.data, c < 256
  fit : (used d.L : Int) ≤ d.room

theorem name_ext {a b : ByteArray} (h : a.data.toList = b.data.toList) : a = b := by
  cases a; cases b
  simp only [ByteArray.mk.injEq]
  exact Array.toList_inj.1 h

theorem nlt_irrefl (a : ByteArray) : nlt a a = false := by
  unfold nlt
  simp only [decide_eq_false_iff_not]
  exact List.lt_irrefl _
theorem nlt_trans {a b c : ByteArray} (h : nlt a b = true) (k : nlt b c = true) : nlt a c = true := by
  unfold nlt at *
  simp only [decide_eq_true_eq] at *
  exact List.lt_trans h k
theorem nlt_total {a b : ByteArray} (h : nlt a b = false) (hne : a ≠ b) : nlt b a = true := by
  unfold nlt at *
  simp only [decide_eq_true_eq, decide_eq_false_iff_not] at *
  rcases List.le_iff_lt_or_eq.1 (List.not_lt.1 h) with h1 | h1
  · exact h1
  · exact absurd (name_ext h1.symm) hne
theorem nlt_asymm {a b : ByteArray} (h : nlt a b = true) : nlt b a = false := by
  cases h1 : nlt b a
  · rfl
  · have := nlt_trans h h1
    rw [nlt_irrefl] at this
    cases this
theorem nlt_ne {a b : ByteArray} (h : nlt a b = true) : a ≠ b := by
  rintro rfl
  rw [nlt_irrefl] at h
  cases h

theorem fnd_some {n : ByteArray} {L : List Fil} {f : Fil} (h : fnd n L = some f) : f ∈ L ∧ f.name = n := by
  unfold fnd at h
  exact ⟨List.mem_of_find?_eq_some h, by simpa using List.find?_some h⟩
theorem fnd_none {n : ByteArray} {L : List Fil} (h : fnd n L = none) : ∀ f ∈ L, f.name ≠ n := by
  unfold fnd at h
  intro f hf
  have := List.find?_eq_none.1 h f hf
  simpa using this
theorem fnd_mem {L : List Fil} (hs : Srt L) {f : Fil} (hf : f ∈ L) : fnd f.name L = some f := by
  induction L with
  | nil => cases hf
  | cons g L ih =>
    obtain ⟨h1, h2⟩ := List.pairwise_cons.1 hs
    unfold fnd
    rw [List.find?_cons]
    rcases List.mem_cons.1 hf with rfl | hf
    · simp
    · have : g.name ≠ f.name := nlt_ne (h1 f hf)
      simp only [this, decide_false]
      exact ih h2 hf

theorem mem_ins {f g : Fil} {L : List Fil} : g ∈ ins f L ↔ g = f ∨ g ∈ L := by
  induction L with
  | nil => simp [ins]
  | cons x L ih =>
    unfold ins
    split
    · rw [List.mem_cons, ih, List.mem_cons]
      constructor
      · rintro (h | h | h)
        · exact .inr (.inl h)
        · exact .inl h
        · exact .inr (.inr h)
      · rintro (h | h | h)
        · exact .inr (.inl h)
        · exact .inl h
        · exact .inr (.inr h)
    · simp
theorem len_ins (f : Fil) (L : List Fil) : (ins f L).length = L.length + 1 := by
  induction L with
  | nil => rfl
  | cons x L ih =>
    unfold ins
    split
    · simp [ih]
    · simp
theorem used_ins (f : Fil) (L : List Fil) : used (ins f L) = used L + f.data.length := by
  induction L with
  | nil => simp [ins, used]
  | cons x L ih =>
    unfold ins
    split
    · simp only [used, List.map_cons, List.sum_cons] at *
      omega
    · simp only [used, List.map_cons, List.sum_cons]
      omega
theorem srt_ins {f : Fil} {L : List Fil} (hs : Srt L) (hn : ∀ g ∈ L, g.name ≠ f.name) : Srt (ins f L) := by
  induction L with
  | nil => simp [ins, Srt]
  | cons x L ih =>
    obtain ⟨h1, h2⟩ := List.pairwise_cons.1 hs
    unfold ins
    split
    · rename_i hx
      refine List.pairwise_cons.2 ⟨fun g hg => ?_, ih h2 (fun g hg => hn g (List.mem_cons_of_mem _ hg))⟩
      rcases mem_ins.1 hg with rfl | hg
      · exact hx
      · exact h1 g hg
    · rename_i hx
      have hx' := nlt_total (by simpa using hx) (hn x (List.mem_cons_self ..))
      refine List.pairwise_cons.2 ⟨fun g hg => ?_, hs⟩
      rcases List.mem_cons.1 hg with rfl | hg
      · exact hx'
      · exact nlt_trans hx' (h1 g hg)
theorem srt_dro {n : ByteArray} {L : List Fil} (hs : Srt L) : Srt (dro n L) := hs.filter _
theorem mem_dro {n : ByteArray} {L : List Fil} {g : Fil} : g ∈ dro n L ↔ g ∈ L ∧ g.name ≠ n := by
  unfold dro
  rw [List.mem_filter]
  simp
theorem dro_none {n : ByteArray} {L : List Fil} (h : fnd n L = none) : dro n L = L := by
  unfold dro
  refine List.filter_eq_self.2 (fun f hf => ?_)
  have := fnd_none h f hf
  simp [this]
theorem used_dro {n : ByteArray} {L : List Fil} (hs : Srt L) {f : Fil} (h : fnd n L = some f) : used (dro n L) + f.data.length = used L := by
  induction L with
  | nil => simp [fnd] at h
  | cons x L ih =>
    obtain ⟨h1, h2⟩ := List.pairwise_cons.1 hs
    by_cases hx : x.name = n
    · have hf : f = x := by
        unfold fnd at h
        rw [List.find?_cons] at h
        simp only [hx, decide_true] at h
        exact (Option.some.inj h).symm
      have hr : dro n (x :: L) = L := by
        unfold dro
        rw [List.filter_cons]
        simp only [hx, decide_true, Bool.not_true, Bool.false_eq_true, if_false]
        refine List.filter_eq_self.2 (fun g hg => ?_)
        have : g.name ≠ n := by rw [← hx]; exact (nlt_ne (h1 g hg)).symm
        simp [this]
      rw [hr, hf]
      simp only [used, List.map_cons, List.sum_cons]
      omega
    · have hf : fnd n L = some f := by
        unfold fnd at h ⊢
        rw [List.find?_cons] at h
        simpa only [hx, decide_false] using h
      have hr : dro n (x :: L) = x :: dro n L := by
        unfold dro
        rw [List.filter_cons]
        simp [hx]
      have := ih h2 hf
      rw [hr]
      simp only [used, List.map_cons, List.sum_cons] at *
      omega
theorem len_dro (n : ByteArray) (L : List Fil) : (dro n L).length ≤ L.length := List.length_filter_le _ _
theorem len_dro_lt {n : ByteArray} {L : List Fil} {f : Fil} (h : fnd n L = some f) : (dro n L).length < L.length := by
  obtain ⟨hf, hn⟩ := fnd_some h
  refine Nat.lt_of_le_of_ne (len_dro n L) (fun e => ?_)
  have := List.length_filter_eq_length_iff.1 e f hf
  simp [hn] at this
theorem used_dro_le (n : ByteArray) (L : List Fil) : used (dro n L) ≤ used L := by
  induction L with
  | nil => simp [dro, used]
  | cons x L ih =>
    by_cases hx : x.name = n
    · have hr : dro n (x :: L) = dro n L := by unfold dro; rw [List.filter_cons]; simp [hx]
      rw [hr]
      simp only [used, List.map_cons, List.sum_cons] at *
      omega
    · have hr : dro n (x :: L) = x :: dro n L := by unfold dro; rw [List.filter_cons]; simp [hx]
      rw [hr]
      simp only [used, List.map_cons, List.sum_cons] at *
      omega
theorem used_mem {L : List Fil} {f : Fil} (h : f ∈ L) : f.data.length ≤ used L := by
  induction L with
  | nil => cases h
  | cons x L ih =>
    simp only [used, List.map_cons, List.sum_cons] at *
    rcases List.mem_cons.1 h with rfl | h
    · omega
    · have := ih h
      omega

/-- Names alone are kept. -/
theorem srt_map {L L' : List Fil} (h : L'.map Fil.name = L.map Fil.name) (hs : Srt L) : Srt L' := by
  have e : ∀ M : List Fil, Srt M ↔ (M.map Fil.name).Pairwise (fun a b => nlt a b = true) := fun M => by
    unfold Srt
    rw [List.pairwise_map]
  rw [e, h, ← e]
  exact hs
theorem names_upd (n : ByteArray) (h : Fil → Fil) (hh : ∀ f, (h f).name = f.name) (L : List Fil) : (upd n h L).map Fil.name = L.map Fil.name := by
  unfold upd
  rw [List.map_map]
  refine List.map_congr_left (fun f _ => ?_)
  show (if f.name = n then h f else f).name = f.name
  split
  · exact hh f
  · rfl
theorem len_upd (n : ByteArray) (h : Fil → Fil) (L : List Fil) : (upd n h L).length = L.length := List.length_map _
theorem mem_upd {n : ByteArray} {h : Fil → Fil} {L : List Fil} {g : Fil} (hg : g ∈ upd n h L) : (∃ f ∈ L, f.name = n ∧ g = h f) ∨ (g ∈ L ∧ g.name ≠ n) := by
  unfold upd at hg
  obtain ⟨f, hf, rfl⟩ := List.mem_map.1 hg
  split
  · rename_i hn
    exact .inl ⟨f, hf, hn, rfl⟩
  · rename_i hn
    exact .inr ⟨hf, hn⟩
theorem used_upd {n : ByteArray} {h : Fil → Fil} {L : List Fil} (hs : Srt L) {f : Fil} (hf : fnd n L = some f) : used (upd n h L) + f.data.length = used L + (h f).data.length := by
  induction L with
  | nil => simp [fnd] at hf
  | cons x L ih =>
    obtain ⟨h1, h2⟩ := List.pairwise_cons.1 hs
    by_cases hx : x.name = n
    · have e : f = x := by
        unfold fnd at hf
        rw [List.find?_cons] at hf
        simp only [hx, decide_true] at hf
        exact (Option.some.inj hf).symm
      have hr : upd n h L = L := by
        have e2 : List.map (fun f => if f.name = n then h f else f) L = List.map id L := List.map_congr_left (fun g hg => by
          have : g.name ≠ n := by rw [← hx]; exact (nlt_ne (h1 g hg)).symm
          rw [if_neg this]; rfl)
        unfold upd
        rw [e2, List.map_id]
      have hr2 : upd n h (x :: L) = h x :: L := by
        show (if x.name = n then h x else x) :: upd n h L = _
        rw [if_pos hx, hr]
      rw [hr2, e]
      simp only [used, List.map_cons, List.sum_cons]
      omega
    · have e : fnd n L = some f := by
        unfold fnd at hf ⊢
        rw [List.find?_cons] at hf
        simpa only [hx, decide_false] using hf
      have hr2 : upd n h (x :: L) = x :: upd n h L := by
        show (if x.name = n then h x else x) :: upd n h L = _
        rw [if_neg hx]
      have := ih h2 e
      rw [hr2]
      simp only [used, List.map_cons, List.sum_cons] at *
      omega

theorem fnd_name {n : ByteArray} {L : List Fil} {f : Fil} (h : fnd n L = some f) : f.name = n := (fnd_some h).2

/-! ### each operation keeps what holds -/
theorem fnd_is {n : ByteArray} {L : List Fil} : (fnd n L).isSome = false ↔ fnd n L = none := by cases fnd n L <;> simp

theorem wth_le (n : Int) (m : Nat) : wth n m ≤ m := Nat.min_le_right _ _

theorem inv_upd {d : Dsk} {n : ByteArray} {h : Fil → Fil} (hi : Inv d) (hn : ∀ f, (h f).name = f.name) (hs : ∀ f ∈ d.L, (h f).safe ≤ (h f).data.length)
    (hb : ∀ f ∈ d.L, ∀ c ∈ (h f).data, c < 256) (hu : (used (upd n h d.L) : Int) ≤ d.room) (o : Int) (t : List Tro) (b : Bool) : Inv ⟨d.room, upd n h d.L, t, o, b⟩ where
  room0 := hi.room0
  room1 := hi.room1
  srt := srt_map (names_upd n h hn d.L) hi.srt
  most := by rw [len_upd]; exact hi.most
  name := fun g hg => by
    rcases mem_upd hg with ⟨f, hf, _, rfl⟩ | ⟨hf, _⟩
    · rw [hn]; exact hi.name f hf
    · exact hi.name g hf
  safe := fun g hg => by
    rcases mem_upd hg with ⟨f, hf, _, rfl⟩ | ⟨hf, _⟩
    · exact hs f hf
    · exact hi.safe g hf
  byte := fun g hg => by
    rcases mem_upd hg with ⟨f, hf, _, rfl⟩ | ⟨hf, _⟩
    · exact hb f hf
    · exact hi.byte g hf
  fit := hu

theorem inv_same {d : Dsk} (hi : Inv d) (o : Int) (t : List Tro) (b : Bool) : Inv ⟨d.room, d.L, t, o, b⟩ :=
  ⟨hi.room0, hi.room1, hi.srt, hi.most, hi.name, hi.safe, hi.byte, hi.fit⟩

theorem upd_none {n : ByteArray} {L : List Fil} (h : Fil → Fil) (hf : fnd n L = none) : upd n h L = L := by
  have e2 : List.map (fun f => if f.name = n then h f else f) L = List.map id L := List.map_congr_left (fun g hg => by
    rw [if_neg (fnd_none hf g hg)]; rfl)
  unfold upd
  rw [e2, List.map_id]

theorem inv_dro {d : Dsk} (hi : Inv d) (n : ByteArray) (o : Int) (t : List Tro) (b : Bool) : Inv ⟨d.room, dro n d.L, t, o, b⟩ where
  room0 := hi.room0
  room1 := hi.room1
  srt := srt_dro hi.srt
  most := Nat.le_trans (len_dro n d.L) hi.most
  name := fun g hg => hi.name g (mem_dro.1 hg).1
  safe := fun g hg => hi.safe g (mem_dro.1 hg).1
  byte := fun g hg => hi.byte g (mem_dro.1 hg).1
  fit := by have := used_dro_le n d.L; have := hi.fit; show (used (dro n d.L) : Int) ≤ d.room; omega

theorem inv_ins {d : Dsk} (hi : Inv d) {f : Fil} (hf : nmd f.name = true) (hs : f.safe ≤ f.data.length) (hb : ∀ c ∈ f.data, c < 256) (hn : ∀ g ∈ d.L, g.name ≠ f.name) (hm : d.L.length < 64) (hu : (used d.L : Int) + f.data.length ≤ d.room)
    (o : Int) (t : List Tro) (b : Bool) : Inv ⟨d.room, ins f d.L, t, o, b⟩ where
  room0 := hi.room0
  room1 := hi.room1
  srt := srt_ins hi.srt hn
  most := by rw [len_ins]; omega
  name := fun g hg => by
    rcases mem_ins.1 hg with rfl | hg
    · exact hf
    · exact hi.name g hg
  safe := fun g hg => by
    rcases mem_ins.1 hg with rfl | hg
    · exact hs
    · exact hi.safe g hg
  byte := fun g hg => by
    rcases mem_ins.1 hg with rfl | hg
    · exact hb
    · exact hi.byte g hg
  fit := by show (used (ins f d.L) : Int) ≤ d.room; rw [used_ins]; omega

theorem ref_file {d : Dsk} {o : Opn} (h1 : o.kind ≠ 1) (hr : ref d o = 0) : ∃ f, fnd o.name d.L = some f ∧ refF d o f = 0 := by
  unfold ref at hr
  rw [if_neg h1] at hr
  cases hf : fnd o.name d.L with
  | none => rw [hf] at hr; cases hr
  | some f => rw [hf] at hr; exact ⟨f, rfl, hr⟩

theorem inv_add {d : Dsk} (hi : Inv d) {n : ByteArray} {f : Fil} (hf : fnd n d.L = some f) {l : List Nat} (hb : ∀ c ∈ l, c < 256) (hl : (used d.L : Int) + l.length ≤ d.room) (q : Int) (t : List Tro) (b : Bool) : Inv ⟨d.room, upd n (addB l) d.L, t, q, b⟩ := by
  refine inv_upd (h := addB l) hi (fun _ => rfl) (fun g hg => ?_) (fun g hg c hc => ?_) ?_ q t b
  · have := hi.safe g hg
    simp only [addB, List.length_append]; omega
  · rcases List.mem_append.1 hc with hc | hc
    · exact hi.byte g hg c hc
    · exact hb c hc
  · have := used_upd (h := addB l) hi.srt hf
    simp only [addB, List.length_append] at this ⊢
    omega

theorem inv_whole {d : Dsk} {o : Opn} (hi : Inv d) (hb : ∀ c ∈ o.b, c < 256) (hr : ref d o = 0) (q : Int) (t : List Tro) (b : Bool) : Inv ⟨d.room, whole o d.L, t, q, b⟩ := by
  have hfit := hi.fit
  by_cases k1 : o.kind = 1
  · unfold ref at hr
    unfold whole
    rw [if_pos k1] at hr ⊢
    by_cases h1 : nmd o.name = false
    · rw [if_pos h1] at hr; cases hr
    rw [if_neg h1] at hr
    by_cases h2 : (fnd o.name d.L).isSome = true
    · rw [if_pos h2] at hr; cases hr
    rw [if_neg h2] at hr
    by_cases h3 : 64 ≤ d.L.length
    · rw [if_pos h3] at hr; cases hr
    exact inv_ins (f := ⟨o.name, [], 0⟩) hi (by simpa using h1) (Nat.zero_le _) (fun c hc => by cases hc) (fnd_none (fnd_is.1 (by simpa using h2))) (by omega) (by simpa using hfit) q t b
  obtain ⟨f, hf, hr⟩ := ref_file k1 hr
  obtain ⟨hm, hn⟩ := fnd_some hf
  unfold whole
  unfold refF at hr
  rw [if_neg k1]
  by_cases k2 : o.kind = 2
  · rw [if_pos k2] at hr ⊢
    by_cases h1 : d.room - (used d.L : Int) < (o.b.length : Int)
    · rw [if_pos h1] at hr; cases hr
    exact inv_add hi hf hb (by omega) q t b
  rw [if_neg k2] at hr ⊢
  by_cases k3 : o.kind = 3
  · rw [if_pos k3] at hr ⊢
    by_cases h1 : o.n < 0 ∨ (f.data.length : Int) < o.n
    · rw [if_pos h1] at hr; cases hr
    refine inv_upd (h := cutB o.n.toNat) hi (fun _ => rfl) (fun g hg => ?_) (fun g hg c hc => ?_) ?_ q t b
    · have := hi.safe g hg
      simp only [cutB, List.length_take]; omega
    · exact hi.byte g hg c (List.mem_of_mem_take hc)
    · have := used_upd (h := cutB o.n.toNat) hi.srt hf
      simp only [cutB, List.length_take] at *
      omega
  rw [if_neg k3] at hr ⊢
  by_cases k4 : o.kind = 4
  · rw [if_pos k4]
    refine inv_upd (h := synB) hi (fun _ => rfl) (fun g hg => Nat.le_refl _) (fun g hg c hc => hi.byte g hg c hc) ?_ q t b
    have := used_upd (h := synB) hi.srt hf
    simp only [synB] at *
    omega
  rw [if_neg k4]
  by_cases k5 : o.kind = 5
  · rw [if_pos k5] at hr ⊢
    by_cases h1 : nmd o.to = false
    · rw [if_pos h1] at hr; cases hr
    unfold ren
    rw [hf]
    have h2 := inv_dro (inv_dro hi o.name q t b) o.to q t b
    refine inv_ins (f := { f with name := o.to }) h2 (by simpa using h1) (hi.safe f hm) (hi.byte f hm) (fun g hg => (mem_dro.1 hg).2) ?_ ?_ q t b
    · have h3 := len_dro_lt hf
      have h4 := len_dro o.to (dro o.name d.L)
      have := hi.most
      show (dro o.to (dro o.name d.L)).length < 64
      omega
    · have h3 := used_dro hi.srt hf
      have h4 := used_dro_le o.to (dro o.name d.L)
      show ((used (dro o.to (dro o.name d.L)) : Nat) : Int) + (f.data.length : Int) ≤ d.room
      omega
  rw [if_neg k5]
  exact inv_dro hi o.name q t b

theorem inv_part {d : Dsk} {o : Opn} (hi : Inv d) (hb : ∀ c ∈ o.b, c < 256) (hr : ref d o = 0) (p : Int) (q : Int) (t : List Tro) (b : Bool) : Inv ⟨d.room, part o p d.L, t, q, b⟩ := by
  unfold part
  by_cases k2 : o.kind = 2
  · obtain ⟨f, hf, hr⟩ := ref_file (by omega) hr
    unfold refF at hr
    rw [if_pos k2] at hr ⊢
    by_cases h1 : d.room - (used d.L : Int) < (o.b.length : Int)
    · rw [if_pos h1] at hr; cases hr
    refine inv_add hi hf (fun c hc => hb c (List.mem_of_mem_take hc)) ?_ q t b
    simp only [List.length_take]
    omega
  · rw [if_neg k2]
    exact inv_same hi q t b

theorem inv_step {d : Dsk} {o : Opn} (hi : Inv d) (hb : ∀ c ∈ o.b, c < 256) : Inv (step d o).2 := by
  unfold step
  split
  · exact hi
  · split
    · exact inv_same hi _ _ _
    · rename_i hr
      have hr : ref d o = 0 := by simpa using hr
      split
      · exact inv_whole hi hb hr _ _ _
      · exact inv_part hi hb hr _ _ _ _

theorem names_crs (ts : List Int) : ∀ (i : Nat) (L : List Fil), (crs ts i L).map Fil.name = L.map Fil.name
  | _, [] => rfl
  | i, f :: L => by
    unfold crs
    rw [List.map_cons, List.map_cons, names_crs ts (i + 1) L]
theorem len_crs (ts : List Int) : ∀ (i : Nat) (L : List Fil), (crs ts i L).length = L.length
  | _, [] => rfl
  | i, f :: L => by unfold crs; rw [List.length_cons, List.length_cons, len_crs ts (i + 1) L]
theorem used_crs (ts : List Int) : ∀ (i : Nat) (L : List Fil), used (crs ts i L) ≤ used L
  | _, [] => Nat.le_refl _
  | i, f :: L => by
    unfold crs
    have := used_crs ts (i + 1) L
    simp only [used, List.map_cons, List.sum_cons, List.length_take] at *
    omega
theorem mem_crs (ts : List Int) : ∀ (i : Nat) (L : List Fil) (g : Fil), g ∈ crs ts i L → ∃ f ∈ L, ∃ n, g = ⟨f.name, f.data.take n, n⟩ ∧ f.safe ≤ n ∧ (f.safe ≤ f.data.length → n ≤ f.data.length)
  | _, [], g, h => by cases h
  | i, f :: L, g, h => by
    unfold crs at h
    rcases List.mem_cons.1 h with rfl | h
    · refine ⟨f, List.mem_cons_self .., _, rfl, Nat.le_add_right _ _, fun hs => ?_⟩
      split
      · have := wth_le ‹Int› (f.data.length - f.safe)
        omega
      · omega
    · obtain ⟨x, hx, r⟩ := mem_crs ts (i + 1) L g h
      exact ⟨x, List.mem_cons_of_mem _ hx, r⟩

theorem inv_crash {d : Dsk} (hi : Inv d) (ts : List Int) : Inv (crash ts d) where
  room0 := hi.room0
  room1 := hi.room1
  srt := srt_map (names_crs ts 0 d.L) hi.srt
  most := by show (crs ts 0 d.L).length ≤ 64; rw [len_crs]; exact hi.most
  name := fun g hg => by
    obtain ⟨f, hf, n, rfl, _⟩ := mem_crs ts 0 d.L g hg
    exact hi.name f hf
  safe := fun g hg => by
    obtain ⟨f, hf, n, rfl, h1, h2⟩ := mem_crs ts 0 d.L g hg
    have := h2 (hi.safe f hf)
    simp only [List.length_take]; omega
  byte := fun g hg c hc => by
    obtain ⟨f, hf, n, rfl, _⟩ := mem_crs ts 0 d.L g hg
    exact hi.byte f hf c (List.mem_of_mem_take hc)
  fit := by have := used_crs ts 0 d.L; have := hi.fit; show (used (crs ts 0 d.L) : Int) ≤ d.room; omega

theorem inv_arm {d : Dsk} (hi : Inv d) (l : List Tro) : Inv (arm l d) := inv_same hi 0 l d.down

end Go.Proofs.YtacfcfbleogioaaGreatDoor
