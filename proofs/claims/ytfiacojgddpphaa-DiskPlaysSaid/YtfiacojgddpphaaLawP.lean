/-
  What the laws need of disks as lists: loading, a step without troubles, a new name. Of no program. No condition.
-/
import Derived.Test.YtfiacojgddpphaaLive
namespace Go.Proofs.Ytfiacojgddpphaa
open Go.RowKit Go.Lib Go.Joins

/-- A disk that nobody has done anything with. -/
structure New (d : Dsk) (n : Nat) : Prop where
  tr : d.tr = []
  ops : d.ops = 0
  down : d.down = false
  used : used d.L = n
theorem loadS_new : ∀ {L : List FilI} {d d' : Dsk} {n : Nat}, New d n → loadS L d = some d' → New d' (n + total L) ∧ d'.room = d.room
  | [], d, d', n, h, e => by
    obtain rfl : d = d' := by simpa [loadS] using e
    exact ⟨by simpa [total] using h, rfl⟩
  | f :: L, d, d', n, h, e => by
    unfold loadS at e
    split at e
    · have h2 : New (addF f d) (n + f.data.length) := ⟨h.tr, h.ops, h.down, by show used (ins (fil f) d.L) = _; rw [used_ins, h.used]; rfl⟩
      obtain ⟨h3, h4⟩ := loadS_new h2 e
      refine ⟨?_, h4⟩
      have : n + total (f :: L) = n + f.data.length + total L := by unfold total; simp only [List.map_cons, List.sum_cons]; omega
      rw [this]
      exact h3
    · cases e
theorem new_dsk0 (room : Int) : New (dsk0 room) 0 := ⟨rfl, rfl, rfl, rfl⟩
theorem New.sml {d : Dsk} {n : Nat} (h : New d n) (hn : n ≤ 1073741824) : Sml d := ⟨by rw [h.used]; exact hn, by rw [h.ops]; decide, by rw [h.ops]; decide⟩

/-- A step of a disk that has no troubles and whose power is there. -/
theorem step_calm {d : Dsk} (h1 : d.down = false) (h2 : d.tr = []) (o : Opn) : step d o = if ref d o = 0 then (0, { d with ops := d.ops + 1, L := whole o d.L }) else (ref d o, { d with ops := d.ops + 1 }) := by
  unfold step
  rw [h1, h2]
  by_cases h : ref d o = 0
  · simp [h, tro]
  · simp [h]

/-! ### a new name -/
theorem ren_there {s t : ByteArray} {L : List Fil} {f : Fil} (hs : Srt (ren s t L)) (h : fnd s L = some f) : fnd t (ren s t L) = some { f with name := t } := by
  have hm : ({ f with name := t } : Fil) ∈ ren s t L := by
    unfold ren
    rw [h]
    exact mem_ins.2 (.inl rfl)
  have := fnd_mem hs hm
  exact this
theorem ren_gone {s t : ByteArray} {L : List Fil} {f : Fil} (hne : s ≠ t) (h : fnd s L = some f) : fnd s (ren s t L) = none := by
  cases hg : fnd s (ren s t L) with
  | none => rfl
  | some g =>
    obtain ⟨h1, h2⟩ := fnd_some hg
    unfold ren at h1
    rw [h] at h1
    rcases mem_ins.1 h1 with rfl | h1
    · exact absurd h2 (fun e => hne e.symm)
    · exact absurd h2 (mem_dro.1 (mem_dro.1 h1).1).2
theorem fnd_dro_other {s t : ByteArray} {L : List Fil} (hs : Srt L) (hne : s ≠ t) : fnd t (dro s L) = fnd t L := by
  cases h : fnd t L with
  | none =>
    cases hg : fnd t (dro s L) with
    | none => rfl
    | some g =>
      obtain ⟨h1, h2⟩ := fnd_some hg
      exact absurd h2 (fnd_none h g (mem_dro.1 h1).1)
  | some g =>
    obtain ⟨h1, h2⟩ := fnd_some h
    have := fnd_mem (srt_dro (n := s) hs) (mem_dro.2 ⟨h1, by rw [h2]; exact fun e => hne e.symm⟩)
    rw [h2] at this
    exact this
theorem fnd_dro_same (s : ByteArray) (L : List Fil) : fnd s (dro s L) = none := by
  cases hg : fnd s (dro s L) with
  | none => rfl
  | some g =>
    obtain ⟨h1, h2⟩ := fnd_some hg
    exact absurd h2 (mem_dro.1 h1).2
theorem used_ren {s t : ByteArray} {L : List Fil} {f : Fil} (h : fnd s L = some f) : used (ren s t L) = used (dro t (dro s L)) + f.data.length := by
  unfold ren
  rw [h]
  exact used_ins _ _
theorem used_ren_self {s : ByteArray} {L : List Fil} {f : Fil} (hs : Srt L) (h : fnd s L = some f) : used (ren s s L) = used L := by
  rw [used_ren h, dro_none (fnd_dro_same s L), used_dro hs h]
theorem used_ren_free {s t : ByteArray} {L : List Fil} {f : Fil} (hs : Srt L) (hne : s ≠ t) (h : fnd s L = some f) (ht : fnd t L = none) : used (ren s t L) = used L := by
  rw [used_ren h, dro_none (by rw [fnd_dro_other hs hne]; exact ht), used_dro hs h]
theorem used_ren_over {s t : ByteArray} {L : List Fil} {f g : Fil} (hs : Srt L) (hne : s ≠ t) (h : fnd s L = some f) (ht : fnd t L = some g) : used (ren s t L) + g.data.length = used L := by
  have h1 := used_dro hs h
  have h2 := used_dro (srt_dro (n := s) hs) (show fnd t (dro s L) = some g by rw [fnd_dro_other hs hne]; exact ht)
  rw [used_ren h]
  omega

/-- What is read of a file, or of none. -/
def dataO (o : Option Fil) : List Nat := match o with | none => [] | some f => f.data
def codeO (o : Option Fil) : Int := match o with | none => 42 | some _ => 0
def ReadAny (o : Option Fil) (w : World) (e : Ending) (w' : World) : Prop :=
  ∃ a c S', e = .returned (.tuple #[.slice a (dataO o).length c, .int .i64 (codeO o)]) ∧ Row w' S' a (dataO o) ∧ (∀ k, S' k → w.heap.size ≤ k ∧ k < w'.heap.size) ∧ Below w.heap.size w w'
theorem read_any (s : ByteArray) {w0 w : World} {S : Nat → Prop} {B : Nat} {d : Dsk} (h : Live w0 w S B d) (hu : used d.L ≤ 1073741824) (hz : s.size ≤ 1099511627776) :
    Calls Try.prog 21 #[.pointer (some ⟨B, 0, none⟩), .string s] w (ReadAny (fnd s d.L) w) := by
  refine (read_calls s w h.disk hu hz).mono ?_
  rintro e w' ⟨hb, hm⟩
  cases hf : fnd s d.L with
  | none =>
    rw [hf] at hm
    exact ⟨none, 0, Non, hm, ⟨fun c hc => by simp [dataO] at hc, Or.inl rfl⟩, fun k hk => hk.elim, hb⟩
  | some f =>
    rw [hf] at hm
    obtain ⟨v, he, ho⟩ := hm
    obtain ⟨a, c, S', rfl, hr, hS⟩ := read_row (h.disk.1.byte f (fnd_some hf).1) ho
    exact ⟨a, c, S', he, hr, hS, hb⟩

end Go.Proofs.Ytfiacojgddpphaa
