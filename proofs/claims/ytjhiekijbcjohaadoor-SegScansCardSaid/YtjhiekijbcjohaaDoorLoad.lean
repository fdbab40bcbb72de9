/-
  The program's Load. Conditions: the files lie in memory; all of them together are no more than 2 to the 30 bytes; names are small.
-/
import Derived.Test.YtjhiekijbcjohaaDoorTakes
import Derived.Deep.RegionHeld3
import Derived.Deep.DrawnRows
namespace Go.Proofs.YtjhiekijbcjohaaDoor
open Go.RowKit Go.Lib Go.Joins

def fil (f : FilI) : Fil := ⟨f.name, f.data, f.safe.toNat⟩
def addF (f : FilI) (d : Dsk) : Dsk := { d with L := ins (fil f) d.L }
/-- A disk is loaded, file by file. -/
def loadS : List FilI → Dsk → Option Dsk
  | [], d => some d
  | f :: L, d => if takesB d f then loadS L (addF f d) else none
def total (L : List FilI) : Nat := (L.map (fun f => f.data.length)).sum

theorem takes_inv {d : Dsk} (hi : Inv d) {f : FilI} (ht : takesB d f = true) (hb : ∀ c ∈ f.data, c < 256) : Inv (addF f d) ∧ fnd f.name d.L = none ∧ 0 ≤ f.safe := by
  unfold takesB at ht
  simp only [Bool.and_eq_true, decide_eq_true_eq, Bool.not_eq_true'] at ht
  obtain ⟨⟨⟨⟨⟨h1, h2⟩, h3⟩, h4⟩, h5⟩, h6⟩ := ht
  have hn := fnd_is.1 h2
  exact ⟨inv_ins (f := fil f) hi h1 (by show f.safe.toNat ≤ _; show f.safe.toNat ≤ f.data.length; omega) hb (fnd_none hn) h3 (by show (used d.L : Int) + (f.data.length : Int) ≤ d.room; omega) d.ops d.tr d.down, hn, h4⟩

/-- What Load answers. -/
def LoadOut (q : Option Dsk) (w : World) (e : Ending) (w' : World) : Prop :=
  match q with
  | none => e = .returned (.tuple #[.pointer none, .int .i64 80]) ∧ Below w.heap.size w w'
  | some d => ∃ B S, e = .returned (.tuple #[.pointer (some ⟨B, 0, none⟩), .int .i64 0]) ∧ Disk w' S B d ∧ Fresh Non w.heap.size S ∧ Below w.heap.size w w'

/-- Where the four cells lie that the loading looks at. -/
def Four (W : World) (B F x : Nat) (nm : ByteArray) (a : Option Addr) (len cap : Nat) (z : Int) : Prop :=
  W.cell? ⟨B, 1, none⟩ = some (.map (some F)) ∧ W.cell? ⟨x, 0, none⟩ = some (.string nm) ∧ W.cell? ⟨x, 1, none⟩ = some (.slice a len cap) ∧ W.cell? ⟨x, 2, none⟩ = some (.int .i64 z)

theorem fils_at {w : World} {S : Nat → Prop} {a : Option Addr} {L : List FilI} (h : Fils w S a L) {i : Nat} {f : FilI} (hi : L[i]? = some f) :
    ∃ b o da dc, a = some ⟨b, o, none⟩ ∧ S b ∧ w.cell? ⟨b, o + i * 3, none⟩ = some (.string f.name) ∧ w.cell? ⟨b, o + i * 3 + 1, none⟩ = some (.slice da f.data.length dc) ∧ w.cell? ⟨b, o + i * 3 + 2, none⟩ = some (.int .i64 f.safe) ∧ Row w S da f.data ∧ (da = none → dc = 0) ∧ f.data.length ≤ dc ∧ dc ≤ maxLen := by
  obtain ⟨cells, hc, h2⟩ := h
  obtain ⟨h3, ⟨dv, h4, h5⟩, h6⟩ := hc.at_ i f hi
  rcases h2 with h0 | ⟨b, o, h7, h8, h9⟩
  · rw [h0] at hi; simp at hi
  · obtain ⟨da, dc, hd, hr, hx⟩ := h5.is
    rw [hd] at h4
    exact ⟨b, o, da, dc, h7, h8, h9 _ _ h3, h9 _ _ h4, h9 _ _ h6, hr, hx⟩

theorem total_drop {L : List FilI} {i : Nat} {f : FilI} (hi : L[i]? = some f) : total (L.drop i) = f.data.length + total (L.drop (i + 1)) := by
  have hlt : i < L.length := (List.getElem?_eq_some_iff.1 hi).1
  have e : L[i] = f := by rw [List.getElem?_eq_getElem hlt] at hi; exact Option.some.inj hi
  rw [List.drop_eq_getElem_cons hlt, e]
  unfold total
  rw [List.map_cons, List.sum_cons]
theorem loadS_drop {L : List FilI} {i : Nat} {f : FilI} (hi : L[i]? = some f) (d : Dsk) : loadS (L.drop i) d = if takesB d f then loadS (L.drop (i + 1)) (addF f d) else none := by
  have hlt : i < L.length := (List.getElem?_eq_some_iff.1 hi).1
  have e : L[i] = f := by rw [List.getElem?_eq_getElem hlt] at hi; exact Option.some.inj hi
  rw [List.drop_eq_getElem_cons hlt, e]
  rfl

end Go.Proofs.YtjhiekijbcjohaaDoor
