/-
  The program's Load. Conditions: the files lie in memory; all of them together are no more than 2 to the 30 bytes; names are small.
-/
import Derived.Test.YtjhiekijbcjohaaGreatDoorTakes
import Derived.Deep.RegionHeld3
import Derived.Deep.DrawnRows
namespace Go.Proofs.YtjhiekijbcjohaaGreatDoor
open Go.RowKit Go.Lib Go.Joins

def fil (f : FilI) : Fil := ⟨f.name, f.data, f.safe.toNat⟩
def addF (f : FilI) (d : Dsk) : Dsk := { d with L := ins (fil f) d.L }
/-- A disk is loaded, file by file. -/
def loadS : List FilI → Dsk → Option Dsk
  | [], d => some d
  | f :: L, d => if takesB d f then loadS L (addF f d) else none
def total (L : List FilI) : Nat := (L.map (fun f => f.data.length)).sum

theorem takes_inv {d : Dsk} (hi : Inv d) {f : FilI} (ht : takesB d f = true) (hb : ∀ c ∈ f.data, c < 256) : Inv (addF f d) ∧ fnd f.name d.L = none ∧ 0 ≤ f.safe := by
  unfold takesB at ht
  simp only [Bool.and_eq_true, decide_eq_true_eq, Bool.not_eq_true'] at ht
  obtain ⟨⟨⟨⟨⟨h1, h2⟩, h3⟩, h4⟩, h5⟩, h6⟩ := ht
  have hn := fnd_is.1 h2
  exact ⟨inv_ins (f := fil f) hi h1 (by show f.safe.toNat ≤ _; show f.safe.toNat ≤ f.data.length; omega) hb (fnd_none hn) h3 (by show (used d.L : Int) + (f.data.length : Int) ≤ d.room; omega) d.ops d.tr d.down, hn, h4⟩

/-- What Load answers. -/
def LoadOut (q : Option Dsk) (w : World) (e : Ending) (w' : World) : Prop :=
  match q with
  | none => e = .returned (.tuple #[.pointer none, .int .i64 80]) ∧ Below w.heap.size w w'
  | some d => ∃ B S, e = .returned (.tuple #[.pointer (some ⟨B, 0, none⟩), .int .i64 0]) ∧ Disk w' S B d ∧ Fresh Non w.heap.size S ∧ Below w.heap.size w w'

/-- Where the four cells lie that the loading looks at. -/
def Four (W : World) (B F x : Nat) (nm : ByteArray) (a : Option Addr) (len cap : Nat) (z : Int) : Prop :=
  W.cell? ⟨B, 1, none⟩ = some (.map (some F)) ∧ W.cell? ⟨x, 0, none⟩ = some (.string nm) ∧ W.cell? ⟨x, 1, none⟩ = some (.slice a len cap) ∧ W.cell? ⟨x, 2, none⟩ = some (.int .i64 z)

theorem four_of {W : World} {S : Nat → Prop} {B : Nat} {d : Dsk} {F : Nat} {T : Option Nat} {cs : List Cel} (h : DiskAt W S B d F T cs) {x : Nat} {nm : ByteArray} {a : Option Addr} {len cap : Nat} {z : Int} (hx : W.heap[x]? = some (.cells #[.string nm, .slice a len cap, .int .i64 z] 92 (0, 0))) : Four W B F x nm a len cap z :=
  ⟨(cell_of_block h.blk 1).trans rfl, (cell_of_block hx 0).trans rfl, (cell_of_block hx 1).trans rfl, (cell_of_block hx 2).trans rfl⟩

theorem load_clone {w3 : World} {S S1 : Nat → Prop} {B : Nat} {d : Dsk} {F : Nat} {T : Option Nat} {cs : List Cel} (h : DiskAt w3 S B d F T cs) (hi : Inv d) {f : FilI} {a : Option Addr} {cap x : Nat} (hr : Row w3 S1 a f.data) (hl : f.data.length ≤ 1073741824)
    (hx : w3.heap[x]? = some (.cells #[.string f.name, .slice a f.data.length cap, .int .i64 f.safe] 92 (0, 0))) (hn : fnd f.name d.L = none) (hs0 : 0 ≤ f.safe) (hz : f.name.size ≤ 1099511627776) :
    Calls Tryz.prog 49 #[.slice a f.data.length cap] w3.drew fun e w4 => ∃ a3 c3 w6, e = .returned (.slice a3 f.data.length c3) ∧ Four w4 B F x f.name a f.data.length cap f.safe ∧ Four (w4.alloc (.cells #[.slice a3 f.data.length c3, .int .i64 f.safe] 98)) B F x f.name a f.data.length cap f.safe ∧
      (Instr.mapUpdate 78 (.map (some F)) (.string f.name) (.pointer (some ⟨w4.heap.size, 0, none⟩))).run Tryz.prog (w4.alloc (.cells #[.slice a3 f.data.length c3, .int .i64 f.safe] 98)) = .ok () w6 ∧ Four w6 B F x f.name a f.data.length cap f.safe ∧
      Hid (Half w3 S B (addF f d) w6) ∧ Hid (w3.heap.size ≤ w6.heap.size) := by
  refine (clone_calls a cap f.data S1 w3.drew hr hl).mono ?_
  rintro e w4 ⟨v, rfl, hown, hb⟩
  obtain ⟨a3, c3, rfl⟩ := dv_form2 hown
  have hb4 : Below w3.heap.size w3 w4 := ⟨hb.os, hb.tape, hb.output, hb.size, hb.block⟩
  have hown' : w4.ownsRow w3.heap.size 5 1 (.slice a3 f.data.length c3) f.data.length (cellsN f.data) := hown
  have h4 := h.below hb4
  have hx4 := block_below hb4 hx
  have hbel5 : Below w4.heap.size w4 (w4.alloc (.cells #[.slice a3 f.data.length c3, .int .i64 f.safe] 98)) := (Below.refl _ _).alloc (Nat.le_refl _) _
  have h5 := h4.below hbel5
  have hx5 := block_below hbel5 hx4
  have hcl : cs.length ≤ 64 := by have := hi.most; rw [← h.is, List.length_map] at this; exact this
  obtain ⟨w6, hrun, hown6, hturn⟩ := h5.map.store keyed9 Tryz.underlying78 (by unfold maxLen; omega) (keyOf_name (s := f.name) (by unfold maxLen; omega)) (Rp_mk w4.heap.size)
  have hg := hturn.grown
  have hk56 : Keeps (One F) (w4.alloc (.cells #[.slice a3 f.data.length c3, .int .i64 f.safe] 98)) w6 := (Keeps.refl (One F) _).grown hg (fun k e => .inl (Option.some.inj e).symm)
  have hk36 : Keeps (One F) w3 w6 := ((keeps_below hb4 (One F)).alloc _).trans hk56 (fun k e => .inl e)
  have hFl := h5.map.lt
  have hfb : w6.heap[w4.heap.size]? = some (.cells #[.slice a3 f.data.length c3, .int .i64 f.safe] 98 (0, 0)) := block_keep (heap_alloc_new w4 _) hk56 (fun e => by have h1 := h4.map.lt; have h2 : w4.heap.size = F := e; omega)
  have hsn : ((f.safe.toNat : Nat) : Int) = f.safe := by omega
  have hrow6 : w6.ownsRow w3.heap.size 5 1 (.slice a3 f.data.length c3) f.data.length (cellsN f.data) := by
    refine ownsRow_keep (hown'.alloc _) hk56 (fun k e hkF => ?_)
    have h1 := (hown'.lt k e).1
    have h2 := h.map.lt
    have h3 : k = F := hkF
    omega
  have hB6 : w6.cell? ⟨B, 1, none⟩ = some (.map (some F)) := (cell_of_block (block_keep h5.blk hk56 (fun e => map_ne h5.map h5.blk (by rw [show B = F from e]))) 1).trans rfl
  have hx6 := block_keep hx5 hk56 (fun e => map_ne h5.map hx5 (by rw [show x = F from e]))
  refine ⟨a3, c3, w6, rfl, four_of h4 hx4, four_of h5 hx5, hrun, ⟨hB6, (cell_of_block hx6 0).trans rfl, (cell_of_block hx6 1).trans rfl, (cell_of_block hx6 2).trans rfl⟩, Lib.hid ⟨⟨F, T, ?_⟩, ?_⟩, Lib.hid hk36.size⟩
  · refine h.created (f := fil f) hn hk36 (fb := w4.heap.size) hown6 ?_ (ownsRow_base0 hrow6) hb4.size (fun k e => (hrow6.lt k e).1)
    show w6.heap[w4.heap.size]? = some (.cells #[.slice a3 f.data.length c3, .int .i64 ((f.safe.toNat : Nat) : Int)] 98 (0, 0))
    rw [hsn]
    exact hfb
  · exact hk36.mono (fun k _ e => by rw [show k = F from e]; exact h.sF)

theorem fils_at {w : World} {S : Nat → Prop} {a : Option Addr} {L : List FilI} (h : Fils w S a L) {i : Nat} {f : FilI} (hi : L[i]? = some f) :
    ∃ b o da dc, a = some ⟨b, o, none⟩ ∧ S b ∧ w.cell? ⟨b, o + i * 3, none⟩ = some (.string f.name) ∧ w.cell? ⟨b, o + i * 3 + 1, none⟩ = some (.slice da f.data.length dc) ∧ w.cell? ⟨b, o + i * 3 + 2, none⟩ = some (.int .i64 f.safe) ∧ Row w S da f.data ∧ (da = none → dc = 0) ∧ f.data.length ≤ dc ∧ dc ≤ maxLen := by
  obtain ⟨cells, hc, h2⟩ := h
  obtain ⟨h3, ⟨dv, h4, h5⟩, h6⟩ := hc.at_ i f hi
  rcases h2 with h0 | ⟨b, o, h7, h8, h9⟩
  · rw [h0] at hi; simp at hi
  · obtain ⟨da, dc, hd, hr, hx⟩ := h5.is
    rw [hd] at h4
    exact ⟨b, o, da, dc, h7, h8, h9 _ _ h3, h9 _ _ h4, h9 _ _ h6, hr, hx⟩

theorem total_drop {L : List FilI} {i : Nat} {f : FilI} (hi : L[i]? = some f) : total (L.drop i) = f.data.length + total (L.drop (i + 1)) := by
  have hlt : i < L.length := (List.getElem?_eq_some_iff.1 hi).1
  have e : L[i] = f := by rw [List.getElem?_eq_getElem hlt] at hi; exact Option.some.inj hi
  rw [List.drop_eq_getElem_cons hlt, e]
  unfold total
  rw [List.map_cons, List.sum_cons]
theorem loadS_drop {L : List FilI} {i : Nat} {f : FilI} (hi : L[i]? = some f) (d : Dsk) : loadS (L.drop i) d = if takesB d f then loadS (L.drop (i + 1)) (addF f d) else none := by
  have hlt : i < L.length := (List.getElem?_eq_some_iff.1 hi).1
  have e : L[i] = f := by rw [List.getElem?_eq_getElem hlt] at hi; exact Option.some.inj hi
  rw [List.drop_eq_getElem_cons hlt, e]
  rfl

end Go.Proofs.YtjhiekijbcjohaaGreatDoor
