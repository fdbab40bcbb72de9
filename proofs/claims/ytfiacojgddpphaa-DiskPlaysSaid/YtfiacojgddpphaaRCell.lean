/-
  One cell of a file of the reference's disk turns; copies of bytes in a drawn region. Conditions: the disk lies in memory; few bytes.
-/
import Derived.Test.YtfiacojgddpphaaRLow
import Derived.Test.YtfiacojgddpphaaTail
namespace Go.Proofs.Ytfiacojgddpphaa
open Go.RowKit Go.Lib Go.Joins

theorem FCells.set1 {w : World} {S : Nat → Prop} {cells : List Value} {L : List FilI} (h : FCells w S cells L) {i : Nat} {f : FilI} (hi : L[i]? = some f) {v : Value} {l : List Nat} (hv : Byt w S v l) :
    FCells w S (cells.set (i * 3 + 1) v) (L.set i { f with data := l }) := by
  have hil : i < L.length := (List.getElem?_eq_some_iff.1 hi).1
  have hcl := h.len
  refine ⟨by rw [List.length_set, List.length_set, hcl], fun j g hj => ?_⟩
  rw [List.getElem?_set_ne (by omega), List.getElem?_set_ne (by omega : i * 3 + 1 ≠ j * 3 + 2)]
  by_cases hij : i = j
  · subst hij
    rw [List.getElem?_set_self hil] at hj
    obtain rfl := Option.some.inj hj
    obtain ⟨h0, _, h2⟩ := h.at_ i f hi
    exact ⟨h0, ⟨v, by rw [List.getElem?_set_self (by omega)], hv⟩, h2⟩
  · rw [List.getElem?_set_ne hij] at hj
    rw [List.getElem?_set_ne (by omega)]
    exact h.at_ j g hj
theorem FCells.set2 {w : World} {S : Nat → Prop} {cells : List Value} {L : List FilI} (h : FCells w S cells L) {i : Nat} {f : FilI} (hi : L[i]? = some f) (z : Int) :
    FCells w S (cells.set (i * 3 + 2) (.int .i64 z)) (L.set i { f with safe := z }) := by
  have hil : i < L.length := (List.getElem?_eq_some_iff.1 hi).1
  have hcl := h.len
  refine ⟨by rw [List.length_set, List.length_set, hcl], fun j g hj => ?_⟩
  rw [List.getElem?_set_ne (by omega), List.getElem?_set_ne (by omega : i * 3 + 2 ≠ j * 3 + 1)]
  by_cases hij : i = j
  · subst hij
    rw [List.getElem?_set_self hil] at hj
    obtain rfl := Option.some.inj hj
    obtain ⟨h0, h1, _⟩ := h.at_ i f hi
    exact ⟨h0, h1, by rw [List.getElem?_set_self (by omega)]⟩
  · rw [List.getElem?_set_ne hij] at hj
    rw [List.getElem?_set_ne (by omega)]
    exact h.at_ j g hj

/-- What a store into the row of files leaves. -/
theorem RefAt.stored {w w2 : World} {S : Nat → Prop} {B : Nat} {d : Dsk} {g lc : Nat} {ta : Option Addr} {tn tc : Nat} {Sd St Sn : Nat → Prop} (h : RefAt w S B d (.slice (some ⟨g, 0, none⟩) d.L.length lc) ta tn tc Sd St) (hS : ∀ k, S k → k < w.heap.size) (hb : Below w.heap.size w w2)
    {j : Nat} {v : Value} {L' : List Fil} (hl : L'.length = d.L.length) (hfc : ∀ cells, FCells w2 Sd cells (d.L.map toI) → FCells w2 (fun k => Sd k ∨ Sn k) (cells.set j v) (L'.map toI)) (hSn : ∀ k, Sn k → w.heap.size ≤ k ∧ k < w2.heap.size) :
    RMoves w S B { d with L := L' } (w2.setCell ⟨g, j, none⟩ v) := by
  obtain ⟨cells, ho, hc⟩ := h.row
  have hgs : S g := h.sR g rfl
  have hgl := hS g hgs
  have hBg : B ≠ g := fun e => other_elem_n h.blk ho (by decide) (by rw [e]; rfl)
  have hk2 : Keeps (One g) w2 (w2.setCell ⟨g, j, none⟩ v) := (Keeps.refl (One g) w2).setCell (p := ⟨g, j, none⟩) (.inl rfl) _
  have hk : Keeps (One g) w (w2.setCell ⟨g, j, none⟩ v) := (keeps_below hb (One g)).setCell (p := ⟨g, j, none⟩) (.inl rfl) _
  have ho2 := ownsRow_keep ho (keeps_below hb Non) (fun _ _ h => h)
  have hst := (ho2.stored (g := g) j v).1
  have hc2 := hfc cells (hc.keep (keeps_below hb Non) (fun _ _ h => h))
  refine ⟨fun k => S k ∨ Sn k, ⟨fun k e => ?_, .slice (some ⟨g, 0, none⟩) d.L.length lc, ta, tn, tc, fun k => Sd k ∨ Sn k, St, ?_⟩, fun k e => ?_, hk.mono (fun k _ e => by rw [show k = g from e]; exact hgs)⟩
  · rcases e with e | e
    · exact Nat.lt_of_lt_of_le (hS k e) hk.size
    · exact Nat.lt_of_lt_of_le (hSn k e).2 hk2.size
  · exact {
      blk := block_keep h.blk hk (fun e => hBg e)
      row := ⟨_, by rw [← hl] at hst; rw [show ({ d with L := L' } : Dsk).L.length = L'.length from rfl, ← hl]; exact hst, hc2.keep hk2 (fun k e hkg => by
        rcases e with e | e
        · exact (h.sD k e).2.2 (by rw [show k = g from hkg]; rfl)
        · have := (hSn k e).1; have : k = g := hkg; omega)⟩
      tro := h.tro.keep hk (fun k e hkg => (h.sT k e).2.2 (by rw [show k = g from hkg]; rfl))
      trn := h.trn
      sB := .inl h.sB
      sR := fun k e => .inl (h.sR k e)
      sD := fun k e => by
        rcases e with e | e
        · exact ⟨.inl (h.sD k e).1, (h.sD k e).2⟩
        · have h1 := (hSn k e).1
          have h2 := hS B h.sB
          exact ⟨.inr e, by omega, fun he => by have : g = k := Option.some.inj he; omega⟩
      sT := fun k e => ⟨.inl (h.sT k e).1, (h.sT k e).2⟩ }
  · rcases e with e | e
    · exact .inl e
    · exact .inr (hSn k e).1

theorem map_set (L : List Fil) (i : Nat) (f : Fil) : (L.set i f).map toI = (L.map toI).set i (toI f) := List.map_set

/-- Its data is another row. -/
theorem RefAt.data {w w2 : World} {S : Nat → Prop} {B : Nat} {d : Dsk} {g lc : Nat} {ta : Option Addr} {tn tc : Nat} {Sd St : Nat → Prop} (h : RefAt w S B d (.slice (some ⟨g, 0, none⟩) d.L.length lc) ta tn tc Sd St) (hS : ∀ k, S k → k < w.heap.size) (hb : Below w.heap.size w w2)
    {i : Nat} {f : Fil} (hi : d.L[i]? = some f) {v : Value} {l : List Nat} (hbt : ∀ c ∈ l, c < 256) {n : Nat} (hn : l.length = n) (ho : w2.ownsRow 0 5 1 v n (cellsN l)) (hv : ∀ k, v.ownBlock = some k → w.heap.size ≤ k) :
    RMoves w S B { d with L := d.L.set i { f with data := l } } (w2.setCell ⟨g, i * 3 + 1, none⟩ v) := by
  have hby := row_of_own hbt hn ho
  refine h.stored (Sn := fun k => v.ownBlock = some k) hS hb (List.length_set ..) (fun cells hc => ?_) (fun k e => ⟨hv k e, (ho.lt k e).2⟩)
  have hi' : (d.L.map toI)[i]? = some (toI f) := by rw [List.getElem?_map, hi]; rfl
  have := (hc.mono (S' := fun k => Sd k ∨ v.ownBlock = some k) (fun k e => .inl e)).set1 hi' (hby.mono (fun k e => .inr e))
  rw [map_set]
  exact this
/-- Its safe bytes are others. -/
theorem RefAt.safe {w w2 : World} {S : Nat → Prop} {B : Nat} {d : Dsk} {g lc : Nat} {ta : Option Addr} {tn tc : Nat} {Sd St : Nat → Prop} (h : RefAt w S B d (.slice (some ⟨g, 0, none⟩) d.L.length lc) ta tn tc Sd St) (hS : ∀ k, S k → k < w.heap.size) (hb : Below w.heap.size w w2)
    {i : Nat} {f : Fil} (hi : d.L[i]? = some f) (z : Nat) : RMoves w S B { d with L := d.L.set i { f with safe := z } } (w2.setCell ⟨g, i * 3 + 2, none⟩ (.int .i64 (z : Int))) := by
  refine h.stored (Sn := Non) hS hb (List.length_set ..) (fun cells hc => ?_) (fun k e => e.elim)
  have hi' : (d.L.map toI)[i]? = some (toI f) := by rw [List.getElem?_map, hi]; rfl
  have := (hc.mono (S' := fun k => Sd k ∨ Non k) (fun k e => .inl e)).set2 hi' (z : Int)
  rw [map_set]
  exact this

theorem upd_set {n : ByteArray} {h : Fil → Fil} : ∀ {L : List Fil}, Srt L → ∀ {i : Nat} {f : Fil}, L[i]? = some f → f.name = n → upd n h L = L.set i (h f)
  | [], _, i, f, hi, _ => by simp at hi
  | g :: L, hs, 0, f, hi, hn => by
    obtain rfl : g = f := by simpa using hi
    obtain ⟨h1, _⟩ := List.pairwise_cons.1 hs
    have e2 : upd n h L = L := by
      refine upd_none h ?_
      unfold fnd
      rw [List.find?_eq_none]
      intro x hx
      have : x.name ≠ n := by rw [← hn]; exact (nlt_ne (h1 x hx)).symm
      simp [this]
    show (if g.name = n then h g else g) :: upd n h L = _
    rw [if_pos hn, e2]
    rfl
  | g :: L, hs, i + 1, f, hi, hn => by
    obtain ⟨h1, h2⟩ := List.pairwise_cons.1 hs
    have hi' : L[i]? = some f := by simpa using hi
    have hg : g.name ≠ n := by rw [← hn]; exact nlt_ne (h1 f (List.mem_of_getElem? hi'))
    show (if g.name = n then h g else g) :: upd n h L = _
    rw [if_neg hg, upd_set h2 hi' hn]
    rfl

/-- A copy of bytes with other bytes behind it. -/
theorem copy_two {W : World} {S S2 : Nat → Prop} {a a2 : Option Addr} {l l2 : List Nat} {c c2 m m2 : Nat} (hr : Row W S a l) (hc : a = none → c = 0) (hm : l.length = m) (hl : m ≤ 1073741824) (hr2 : Row W S2 a2 l2) (hc2 : a2 = none → c2 = 0) (hm2 : l2.length = m2) (hl2 : m2 ≤ 1000000) {N : Nat} (hN : W.heap.size = N) :
    ∃ a1 c1 w1 a3 c3 w3, (∀ ty, (Builtin.append_ #[35, 35] ty #[.slice (some ⟨N, 0, none⟩) 0 0, .slice a m c]).run Try.prog (W.alloc (.cells #[] 5)) = .ok (.slice a1 m c1) w1) ∧ Below W.heap.size W w1 ∧
      (∀ ty, (Builtin.append_ #[35, 35] ty #[.slice a1 m c1, .slice a2 m2 c2]).run Try.prog w1 = .ok (.slice a3 (m + m2) c3) w3) ∧ Below W.heap.size W w3 ∧ w3.ownsRow 0 5 1 (.slice a3 (m + m2) c3) (m + m2) (cellsN (l ++ l2)) ∧ (∀ k, (Value.slice a3 (m + m2) c3).ownBlock = some k → W.heap.size ≤ k) := by
  subst hm
  obtain ⟨v1, w1, r1, o1, n1, b1⟩ := copy_row hr hc hl hN
  obtain ⟨a1, c1, rfl⟩ := dv_form2 o1
  obtain ⟨v3, w3, r3, o3, g3, n3⟩ := append_run o1 hm2 (hr2.keep (keeps_below b1 Non) (fun _ _ h => h)) hc2 (by omega)
  obtain ⟨a3, c3, rfl⟩ := dv_form2 o3
  have hk : Keeps Non W w3 := (keeps_below b1 Non).grown g3 (fun k e => .inr (n1 k e))
  refine ⟨a1, c1, w1, a3, c3, w3, r1, b1, r3, hk.toBelow (Nat.le_refl _) (fun _ h => h.elim), by rw [cellsN_app]; exact o3, fun k e => ?_⟩
  rcases n3 k e with h5 | h5
  · exact n1 k h5
  · have := b1.size; omega

end Go.Proofs.Ytfiacojgddpphaa
