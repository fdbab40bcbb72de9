/-
  The reference's put: what its rows are. Conditions: few files.
  The reference's put. Conditions: the disk lies in memory; it has few files; the file's bytes are few.
  The reference's put at a row of files that is nil. Conditions: the disk lies in memory; it has few files; the file's bytes are few.
-/
import Derived.Test.YtfiacojgddpphaaRCell
namespace Go.Proofs.Ytfiacojgddpphaa
open Go.RowKit Go.Lib Go.Joins

/-- A slice of rows of three cells each: its m rows are these cells. -/
def Src (w : World) (s : Value) (m : Nat) (news : List Value) : Prop :=
  (s = .slice none 0 0 ∧ m = 0 ∧ news = []) ∨ ∃ b c, s = .slice (some b) m c ∧ news.length = m * 3 ∧ ∀ j u, news[j]? = some u → w.cell? (b.add j) = some u

theorem append_src {w W : World} {s : Value} {m : Nat} {news : List Value} (hs : Src w s m news) (hb : Below w.heap.size w W) (h1 : ∀ u ∈ news, u.oneCell' = true) {v : Value} {n : Nat} {xs : List Value} (hown : W.ownsRow 0 52 3 v n xs) (hn : n + m ≤ 2000) :
    ∃ a' c' w', (∀ ty, (Builtin.append_ #[22, 22] ty #[v, s]).run Try.prog W = .ok (.slice a' (n + m) c') w') ∧ w'.ownsRow 0 52 3 (.slice a' (n + m) c') (n + m) (xs ++ news) ∧ W.grownBy w' v.ownBlock ∧ ∀ k, (Value.slice a' (n + m) c').ownBlock = some k → v.ownBlock = some k ∨ W.heap.size ≤ k := by
  rcases hs with ⟨rfl, rfl, rfl⟩ | ⟨b, c, rfl, hl, hnews⟩
  · obtain ⟨a', c', rfl⟩ := dv_form2 hown
    exact ⟨a', c', W, append_any_none Try.underlying22 info52 hown, by simpa using hown, World.grownBy.refl _ _, fun k e => .inl e⟩
  · obtain ⟨v', w', r, o, g, f⟩ := append_any (m := m) (c := c) (b := b) (news := news) Try.underlying22 info52 rfl (by decide) hown hl (fun j u hu => by
      have hc := hnews j u hu
      have hlt : (b.add j).block < w.heap.size := by
        rcases Nat.lt_or_ge (b.add j).block w.heap.size with h' | h'
        · exact h'
        · simp [World.cell?, Array.getElem?_eq_none h'] at hc
      exact (World.cell?_of_block (hb.block _ hlt)).trans hc) h1 (by unfold maxLen; omega) (by omega)
    obtain ⟨a', c', rfl⟩ := dv_form2 o
    exact ⟨a', c', w', r, o, g, f⟩

/-- The part of a row ahead of a place, and from it on. -/
theorem src_take {w : World} {a : Option Addr} {len lc i : Nat} {cells : List Value} (ho : w.ownsRow 0 52 3 (.slice a len lc) len cells) (hi : i ≤ len) : Src w (.slice a i lc) i (cells.take (i * 3)) := by
  have hcl : cells.length = len * 3 := ho.1
  rcases ho.2 with ⟨e1, e0⟩ | ⟨g, cap, cur, e1, _⟩
  · obtain ⟨rfl, rfl, rfl⟩ := Value.slice.inj e1
    obtain rfl : i = 0 := by omega
    exact .inl ⟨rfl, rfl, by simp⟩
  · obtain ⟨rfl, _, rfl⟩ := Value.slice.inj e1
    refine .inr ⟨_, _, rfl, by rw [List.length_take]; omega, fun j u hu => ?_⟩
    have hj : j < i * 3 := by
      have := (List.getElem?_eq_some_iff.1 hu).1
      rw [List.length_take] at this
      omega
    rw [List.getElem?_take_of_lt hj] at hu
    exact ho.cells (g := g) rfl j u hu
theorem src_drop {w : World} {a : Option Addr} {len lc i : Nat} {cells : List Value} (ho : w.ownsRow 0 52 3 (.slice a len lc) len cells) (hi : i ≤ len) (hlc : len ≤ lc) : Src w (.slice (match a with | none => none | some g => if lc = i then some g else some ⟨g.block, i * 3, none⟩) (len - i) (lc - i)) (len - i) (cells.drop (i * 3)) := by
  have hcl : cells.length = len * 3 := ho.1
  rcases ho.2 with ⟨e1, e0⟩ | ⟨g, cap, cur, e1, _⟩
  · obtain ⟨rfl, rfl, rfl⟩ := Value.slice.inj e1
    obtain rfl : i = 0 := by omega
    refine .inl ⟨rfl, rfl, ?_⟩
    have : cells = [] := List.length_eq_zero_iff.1 hcl
    rw [this]; rfl
  · obtain ⟨rfl, _, rfl⟩ := Value.slice.inj e1
    dsimp only
    by_cases hc : lc = i
    · rw [if_pos hc]
      refine .inr ⟨_, _, rfl, by rw [List.length_drop]; omega, fun j u hu => ?_⟩
      have := (List.getElem?_eq_some_iff.1 hu).1
      rw [List.length_drop] at this
      omega
    · rw [if_neg hc]
      refine .inr ⟨_, _, rfl, by rw [List.length_drop]; omega, fun j u hu => ?_⟩
      rw [List.getElem?_drop] at hu
      have := ho.cells (g := g) rfl _ u hu
      rw [Addr.add_mid] at this ⊢
      rw [Nat.zero_add] at this
      exact this

/-- A row of files of its own. -/
structure NewRow (w w' : World) (v : Value) (n : Nat) (cells : List Value) : Prop where
  own : w'.ownsRow 0 52 3 v n cells
  new : ∀ k, v.ownBlock = some k → w.heap.size ≤ k
  bel : Below w.heap.size w w'
theorem NewRow.app {w W : World} {v : Value} {n : Nat} {xs : List Value} (h : NewRow w W v n xs) {w0 : World} (hw0 : Below w0.heap.size w0 W) {s : Value} {m : Nat} {news : List Value} (hs : Src w0 s m news) (h1 : ∀ u ∈ news, u.oneCell' = true) (hn : n + m ≤ 2000) :
    ∃ a' c' w', (∀ ty, (Builtin.append_ #[22, 22] ty #[v, s]).run Try.prog W = .ok (.slice a' (n + m) c') w') ∧ NewRow w w' (.slice a' (n + m) c') (n + m) (xs ++ news) ∧ W.grownBy w' v.ownBlock := by
  obtain ⟨a', c', w', r, o, g, f⟩ := append_src hs hw0 h1 h.own hn
  refine ⟨a', c', w', r, ⟨o, fun k e => ?_, ((keeps_below h.bel Non).grown g (fun k e => .inr (h.new k e))).toBelow (Nat.le_refl _) (fun _ h => h.elim)⟩, g⟩
  rcases f k e with h5 | h5
  · exact h.new k h5
  · have := h.bel.size; omega
theorem NewRow.nil {w W : World} (hb : Below w.heap.size w W) : NewRow w (W.alloc (.cells #[] 52)) (.slice (some ⟨W.heap.size, 0, none⟩) 0 0) 0 [] :=
  ⟨World.ownsRow_lit W #[] 0 (Nat.zero_le _) (Nat.zero_le _) rfl, fun k e => by have : W.heap.size = k := Option.some.inj e; have := hb.size; omega, hb.alloc hb.size _⟩
theorem NewRow.alloc {w W : World} {v : Value} {n : Nat} {xs : List Value} (h : NewRow w W v n xs) (o : Obj) : NewRow w (W.alloc o) v n xs :=
  ⟨h.own.alloc _, h.new, h.bel.alloc h.bel.size _⟩

abbrev filO (nm : ByteArray) (a : Option Addr) (ln c : Nat) (z : Int) : Obj := .cells #[.string nm, .slice a ln c, .int .i64 z] 52
theorem src_file {W : World} {nm : ByteArray} {a : Option Addr} {ln c : Nat} {z : Int} : Src (W.alloc (filO nm a ln c z)) (.slice (some ⟨W.heap.size, 0, none⟩) 1 1) 1 [.string nm, .slice a ln c, .int .i64 z] :=
  .inr ⟨_, _, rfl, rfl, news_at⟩
theorem file_one {nm : ByteArray} {a : Option Addr} {ln c : Nat} {z : Int} : ∀ u ∈ [Value.string nm, .slice a ln c, .int .i64 z], u.oneCell' = true := by
  intro u hu; simp at hu; rcases hu with rfl | rfl | rfl <;> rfl

/-- The three rows of put, in the three orders that there are. -/
structure PutRuns (w : World) (s1 s3 : Value) (i m3 : Nat) (nm : ByteArray) (a : Option Addr) (ln c : Nat) (z : Int) (t1 t3 : List Value) : Prop where
  A : ∃ a1 c1 w1 a2 c2 w2 a3 c3 w3, (∀ ty, (Builtin.append_ #[22, 22] ty #[.slice (some ⟨w.heap.size, 0, none⟩) 0 0, s1]).run Try.prog (w.alloc (.cells #[] 52)) = .ok (.slice a1 i c1) w1) ∧ Below w.heap.size w w1 ∧ Below w.heap.size w (w1.alloc (filO nm a ln c z)) ∧
    (∀ ty, (Builtin.append_ #[22, 22] ty #[.slice a1 i c1, .slice (some ⟨w1.heap.size, 0, none⟩) 1 1]).run Try.prog (w1.alloc (filO nm a ln c z)) = .ok (.slice a2 (i + 1) c2) w2) ∧ Below w.heap.size w w2 ∧
    (∀ ty, (Builtin.append_ #[22, 22] ty #[.slice a2 (i + 1) c2, s3]).run Try.prog w2 = .ok (.slice a3 (i + 1 + m3) c3) w3) ∧ NewRow w w3 (.slice a3 (i + 1 + m3) c3) (i + 1 + m3) (t1 ++ [.string nm, .slice a ln c, .int .i64 z] ++ t3)
  B : ∃ a1 c1 w1 a2 c2 w2 a3 c3 w3, Below w.heap.size w ((w.alloc (.cells #[] 52)).alloc (filO nm a ln c z)) ∧ (∀ ty, (Builtin.append_ #[22, 22] ty #[.slice (some ⟨w.heap.size, 0, none⟩) 0 0, s1]).run Try.prog ((w.alloc (.cells #[] 52)).alloc (filO nm a ln c z)) = .ok (.slice a1 i c1) w1) ∧ Below w.heap.size w w1 ∧
    (∀ ty, (Builtin.append_ #[22, 22] ty #[.slice a1 i c1, .slice (some ⟨w.heap.size + 1, 0, none⟩) 1 1]).run Try.prog w1 = .ok (.slice a2 (i + 1) c2) w2) ∧ Below w.heap.size w w2 ∧
    (∀ ty, (Builtin.append_ #[22, 22] ty #[.slice a2 (i + 1) c2, s3]).run Try.prog w2 = .ok (.slice a3 (i + 1 + m3) c3) w3) ∧ NewRow w w3 (.slice a3 (i + 1 + m3) c3) (i + 1 + m3) (t1 ++ [.string nm, .slice a ln c, .int .i64 z] ++ t3)
  C : ∃ a1 c1 w1 a2 c2 w2 a3 c3 w3, Below w.heap.size w (w.alloc (filO nm a ln c z)) ∧ Below w.heap.size w ((w.alloc (filO nm a ln c z)).alloc (.cells #[] 52)) ∧ (∀ ty, (Builtin.append_ #[22, 22] ty #[.slice (some ⟨w.heap.size + 1, 0, none⟩) 0 0, s1]).run Try.prog ((w.alloc (filO nm a ln c z)).alloc (.cells #[] 52)) = .ok (.slice a1 i c1) w1) ∧ Below w.heap.size w w1 ∧
    (∀ ty, (Builtin.append_ #[22, 22] ty #[.slice a1 i c1, .slice (some ⟨w.heap.size, 0, none⟩) 1 1]).run Try.prog w1 = .ok (.slice a2 (i + 1) c2) w2) ∧ Below w.heap.size w w2 ∧
    (∀ ty, (Builtin.append_ #[22, 22] ty #[.slice a2 (i + 1) c2, s3]).run Try.prog w2 = .ok (.slice a3 (i + 1 + m3) c3) w3) ∧ NewRow w w3 (.slice a3 (i + 1 + m3) c3) (i + 1 + m3) (t1 ++ [.string nm, .slice a ln c, .int .i64 z] ++ t3)

theorem size_alloc (w : World) (o : Obj) : (w.alloc o).heap.size = w.heap.size + 1 := by simp
theorem size_drew (w : World) : w.drew.heap.size = w.heap.size := rfl

theorem put_runs {w : World} {s1 s3 : Value} {i m3 : Nat} {t1 t3 : List Value} (h1 : Src w s1 i t1) (h3 : Src w s3 m3 t3) (o1 : ∀ u ∈ t1, u.oneCell' = true) (o3 : ∀ u ∈ t3, u.oneCell' = true) (hm : i + 1 + m3 ≤ 2000) (nm : ByteArray) (a : Option Addr) (ln c : Nat) (z : Int) : PutRuns w s1 s3 i m3 nm a ln c z t1 t3 := by
  have hb0 := Below.refl w.heap.size w
  have e0 : (0 : Nat) + i = i := Nat.zero_add i
  refine ⟨?_, ?_, ?_⟩
  · have n0 := NewRow.nil hb0
    obtain ⟨a1, c1, w1, r1, n1, g1⟩ := n0.app n0.bel h1 o1 (by omega)
    rw [e0] at r1 n1
    have hbF : Below w1.heap.size w1 (w1.alloc (filO nm a ln c z)) := (Below.refl _ _).alloc (Nat.le_refl _) _
    have n1' := n1.alloc (filO nm a ln c z)
    obtain ⟨a2, c2, w2, r2, n2, _⟩ := n1'.app (Below.refl _ _) src_file file_one (by omega)
    obtain ⟨a3, c3, w3, r3, n3, _⟩ := n2.app n2.bel h3 o3 (by omega)
    exact ⟨a1, c1, w1, a2, c2, w2, a3, c3, w3, r1, n1.bel, n1'.bel, r2, n2.bel, r3, by simpa using n3⟩
  · have n0 := (NewRow.nil hb0).alloc (filO nm a ln c z)
    obtain ⟨a1, c1, w1, r1, n1, g1⟩ := n0.app n0.bel h1 o1 (by omega)
    rw [e0] at r1 n1
    have hF : Src w1 (.slice (some ⟨w.heap.size + 1, 0, none⟩) 1 1) 1 [.string nm, .slice a ln c, .int .i64 z] := by
      refine .inr ⟨_, _, rfl, rfl, fun j u hu => ?_⟩
      have hx : ((w.alloc (.cells #[] 52)).alloc (filO nm a ln c z)).heap[w.heap.size + 1]? = some (filO nm a ln c z) := by
        rw [← size_alloc w (.cells #[] 52)]
        exact heap_alloc_new _ _
      have hx1 : w1.heap[w.heap.size + 1]? = some (filO nm a ln c z) := (g1.block _ (lt_of_block hx) (fun e => by
        have : w.heap.size + 1 = w.heap.size := Option.some.inj e
        omega)).trans hx
      rw [Addr.add_mid, Nat.zero_add]
      exact (cell_of_block hx1 j).trans (by simpa using hu)
    obtain ⟨a2, c2, w2, r2, n2, _⟩ := n1.app (Below.refl _ _) hF file_one (by omega)
    obtain ⟨a3, c3, w3, r3, n3, _⟩ := n2.app n2.bel h3 o3 (by omega)
    exact ⟨a1, c1, w1, a2, c2, w2, a3, c3, w3, n0.bel, r1, n1.bel, r2, n2.bel, r3, by simpa using n3⟩
  · have hbF : Below w.heap.size w (w.alloc (filO nm a ln c z)) := hb0.alloc (Nat.le_refl _) _
    have n0 := NewRow.nil hbF
    have hsz := size_alloc w (filO nm a ln c z)
    obtain ⟨a1, c1, w1, r1, n1, g1⟩ := n0.app n0.bel h1 o1 (by omega)
    rw [e0] at r1 n1
    rw [hsz] at r1
    have hF : Src w1 (.slice (some ⟨w.heap.size, 0, none⟩) 1 1) 1 [.string nm, .slice a ln c, .int .i64 z] := by
      refine .inr ⟨_, _, rfl, rfl, fun j u hu => ?_⟩
      have hx : (w.alloc (filO nm a ln c z)).heap[w.heap.size]? = some (filO nm a ln c z) := heap_alloc_new _ _
      have hx0 := (Below.heap_alloc (w.alloc (filO nm a ln c z)) (.cells #[] 52) _ (lt_of_block hx)).trans hx
      have hx1 : w1.heap[w.heap.size]? = some (filO nm a ln c z) := (g1.block _ (lt_of_block hx0) (fun e => by
        have : w.heap.size = (w.alloc (filO nm a ln c z)).heap.size := Option.some.inj e
        omega)).trans hx0
      rw [Addr.add_mid, Nat.zero_add]
      exact (cell_of_block hx1 j).trans (by simpa using hu)
    obtain ⟨a2, c2, w2, r2, n2, _⟩ := n1.app (Below.refl _ _) hF file_one (by omega)
    obtain ⟨a3, c3, w3, r3, n3, _⟩ := n2.app n2.bel h3 o3 (by omega)
    exact ⟨a1, c1, w1, a2, c2, w2, a3, c3, w3, hbF, n0.bel, r1, n1.bel, r2, n2.bel, r3, by simpa using n3⟩

/-- Where a file comes. -/
theorem ins_none {f : Fil} {L : List Fil} {i : Nat} (h : ins f L = L.take i ++ ins f (L.drop i)) (hi : L.length ≤ i) : ins f L = L.take i ++ f :: L.drop i := by
  rw [h, List.drop_eq_nil_of_le hi]
  rfl
theorem ins_next {f g : Fil} {L : List Fil} {i : Nat} (h : ins f L = L.take i ++ ins f (L.drop i)) (hg : L[i]? = some g) (hn : nlt g.name f.name = true) : ins f L = L.take (i + 1) ++ ins f (L.drop (i + 1)) := by
  obtain ⟨h1, rfl⟩ := List.getElem?_eq_some_iff.1 hg
  have e2 : ins f (L[i] :: L.drop (i + 1)) = L[i] :: ins f (L.drop (i + 1)) := by
    show (if nlt L[i].name f.name then _ else _) = _
    rw [if_pos hn]
  have e3 : L.take (i + 1) = L.take i ++ [L[i]] := by rw [List.take_succ_eq_append_getElem h1]
  rw [h, List.drop_eq_getElem_cons h1, e2, e3, List.append_assoc]
  rfl
theorem ins_here {f g : Fil} {L : List Fil} {i : Nat} (h : ins f L = L.take i ++ ins f (L.drop i)) (hg : L[i]? = some g) (hn : nlt g.name f.name = false) : ins f L = L.take i ++ f :: L.drop i := by
  obtain ⟨h1, rfl⟩ := List.getElem?_eq_some_iff.1 hg
  have e2 : ins f (L[i] :: L.drop (i + 1)) = f :: L[i] :: L.drop (i + 1) := by
    show (if nlt L[i].name f.name then _ else _) = _
    rw [hn, if_neg (by decide)]
  rw [h, List.drop_eq_getElem_cons h1, e2]

end Go.Proofs.Ytfiacojgddpphaa
namespace Go.Proofs.Ytfiacojgddpphaa
open Go.RowKit Go.Lib Go.Joins

def RPutOut (w : World) (S : Nat → Prop) (B : Nat) (d' : Dsk) (e : Ending) (w' : World) : Prop := e = .returned (.tuple #[]) ∧ RMoves w S B d' w'

/-- What the row that put made leaves. -/
theorem put_end {w w1 w3 : World} {S : Nat → Prop} {B : Nat} {d : Dsk} {la : Option Addr} {lc : Nat} {ta : Option Addr} {tn tc : Nat} {Sd St : Nat → Prop} (h : RefAt w S B d (.slice la d.L.length lc) ta tn tc Sd St) (hS : ∀ k, S k → k < w.heap.size) (hb1 : Below w.heap.size w w1)
    {cells : List Value} (hfc : FCells w Sd cells (d.L.map toI)) {f : Fil} {da : Option Addr} {dc ln : Nat} (hby : ∀ c ∈ f.data, c < 256) (hln : f.data.length = ln) (ho : w1.ownsRow 0 5 1 (.slice da ln dc) ln (cellsN f.data)) (hnew : ∀ k, (Value.slice da ln dc).ownBlock = some k → w.heap.size ≤ k)
    {i m3 : Nat} (hi : i + m3 = d.L.length) (hins : ins f d.L = d.L.take i ++ f :: d.L.drop i) {a3 : Option Addr} {c3 : Nat} (hn : NewRow w1 w3 (.slice a3 (i + 1 + m3) c3) (i + 1 + m3) (cells.take (i * 3) ++ [.string f.name, .slice da ln dc, .int .i64 (f.safe : Int)] ++ cells.drop (i * 3))) :
    RMoves w S B { d with L := ins f d.L } (w3.setCell ⟨B, 1, none⟩ (.slice a3 (i + 1 + m3) c3)) := by
  have hb : Below w.heap.size w w3 := below_then hb1 hn.bel
  have hrow := row_of_own hby hln ho
  have hrow3 := hrow.keep (keeps_below hn.bel Non) (fun _ _ h => h)
  have hfc3 := hfc.keep (keeps_below hb Non) (fun _ _ h => h)
  have hlen : (ins f d.L).length = i + 1 + m3 := by rw [len_ins]; omega
  refine h.newRow (Sn := fun k => Sd k ∨ (Value.slice da ln dc).ownBlock = some k) hS hb (by rw [hlen]; exact hn.own) ?_ (fun k e => Nat.le_trans hb1.size (hn.new k e)) (fun k e => ?_)
  · rw [hins, List.map_append, List.map_cons, List.map_take, List.map_drop]
    have e : FCells w3 (fun k => Sd k ∨ (Value.slice da ln dc).ownBlock = some k) [.string f.name, .slice da ln dc, .int .i64 (f.safe : Int)] [toI f] := (FCells.one (f := toI f) (w := w3) hrow3).mono (fun k e => .inr e)
    have e1 := (hfc3.take i).mono (S' := fun k => Sd k ∨ (Value.slice da ln dc).ownBlock = some k) (fun k e => .inl e)
    have e2 := (hfc3.drop i).mono (S' := fun k => Sd k ∨ (Value.slice da ln dc).ownBlock = some k) (fun k e => .inl e)
    have := (e1.app e).app e2
    rw [List.append_assoc (List.take i (List.map toI d.L)), List.singleton_append] at this
    exact this
  · rcases e with e | e
    · exact .inl e
    · have h1 := hnew k e
      have h2 := (ho.lt k e).2
      have := hn.bel.size
      exact .inr ⟨h1, by omega, fun e3 => by have := hn.new k e3; omega⟩

end Go.Proofs.Ytfiacojgddpphaa
namespace Go.Proofs.Ytfiacojgddpphaa
open Go.RowKit Go.Lib Go.Joins

set_option maxRecDepth 100000 in
set_option maxHeartbeats 16000000 in
theorem rput_none (f : Fil) (fa : Option Addr) (fc : Nat) (w : World) {S Sf : Nat → Prop} {B : Nat} {d : Dsk}  (hd : (∀ k, S k → k < w.heap.size) ∧ ∃ ta tn tc Sd St, RefAt w S B d (.slice none d.L.length 0) ta tn tc Sd St) (hmost : d.L.length ≤ 1000) (hnm : f.name.size ≤ 1099511627776) (hnms : ∀ g ∈ d.L, g.name.size ≤ 1099511627776) (hr : Row w Sf fa f.data) (hc0 : fa = none → fc = 0) (hl : f.data.length ≤ 1073741824) (hby : ∀ c ∈ f.data, c < 256) :
    Calls Try.prog 36 #[.pointer (some ⟨B, 0, none⟩), .agg #[.string f.name, .slice fa f.data.length fc, .int .i64 (f.safe : Int)]] w (RPutOut w S B { d with L := ins f d.L }) := by
  obtain ⟨hSlt, ta, tn, tc, Sd, St, h⟩ := hd
  obtain ⟨la', lc', hle, hf, hn0, hlc, hlcm⟩ := h.fils
  obtain ⟨rfl, _, rfl⟩ := Value.slice.inj hle
  obtain ⟨cells, ho, hfc⟩ := h.row
  obtain ⟨ln, hln⟩ : ∃ ln, f.data.length = ln := ⟨_, rfl⟩
  obtain ⟨nm, hnmE⟩ : ∃ nm, f.name = nm := ⟨_, rfl⟩
  obtain ⟨sf, hsf⟩ : ∃ sf : Int, (f.safe : Int) = sf := ⟨_, rfl⟩
  rw [hln] at hl
  rw [hln, hnmE, hsf]
  have hbel1 : Below w.heap.size w (w.alloc (.cells #[.string nm, .slice fa ln fc, .int .i64 sf] 52)) := (Below.refl _ _).alloc (Nat.le_refl _) _
  have hbx : (w.alloc (.cells #[.string nm, .slice fa ln fc, .int .i64 sf] 52)).heap[w.heap.size]? = some (.cells #[.string nm, .slice fa ln fc, .int .i64 sf] 52 (0, 0)) := heap_alloc_new w _
  obtain ⟨W1, hW1⟩ : ∃ W1, w.alloc (.cells #[.string nm, .slice fa ln fc, .int .i64 sf] 52) = W1 := ⟨_, rfl⟩
  rw [hW1] at hbel1 hbx
  have x0 : W1.cell? ⟨w.heap.size, 0, none⟩ = some (.string nm) := (cell_of_block hbx 0).trans rfl
  have hf1 := hf.below hbel1
  have hblk1 := block_below hbel1 h.blk
  have HLESS := Lib.hid (fun (a : ByteArray) (ha : a.size ≤ 1099511627776) (W : World) => rless_calls a nm W ha (by rw [← hnmE]; exact hnm))
  have HNMS := Lib.hid hnms
  have HH := Lib.hid h
  have HO := Lib.hid ho
  have HFC := Lib.hid hfc
  have HSLT := Lib.hid hSlt
  have HLN := Lib.hid hln
  have HNM := Lib.hid hnmE
  have HSF := Lib.hid hsf
  have HR := Lib.hid hr
  have HBYTE := Lib.hid hby
  have HBEL1 := Lib.hid hbel1
  have HBX := Lib.hid hbx
  have HF1 := Lib.hid hf1
  have HINS0 : Hid (ins f d.L = d.L.take 0 ++ ins f (d.L.drop 0)) := Lib.hid rfl
  obtain ⟨n, hn⟩ : ∃ n, d.L.length = n := ⟨_, rfl⟩
  have HN := Lib.hid hn
  obtain rfl : n = 0 := by omega
  rw [hn] at hmost hlc HO
  have bb : W1.cell? ⟨B, 1, none⟩ = some (.slice none 0 0) := by have e : W1.cell? ⟨B, 1, none⟩ = some (.slice none d.L.length 0) := (cell_of_block hblk1 1).trans rfl; rw [hn] at e; exact e
  have HW1 := Lib.hid hW1
  clear hle hf1 hblk1 h ho hfc hSlt hln hnmE hsf hr hby hbel1 hbx hnms hnm hf hn0 hlcm hn hW1
  go_enter Try.func36, Try.ntmps36
  go_wp2
  rw [HW1.out]
  go_loopg [4] 0 (fun g idx wr => idx = .int .i64 0 ∧ wr = W1)
  case atStart => exact ⟨rfl, rfl⟩
  case round =>
    obtain ⟨rfl, rfl⟩ := hrel
    go_wp2
    go_quiet (fail)
    have HINS : Hid (ins f d.L = d.L.take 0 ++ f :: d.L.drop 0) := Lib.hid (ins_none HINS0.out (by rw [HN.out]; exact Nat.le_refl _))
    clear HINS0
    obtain ⟨Wd, hWd⟩ : ∃ Wd, wr.drewN nq = Wd := ⟨_, rfl⟩
    have hbxd : Wd.heap[w.heap.size]? = some (.cells #[.string nm, .slice fa ln fc, .int .i64 sf] 52 (0, 0)) := by rw [← hWd]; exact HBX.out
    have HBD : Hid (Below w.heap.size w Wd) := Lib.hid (by rw [← hWd]; exact ⟨HBEL1.out.os, HBEL1.out.tape, HBEL1.out.output, HBEL1.out.size, HBEL1.out.block⟩)
    try simp only [hWd]
    clear hWd
    have hbD : Below w.heap.size w Wd := HBD.out
    have hxl : w.heap.size < Wd.heap.size := lt_of_block hbxd
    obtain ⟨v4, w4, hrun4, hown4, hnew4, hbel4⟩ := copy_row (W := Wd) (HR.out.below hbD) hc0 (by rw [HLN.out]; exact hl) (N := Wd.heap.size) rfl
    rw [HLN.out] at hrun4 hown4
    obtain ⟨da, dc, rfl⟩ := dv_form2 hown4
    have hbx4 := block_below hbel4 hbxd
    have e1 : (Wd.alloc (.cells #[] 5)).cell? ⟨w.heap.size, 1, none⟩ = some (.slice fa ln fc) := (cell_of_block ((Below.heap_alloc Wd (.cells #[] 5) w.heap.size hxl).trans hbxd) 1).trans rfl
    have e2 : w4.cell? ⟨w.heap.size, 1, none⟩ = some (.slice fa ln fc) := (cell_of_block hbx4 1).trans rfl
    have k2 := unfrozen_of_block hbx4 1
    have hbx5 := block_setCell (i := 1) hbx4 (.slice da ln dc)
    have hown5 := ownsRow_keep hown4 ((Keeps.refl (One w.heap.size) w4).setCell (p := ⟨w.heap.size, 1, none⟩) (.inl rfl) (.slice da ln dc)) (fun k e hk => by have := hnew4 k e; have : k = w.heap.size := hk; omega)
    have hb5 : Below w.heap.size w (w4.setCell ⟨w.heap.size, 1, none⟩ (.slice da ln dc)) := ((keeps_below (below_then hbD hbel4) (One w.heap.size)).setCell (p := ⟨w.heap.size, 1, none⟩) (.inl rfl) _).toBelow (Nat.le_refl _) (fun k e => Nat.le_of_eq (show k = w.heap.size from e).symm)
    obtain ⟨W5, hW5⟩ : ∃ W5, w4.setCell ⟨w.heap.size, 1, none⟩ (.slice da ln dc) = W5 := ⟨_, rfl⟩
    rw [hW5] at hbx5 hown5 hb5
    have HW5 := hW5
    have HRUN := Lib.hid hrun4
    have hnew5 : ∀ k, (Value.slice da ln dc).ownBlock = some k → w.heap.size ≤ k := fun k e => by have := hnew4 k e; have := hbD.size; omega
    have hbV : Below w.heap.size w W5.drew := ⟨hb5.os, hb5.tape, hb5.output, hb5.size, hb5.block⟩
    have hbxV : W5.drew.heap[w.heap.size]? = some (.cells #[.string nm, .slice da ln dc, .int .i64 sf] 52 (0, 0)) := hbx5
    have hownV : W5.drew.ownsRow 0 5 1 (.slice da ln dc) ln (cellsN f.data) := hown5
    have hrowV := ownsRow_keep HO.out (keeps_below hbV Non) (fun _ _ h => h)
    have hblkV := block_below hbV HH.out.blk
    have hs1 : Src W5.drew (.slice none 0 0) 0 (cells.take (0 * 3)) := by have := src_take hrowV (i := 0) (by omega); simpa [] using this
    have hs3 : Src W5.drew (.slice none 0 0) 0 (cells.drop (0 * 3)) := by have := src_drop hrowV (i := 0) (by omega) (by omega); simpa [] using this
    have hq : ∀ W, Below W5.drew.heap.size W5.drew W → W.cell? ⟨B, 1, none⟩ = some (.slice none 0 0) ∧ W.cell? ⟨w.heap.size, 0, none⟩ = some (.string nm) ∧ W.cell? ⟨w.heap.size, 1, none⟩ = some (.slice da ln dc) ∧ W.cell? ⟨w.heap.size, 2, none⟩ = some (.int .i64 sf) := fun W hb =>
      ⟨(by have e : W.cell? ⟨B, 1, none⟩ = some (.slice none d.L.length 0) := (cell_of_block (block_below hb hblkV) 1).trans rfl; rw [HN.out] at e; exact e), (cell_of_block (block_below hb hbxV) 0).trans rfl, (cell_of_block (block_below hb hbxV) 1).trans rfl, (cell_of_block (block_below hb hbxV) 2).trans rfl⟩
    have hfr : ∀ W, Below W5.drew.heap.size W5.drew W → W.frozen? ⟨B, 1, none⟩ = false := fun W hb => unfrozen_of_block (block_below hb hblkV) 1
    have hend := fun (a3 : Option Addr) (c3 : Nat) (w3 : World) (hn : NewRow W5.drew w3 (.slice a3 (0 + 1 + 0) c3) (0 + 1 + 0) (cells.take (0 * 3) ++ [.string nm, .slice da ln dc, .int .i64 sf] ++ cells.drop (0 * 3))) =>
      put_end HH.out HSLT.out hbV HFC.out HBYTE.out HLN.out hownV hnew5 (i := 0) (m3 := 0) (by rw [HN.out]) HINS.out (a3 := a3) (c3 := c3) (w3 := w3) (by rw [HNM.out, HSF.out]; exact hn)
    obtain ⟨⟨Aa1, Ac1, Aw1, Aa2, Ac2, Aw2, Aa3, Ac3, Aw3, Ar1, Ab1, Ab0, Ar2, Ab2, Ar3, An3⟩, ⟨Ba1, Bc1, Bw1, Ba2, Bc2, Bw2, Ba3, Bc3, Bw3, Bb0, Br1, Bb1, Br2, Bb2, Br3, Bn3⟩, ⟨Ca1, Cc1, Cw1, Ca2, Cc2, Cw2, Ca3, Cc3, Cw3, Cbf, Cb0, Cr1, Cb1, Cr2, Cb2, Cr3, Cn3⟩⟩ := put_runs (w := W5.drew) hs1 hs3 (fun u hu => HFC.out.one' u (List.mem_of_mem_take hu)) (fun u hu => HFC.out.one' u (List.mem_of_mem_drop hu)) (by omega) nm da ln dc sf
    have HQ := Lib.hid hq
    have hbE0 : Below W5.drew.heap.size W5.drew (W5.drew.alloc (.cells #[] 52)) := (Below.refl _ _).alloc (Nat.le_refl _) _
    have AH := Lib.hid (hend Aa3 Ac3 Aw3 An3)
    have AR1 := Lib.hid Ar1
    have AR2 := Lib.hid Ar2
    have AR3 := Lib.hid Ar3
    have AB1 := Lib.hid Ab1
    have AB2 := Lib.hid Ab2
    have AB0 := Lib.hid Ab0
    have AN3 := Lib.hid An3
    have Afr := hfr Aw3 An3.bel
    have BH := Lib.hid (hend Ba3 Bc3 Bw3 Bn3)
    have BR1 := Lib.hid Br1
    have BR2 := Lib.hid Br2
    have BR3 := Lib.hid Br3
    have BB1 := Lib.hid Bb1
    have BB2 := Lib.hid Bb2
    have BB0 := Lib.hid Bb0
    have BN3 := Lib.hid Bn3
    have Bfr := hfr Bw3 Bn3.bel
    have CH := Lib.hid (hend Ca3 Cc3 Cw3 Cn3)
    have CR1 := Lib.hid Cr1
    have CR2 := Lib.hid Cr2
    have CR3 := Lib.hid Cr3
    have CB1 := Lib.hid Cb1
    have CB2 := Lib.hid Cb2
    have CB0 := Lib.hid Cb0
    have CN3 := Lib.hid Cn3
    have Cfr := hfr Cw3 Cn3.bel
    have CBF := Lib.hid Cbf
    have hbE := Lib.hid hbE0
    have hbDD : Below W5.drew.heap.size W5.drew W5.drew := Below.refl _ _
    have HBDD := Lib.hid hbDD
    clear hbDD hbE0 hq hfr hend hs1 hs3 hblkV hrowV hownV hbxV hbV hnew5 hrun4 hown4 hnew4 hbel4 hbx4 hbx5 hown5 hb5 hxl hbD hbxd
    clear Ar1 Ar2 Ar3 Ab0 Ab1 Ab2 An3 Br1 Br2 Br3 Bb0 Bb1 Bb2 Bn3 Cr1 Cr2 Cr3 Cb0 Cb1 Cb2 Cn3 Cbf
    go_wp2_with (at_builtin; refine wpList_step (fun K hK => step_append rfl _ _ 35 rfl _ _ _ rfl rfl HRUN.out (hK _ _ ?_)))
    try simp only [HW5]
    clear HW5 e1 e2 k2
    refine wp_region_z (S := fun W => W.cell? ⟨B, 1, none⟩ = some (.slice none 0 0) ∧ W.cell? ⟨w.heap.size, 0, none⟩ = some (.string nm) ∧ W.cell? ⟨w.heap.size, 1, none⟩ = some (.slice da ln dc) ∧ W.cell? ⟨w.heap.size, 2, none⟩ = some (.int .i64 sf)) 21 (by kernel_rfl) (HQ.out _ HBDD.out) (fun hHeld => ?_)
    refine wpAnyZ_take (i := 0) (f := 22) (v := ?_) rfl (by kernel_rfl) (by kernel_rfl) (by kernel_rfl) (by kernel_rfl) (by kernel_rfl) (fun _ _ _ h => h) (Or.inl ⟨by rfl, ?_⟩) (by assumption) ?_
    rotate_left
    · intro W hS
      try dsimp only at hS
      try obtain ⟨hs0, hs1⟩ := hS
      go_simp
      try with_reducible rfl
    simp only [Act.put, List.setIfInBounds_toArray]
    refine wpAnyZ_take (i := 2) (f := 22) (v := ?_) rfl (by kernel_rfl) (by kernel_rfl) (by kernel_rfl) (by kernel_rfl) (by kernel_rfl) (fun _ _ _ h => h) (Or.inl ⟨by rfl, ?_⟩) (by assumption) ?_
    rotate_left
    · intro W hS
      try dsimp only at hS
      try obtain ⟨hs0, hs1⟩ := hS
      go_simp
      try with_reducible rfl
    simp only [Act.put]
    refine wpAnyZ_take (i := 3) (f := 22) (v := ?_) rfl (by kernel_rfl) (by kernel_rfl) (by kernel_rfl) (by kernel_rfl) (by kernel_rfl) (fun _ _ _ h => h) (Or.inl ⟨by rfl, ?_⟩) (by assumption) ?_
    rotate_left
    · intro W hS
      try dsimp only at hS
      try obtain ⟨hs0, hs1⟩ := hS
      go_simp
      try with_reducible rfl
    simp only [Act.put]
    refine wpAnyZ_take (i := 4) (f := 22) (v := ?_) rfl (by kernel_rfl) (by kernel_rfl) (by kernel_rfl) (by kernel_rfl) (by kernel_rfl) (fun _ _ _ h => h) (Or.inl ⟨by rfl, ?_⟩) (by assumption) ?_
    rotate_left
    · intro W hS
      try dsimp only at hS
      try obtain ⟨hs0, hs1⟩ := hS
      go_simp
      try with_reducible rfl
    simp only [Act.put]
    refine wpAnyZ_take (i := 5) (f := 22) (v := ?_) rfl (by kernel_rfl) (by kernel_rfl) (by kernel_rfl) (by kernel_rfl) (by kernel_rfl) (fun _ _ _ h => h) (Or.inl ⟨by rfl, ?_⟩) (by assumption) ?_
    rotate_left
    · intro W hS
      try dsimp only at hS
      try obtain ⟨hs0, hs1⟩ := hS
      go_simp
      try with_reducible rfl
    simp only [Act.put]
    refine wpAnyZ_take (i := 6) (f := 22) (v := ?_) rfl (by kernel_rfl) (by kernel_rfl) (by kernel_rfl) (by kernel_rfl) (by kernel_rfl) (fun _ _ _ h => h) (Or.inl ⟨by rfl, ?_⟩) (by assumption) ?_
    rotate_left
    · intro W hS
      try dsimp only at hS
      try obtain ⟨hs0, hs1⟩ := hS
      go_simp
      try with_reducible rfl
    simp only [Act.put]
    refine wpAnyZ_take (i := 7) (f := 22) (v := ?_) rfl (by kernel_rfl) (by kernel_rfl) (by kernel_rfl) (by kernel_rfl) (by kernel_rfl) (fun _ _ _ h => h) (Or.inl ⟨by rfl, ?_⟩) (by assumption) ?_
    rotate_left
    · intro W hS
      try dsimp only at hS
      try obtain ⟨hs0, hs1⟩ := hS
      go_simp
      try with_reducible rfl
    simp only [Act.put]
    refine wpAnyZ_take (i := 9) (f := 22) (v := ?_) rfl (by kernel_rfl) (by kernel_rfl) (by kernel_rfl) (by kernel_rfl) (by kernel_rfl) (fun _ _ _ h => h) (Or.inl ⟨by rfl, ?_⟩) (by assumption) ?_
    rotate_left
    · intro W hS
      try dsimp only at hS
      try obtain ⟨hs0, hs1⟩ := hS
      go_simp
      try with_reducible rfl
    simp only [Act.put]
    refine wpAnyZ_take (i := 12) (f := 22) (v := ?_) rfl (by kernel_rfl) (by kernel_rfl) (by kernel_rfl) (by kernel_rfl) (by kernel_rfl) (fun _ _ _ h => h) (Or.inl ⟨by rfl, ?_⟩) (by assumption) ?_
    rotate_left
    · intro W hS
      try dsimp only at hS
      try obtain ⟨hs0, hs1⟩ := hS
      go_simp
      try with_reducible rfl
    simp only [Act.put]
    refine wpAnyZ_take (i := 13) (f := 22) (v := ?_) rfl (by kernel_rfl) (by kernel_rfl) (by kernel_rfl) (by kernel_rfl) (by kernel_rfl) (fun _ _ _ h => h) (Or.inl ⟨by rfl, ?_⟩) (by assumption) ?_
    rotate_left
    · intro W hS
      try dsimp only at hS
      try obtain ⟨hs0, hs1⟩ := hS
      go_simp
      try with_reducible rfl
    simp only [Act.put]
    refine wpAnyZ_take (i := 14) (f := 22) (v := ?_) rfl (by kernel_rfl) (by kernel_rfl) (by kernel_rfl) (by kernel_rfl) (by kernel_rfl) (fun _ _ _ h => h) (Or.inl ⟨by rfl, ?_⟩) (by assumption) ?_
    rotate_left
    · intro W hS
      try dsimp only at hS
      try obtain ⟨hs0, hs1⟩ := hS
      go_simp
      try with_reducible rfl
    simp only [Act.put]
    refine wpAnyZ_take (i := 15) (f := 22) (v := ?_) rfl (by kernel_rfl) (by kernel_rfl) (by kernel_rfl) (by kernel_rfl) (by kernel_rfl) (fun _ _ _ h => h) (Or.inl ⟨by rfl, ?_⟩) (by assumption) ?_
    rotate_left
    · intro W hS
      try dsimp only at hS
      try obtain ⟨hs0, hs1⟩ := hS
      go_simp
      try with_reducible rfl
    simp only [Act.put]
    refine wpAnyZ_take (i := 16) (f := 22) (v := ?_) rfl (by kernel_rfl) (by kernel_rfl) (by kernel_rfl) (by kernel_rfl) (by kernel_rfl) (fun _ _ _ h => h) (Or.inl ⟨by rfl, ?_⟩) (by assumption) ?_
    rotate_left
    · intro W hS
      try dsimp only at hS
      try obtain ⟨hs0, hs1⟩ := hS
      go_simp
      try with_reducible rfl
    simp only [Act.put]
    refine wpAnyZ_take (i := 17) (f := 22) (v := ?_) rfl (by kernel_rfl) (by kernel_rfl) (by kernel_rfl) (by kernel_rfl) (by kernel_rfl) (fun _ _ _ h => h) (Or.inl ⟨by rfl, ?_⟩) (by assumption) ?_
    rotate_left
    · intro W hS
      try dsimp only at hS
      try obtain ⟨hs0, hs1⟩ := hS
      go_simp
      try with_reducible rfl
    simp only [Act.put]
    refine wpAnyZ_two (i := 1) (j := 10) (by kernel_rfl) rfl rfl (fun K hK => ?_) (fun K hK => ?_)
    · go_simp
      refine hK.out _ _ (HQ.out _ hbE.out) (fun hHeld => ?_)
      clear hK K
      try simp only [Act.put, List.setIfInBounds_toArray, List.set_cons_zero, List.set_cons_succ]
      refine wpAnyZ_two (i := 8) (j := 10) (by kernel_rfl) rfl rfl (fun K hK => ?_) (fun K hK => ?_)
      · refine step_append rfl _ _ 22 rfl _ _ _ rfl rfl AR1.out ?_
        refine hK.out _ _ (HQ.out _ AB1.out) (fun hHeld => ?_)
        clear hK K
        try simp only [Act.put, List.setIfInBounds_toArray]
        refine wpAnyZ_one (i := 10) (by kernel_rfl) rfl (fun K hK => ?_)
        go_simp
        refine hK.out _ _ (HQ.out _ AB0.out) (fun hHeld => ?_)
        clear hK K
        try simp only [Act.put, List.setIfInBounds_toArray, List.set_cons_zero, List.set_cons_succ]
        refine wpAnyZ_one (i := 11) (by kernel_rfl) rfl (fun K hK => ?_)
        refine step_append rfl _ _ 22 rfl _ _ _ rfl rfl AR2.out ?_
        refine hK.out _ _ (HQ.out _ AB2.out) (fun hHeld => ?_)
        clear hK K
        try simp only [Act.put, List.setIfInBounds_toArray]
        refine wpAnyZ_one (i := 18) (by kernel_rfl) rfl (fun K hK => ?_)
        refine step_append rfl _ _ 22 rfl _ _ _ rfl rfl AR3.out ?_
        refine hK.out _ _ (HQ.out _ AN3.out.bel) (fun hHeld => ?_)
        clear hK K
        try simp only [Act.put]
        refine wpAnyZ_take (i := 19) (f := 22) (v := ?_) rfl (by kernel_rfl) (by kernel_rfl) (by kernel_rfl) (by kernel_rfl) (by kernel_rfl) (fun _ _ _ h => h) (Or.inl ⟨by rfl, ?_⟩) (by assumption) ?_
        rotate_left
        · intro W hS
          try dsimp only at hS
          try obtain ⟨hs0, hs1⟩ := hS
          go_simp
          try with_reducible rfl
        simp only [Act.put]
        refine wpAnyZ_take (i := 20) (f := 22) (v := ?_) rfl (by kernel_rfl) (by kernel_rfl) (by kernel_rfl) (by kernel_rfl) (by kernel_rfl) (fun _ _ _ h => h) (Or.inl ⟨by rfl, ?_⟩) (by assumption) ?_
        rotate_left
        · intro W hS
          try dsimp only at hS
          try obtain ⟨hs0, hs1⟩ := hS
          go_simp
          try with_reducible rfl
        simp only [Act.put]
        refine wpAnyZ_last (by kernel_rfl) rfl (by kernel_rfl) (fun K hK => ?_)
        go_simp
        refine hK.out _ _ ?_
        clear hK K
        try simp only [Act.put, List.setIfInBounds_toArray, List.set_cons_zero, List.set_cons_succ]
        go_end0
        exact ⟨rfl, AH.out⟩
      · go_simp
        refine hK.out _ _ (HQ.out _ BB0.out) (fun hHeld => ?_)
        clear hK K
        try simp only [Act.put, List.setIfInBounds_toArray, List.set_cons_zero, List.set_cons_succ]
        refine wpAnyZ_one (i := 8) (by kernel_rfl) rfl (fun K hK => ?_)
        refine step_append rfl _ _ 22 rfl _ _ _ rfl rfl BR1.out ?_
        refine hK.out _ _ (HQ.out _ BB1.out) (fun hHeld => ?_)
        clear hK K
        try simp only [Act.put, List.setIfInBounds_toArray]
        refine wpAnyZ_one (i := 11) (by kernel_rfl) rfl (fun K hK => ?_)
        refine step_append rfl _ _ 22 rfl _ _ _ rfl rfl BR2.out ?_
        refine hK.out _ _ (HQ.out _ BB2.out) (fun hHeld => ?_)
        clear hK K
        try simp only [Act.put]
        refine wpAnyZ_one (i := 18) (by kernel_rfl) rfl (fun K hK => ?_)
        refine step_append rfl _ _ 22 rfl _ _ _ rfl rfl BR3.out ?_
        refine hK.out _ _ (HQ.out _ BN3.out.bel) (fun hHeld => ?_)
        clear hK K
        try simp only [Act.put]
        refine wpAnyZ_take (i := 19) (f := 22) (v := ?_) rfl (by kernel_rfl) (by kernel_rfl) (by kernel_rfl) (by kernel_rfl) (by kernel_rfl) (fun _ _ _ h => h) (Or.inl ⟨by rfl, ?_⟩) (by assumption) ?_
        rotate_left
        · intro W hS
          try dsimp only at hS
          try obtain ⟨hs0, hs1⟩ := hS
          go_simp
          try with_reducible rfl
        simp only [Act.put]
        refine wpAnyZ_take (i := 20) (f := 22) (v := ?_) rfl (by kernel_rfl) (by kernel_rfl) (by kernel_rfl) (by kernel_rfl) (by kernel_rfl) (fun _ _ _ h => h) (Or.inl ⟨by rfl, ?_⟩) (by assumption) ?_
        rotate_left
        · intro W hS
          try dsimp only at hS
          try obtain ⟨hs0, hs1⟩ := hS
          go_simp
          try with_reducible rfl
        simp only [Act.put]
        refine wpAnyZ_last (by kernel_rfl) rfl (by kernel_rfl) (fun K hK => ?_)
        go_simp
        refine hK.out _ _ ?_
        clear hK K
        try simp only [Act.put, List.setIfInBounds_toArray, List.set_cons_zero, List.set_cons_succ]
        go_end0
        exact ⟨rfl, BH.out⟩
    · go_simp
      refine hK.out _ _ (HQ.out _ CBF.out) (fun hHeld => ?_)
      clear hK K
      try simp only [Act.put, List.setIfInBounds_toArray, List.set_cons_zero, List.set_cons_succ]
      refine wpAnyZ_one (i := 1) (by kernel_rfl) rfl (fun K hK => ?_)
      go_simp
      refine hK.out _ _ (HQ.out _ CB0.out) (fun hHeld => ?_)
      clear hK K
      try simp only [Act.put, List.setIfInBounds_toArray, List.set_cons_zero, List.set_cons_succ]
      refine wpAnyZ_one (i := 8) (by kernel_rfl) rfl (fun K hK => ?_)
      refine step_append rfl _ _ 22 rfl _ _ _ rfl rfl CR1.out ?_
      refine hK.out _ _ (HQ.out _ CB1.out) (fun hHeld => ?_)
      clear hK K
      try simp only [Act.put, List.setIfInBounds_toArray]
      refine wpAnyZ_one (i := 11) (by kernel_rfl) rfl (fun K hK => ?_)
      refine step_append rfl _ _ 22 rfl _ _ _ rfl rfl CR2.out ?_
      refine hK.out _ _ (HQ.out _ CB2.out) (fun hHeld => ?_)
      clear hK K
      try simp only [Act.put]
      refine wpAnyZ_one (i := 18) (by kernel_rfl) rfl (fun K hK => ?_)
      refine step_append rfl _ _ 22 rfl _ _ _ rfl rfl CR3.out ?_
      refine hK.out _ _ (HQ.out _ CN3.out.bel) (fun hHeld => ?_)
      clear hK K
      try simp only [Act.put]
      refine wpAnyZ_take (i := 19) (f := 22) (v := ?_) rfl (by kernel_rfl) (by kernel_rfl) (by kernel_rfl) (by kernel_rfl) (by kernel_rfl) (fun _ _ _ h => h) (Or.inl ⟨by rfl, ?_⟩) (by assumption) ?_
      rotate_left
      · intro W hS
        try dsimp only at hS
        try obtain ⟨hs0, hs1⟩ := hS
        go_simp
        try with_reducible rfl
      simp only [Act.put]
      refine wpAnyZ_take (i := 20) (f := 22) (v := ?_) rfl (by kernel_rfl) (by kernel_rfl) (by kernel_rfl) (by kernel_rfl) (by kernel_rfl) (fun _ _ _ h => h) (Or.inl ⟨by rfl, ?_⟩) (by assumption) ?_
      rotate_left
      · intro W hS
        try dsimp only at hS
        try obtain ⟨hs0, hs1⟩ := hS
        go_simp
        try with_reducible rfl
      simp only [Act.put]
      refine wpAnyZ_last (by kernel_rfl) rfl (by kernel_rfl) (fun K hK => ?_)
      go_simp
      refine hK.out _ _ ?_
      clear hK K
      try simp only [Act.put, List.setIfInBounds_toArray, List.set_cons_zero, List.set_cons_succ]
      go_end0
      exact ⟨rfl, CH.out⟩

end Go.Proofs.Ytfiacojgddpphaa
