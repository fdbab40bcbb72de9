/-
  The reference's put: what its rows are. Conditions: few files.
  The reference's put. Conditions: the disk lies in memory; it has few files; the file's bytes are few.
  The reference's put at a row of files that is nil. Conditions: the disk lies in memory; it has few files; the file's bytes are few.
  The reference's put at a row of files that is not nil. Conditions: the disk lies in memory; it has few files; the file's bytes are few.
  The reference's put at a row of files that is of whatever length. Conditions: the disk lies in memory; it has few files; the file's bytes are few.
  The reference's drop: its walk. Condition: the disk lies in memory.
  The reference's refuse. Conditions: the disk lies in memory; names are short, bytes few.
  What the walks of the reference's Do share. Conditions: the disk lies in memory; few bytes, few operations.
-/
import Derived.Test.YtacfcfbleogioaaGreatDoorRBaseA
namespace Go.Proofs.YtacfcfbleogioaaGreatDoor
open Go.RowKit Go.Lib Go.Joins

/-- A slice of rows of three cells each: its m rows are these cells. -/
def Src (w : World) (s : Value) (m : Nat) (news : List Value) : Prop :=
  (s = .slice none 0 0 ∧ m = 0 ∧ news = []) ∨ ∃ b c, s = .slice (some b) m c ∧ news.length = m * 3 ∧ ∀ j u, news[j]? = some u → w.cell? (b.add j) = some u

theorem append_src {w W : World} {s : Value} {m : Nat} {news : List Value} (hs : Src w s m news) (hb : Below w.heap.size w W) (h1 : ∀ u ∈ news, u.oneCell' = true) {v : Value} {n : Nat} {xs : List Value} (hown : W.ownsRow 0 63 3 v n xs) (hn : n + m ≤ 2000) :
    ∃ a' c' w', (∀ ty, (Builtin.append_ #[22, 22] ty #[v, s]).run Tryz.prog W = .ok (.slice a' (n + m) c') w') ∧ w'.ownsRow 0 63 3 (.slice a' (n + m) c') (n + m) (xs ++ news) ∧ W.grownBy w' v.ownBlock ∧ ∀ k, (Value.slice a' (n + m) c').ownBlock = some k → v.ownBlock = some k ∨ W.heap.size ≤ k := by
  rcases hs with ⟨rfl, rfl, rfl⟩ | ⟨b, c, rfl, hl, hnews⟩
  · obtain ⟨a', c', rfl⟩ := dv_form2 hown
    exact ⟨a', c', W, append_any_none Tryz.underlying22 info52 hown, by simpa using hown, World.grownBy.refl _ _, fun k e => .inl e⟩
  · obtain ⟨v', w', r, o, g, f⟩ := append_any (m := m) (c := c) (b := b) (news := news) Tryz.underlying22 info52 rfl (by decide) hown hl (fun j u hu => by
      have hc := hnews j u hu
      have hlt : (b.add j).block < w.heap.size := by
        rcases Nat.lt_or_ge (b.add j).block w.heap.size with h' | h'
        · exact h'
        · simp [World.cell?, Array.getElem?_eq_none h'] at hc
      exact (World.cell?_of_block (hb.block _ hlt)).trans hc) h1 (by unfold maxLen; omega) (by omega)
    obtain ⟨a', c', rfl⟩ := dv_form2 o
    exact ⟨a', c', w', r, o, g, f⟩

/-- The part of a row ahead of a place, and from it on. -/
theorem src_take {w : World} {a : Option Addr} {len lc i : Nat} {cells : List Value} (ho : w.ownsRow 0 63 3 (.slice a len lc) len cells) (hi : i ≤ len) : Src w (.slice a i lc) i (cells.take (i * 3)) := by
  have hcl : cells.length = len * 3 := ho.1
  rcases ho.2 with ⟨e1, e0⟩ | ⟨g, cap, cur, e1, _⟩
  · obtain ⟨rfl, rfl, rfl⟩ := Value.slice.inj e1
    obtain rfl : i = 0 := by omega
    exact .inl ⟨rfl, rfl, by simp⟩
  · obtain ⟨rfl, _, rfl⟩ := Value.slice.inj e1
    refine .inr ⟨_, _, rfl, by rw [List.length_take]; omega, fun j u hu => ?_⟩
    have hj : j < i * 3 := by
      have := (List.getElem?_eq_some_iff.1 hu).1
      rw [List.length_take] at this
      omega
    rw [List.getElem?_take_of_lt hj] at hu
    exact ho.cells (g := g) rfl j u hu
theorem src_drop {w : World} {a : Option Addr} {len lc i : Nat} {cells : List Value} (ho : w.ownsRow 0 63 3 (.slice a len lc) len cells) (hi : i ≤ len) (hlc : len ≤ lc) : Src w (.slice (match a with | none => none | some g => if lc = i then some g else some ⟨g.block, i * 3, none⟩) (len - i) (lc - i)) (len - i) (cells.drop (i * 3)) := by
  have hcl : cells.length = len * 3 := ho.1
  rcases ho.2 with ⟨e1, e0⟩ | ⟨g, cap, cur, e1, _⟩
  · obtain ⟨rfl, rfl, rfl⟩ := Value.slice.inj e1
    obtain rfl : i = 0 := by omega
    refine .inl ⟨rfl, rfl, ?_⟩
    have : cells = [] := List.length_eq_zero_iff.1 hcl
    rw [this]; rfl
  · obtain ⟨rfl, _, rfl⟩ := Value.slice.inj e1
    dsimp only
    by_cases hc : lc = i
    · rw [if_pos hc]
      refine .inr ⟨_, _, rfl, by rw [List.length_drop]; omega, fun j u hu => ?_⟩
      have := (List.getElem?_eq_some_iff.1 hu).1
      rw [List.length_drop] at this
      omega
    · rw [if_neg hc]
      refine .inr ⟨_, _, rfl, by rw [List.length_drop]; omega, fun j u hu => ?_⟩
      rw [List.getElem?_drop] at hu
      have := ho.cells (g := g) rfl _ u hu
      rw [Addr.add_mid] at this ⊢
      rw [Nat.zero_add] at this
      exact this

/-- A row of files of its own. -/
structure NewRow (w w' : World) (v : Value) (n : Nat) (cells : List Value) : Prop where
  own : w'.ownsRow 0 63 3 v n cells
  new : ∀ k, v.ownBlock = some k → w.heap.size ≤ k
  bel : Below w.heap.size w w'
theorem NewRow.app {w W : World} {v : Value} {n : Nat} {xs : List Value} (h : NewRow w W v n xs) {w0 : World} (hw0 : Below w0.heap.size w0 W) {s : Value} {m : Nat} {news : List Value} (hs : Src w0 s m news) (h1 : ∀ u ∈ news, u.oneCell' = true) (hn : n + m ≤ 2000) :
    ∃ a' c' w', (∀ ty, (Builtin.append_ #[22, 22] ty #[v, s]).run Tryz.prog W = .ok (.slice a' (n + m) c') w') ∧ NewRow w w' (.slice a' (n + m) c') (n + m) (xs ++ news) ∧ W.grownBy w' v.ownBlock := by
  obtain ⟨a', c', w', r, o, g, f⟩ := append_src hs hw0 h1 h.own hn
  refine ⟨a', c', w', r, ⟨o, fun k e => ?_, ((keeps_below h.bel Non).grown g (fun k e => .inr (h.new k e))).toBelow (Nat.le_refl _) (fun _ h => h.elim)⟩, g⟩
  rcases f k e with h5 | h5
  · exact h.new k h5
  · have := h.bel.size; omega
theorem NewRow.nil {w W : World} (hb : Below w.heap.size w W) : NewRow w (W.alloc (.cells #[] 63)) (.slice (some ⟨W.heap.size, 0, none⟩) 0 0) 0 [] :=
  ⟨World.ownsRow_lit W #[] 0 (Nat.zero_le _) (Nat.zero_le _) rfl, fun k e => by have : W.heap.size = k := Option.some.inj e; have := hb.size; omega, hb.alloc hb.size _⟩
theorem NewRow.alloc {w W : World} {v : Value} {n : Nat} {xs : List Value} (h : NewRow w W v n xs) (o : Obj) : NewRow w (W.alloc o) v n xs :=
  ⟨h.own.alloc _, h.new, h.bel.alloc h.bel.size _⟩

abbrev filO (nm : ByteArray) (a : Option Addr) (ln c : Nat) (z : Int) : Obj := .cells #[.string nm, .slice a ln c, .int .i64 z] 63
theorem src_file {W : World} {nm : ByteArray} {a : Option Addr} {ln c : Nat} {z : Int} : Src (W.alloc (filO nm a ln c z)) (.slice (some ⟨W.heap.size, 0, none⟩) 1 1) 1 [.string nm, .slice a ln c, .int .i64 z] :=
  .inr ⟨_, _, rfl, rfl, news_at⟩
theorem file_one {nm : ByteArray} {a : Option Addr} {ln c : Nat} {z : Int} : ∀ u ∈ [Value.string nm, .slice a ln c, .int .i64 z], u.oneCell' = true := by
  intro u hu; simp at hu; rcases hu with rfl | rfl | rfl <;> rfl

/-- The three rows of put, in the three orders that there are. -/
structure PutRuns (w : World) (s1 s3 : Value) (i m3 : Nat) (nm : ByteArray) (a : Option Addr) (ln c : Nat) (z : Int) (t1 t3 : List Value) : Prop where
  A : ∃ a1 c1 w1 a2 c2 w2 a3 c3 w3, (∀ ty, (Builtin.append_ #[22, 22] ty #[.slice (some ⟨w.heap.size, 0, none⟩) 0 0, s1]).run Tryz.prog (w.alloc (.cells #[] 63)) = .ok (.slice a1 i c1) w1) ∧ Below w.heap.size w w1 ∧ Below w.heap.size w (w1.alloc (filO nm a ln c z)) ∧
    (∀ ty, (Builtin.append_ #[22, 22] ty #[.slice a1 i c1, .slice (some ⟨w1.heap.size, 0, none⟩) 1 1]).run Tryz.prog (w1.alloc (filO nm a ln c z)) = .ok (.slice a2 (i + 1) c2) w2) ∧ Below w.heap.size w w2 ∧
    (∀ ty, (Builtin.append_ #[22, 22] ty #[.slice a2 (i + 1) c2, s3]).run Tryz.prog w2 = .ok (.slice a3 (i + 1 + m3) c3) w3) ∧ NewRow w w3 (.slice a3 (i + 1 + m3) c3) (i + 1 + m3) (t1 ++ [.string nm, .slice a ln c, .int .i64 z] ++ t3)
  B : ∃ a1 c1 w1 a2 c2 w2 a3 c3 w3, Below w.heap.size w ((w.alloc (.cells #[] 63)).alloc (filO nm a ln c z)) ∧ (∀ ty, (Builtin.append_ #[22, 22] ty #[.slice (some ⟨w.heap.size, 0, none⟩) 0 0, s1]).run Tryz.prog ((w.alloc (.cells #[] 63)).alloc (filO nm a ln c z)) = .ok (.slice a1 i c1) w1) ∧ Below w.heap.size w w1 ∧
    (∀ ty, (Builtin.append_ #[22, 22] ty #[.slice a1 i c1, .slice (some ⟨w.heap.size + 1, 0, none⟩) 1 1]).run Tryz.prog w1 = .ok (.slice a2 (i + 1) c2) w2) ∧ Below w.heap.size w w2 ∧
    (∀ ty, (Builtin.append_ #[22, 22] ty #[.slice a2 (i + 1) c2, s3]).run Tryz.prog w2 = .ok (.slice a3 (i + 1 + m3) c3) w3) ∧ NewRow w w3 (.slice a3 (i + 1 + m3) c3) (i + 1 + m3) (t1 ++ [.string nm, .slice a ln c, .int .i64 z] ++ t3)
  C : ∃ a1 c1 w1 a2 c2 w2 a3 c3 w3, Below w.heap.size w (w.alloc (filO nm a ln c z)) ∧ Below w.heap.size w ((w.alloc (filO nm a ln c z)).alloc (.cells #[] 63)) ∧ (∀ ty, (Builtin.append_ #[22, 22] ty #[.slice (some ⟨w.heap.size + 1, 0, none⟩) 0 0, s1]).run Tryz.prog ((w.alloc (filO nm a ln c z)).alloc (.cells #[] 63)) = .ok (.slice a1 i c1) w1) ∧ Below w.heap.size w w1 ∧
    (∀ ty, (Builtin.append_ #[22, 22] ty #[.slice a1 i c1, .slice (some ⟨w.heap.size, 0, none⟩) 1 1]).run Tryz.prog w1 = .ok (.slice a2 (i + 1) c2) w2) ∧ Below w.heap.size w w2 ∧
    (∀ ty, (Builtin.append_ #[22, 22] ty #[.slice a2 (i + 1) c2, s3]).run Tryz.prog w2 = .ok (.slice a3 (i + 1 + m3) c3) w3) ∧ NewRow w w3 (.slice a3 (i + 1 + m3) c3) (i + 1 + m3) (t1 ++ [.string nm, .slice a ln c, .int .i64 z] ++ t3)

theorem size_alloc (w : World) (o : Obj) : (w.alloc o).heap.size = w.heap.size + 1 := by simp
theorem put_runs {w : World} {s1 s3 : Value} {i m3 : Nat} {t1 t3 : List Value} (h1 : Src w s1 i t1) (h3 : Src w s3 m3 t3) (o1 : ∀ u ∈ t1, u.oneCell' = true) (o3 : ∀ u ∈ t3, u.oneCell' = true) (hm : i + 1 + m3 ≤ 2000) (nm : ByteArray) (a : Option Addr) (ln c : Nat) (z : Int) : PutRuns w s1 s3 i m3 nm a ln c z t1 t3 := by
  have hb0 := Below.refl w.heap.size w
  have e0 : (0 : Nat) + i = i := Nat.zero_add i
  refine ⟨?_, ?_, ?_⟩
  · have n0 := NewRow.nil hb0
    obtain ⟨a1, c1, w1, r1, n1, g1⟩ := n0.app n0.bel h1 o1 (by omega)
    rw [e0] at r1 n1
    have hbF : Below w1.heap.size w1 (w1.alloc (filO nm a ln c z)) := (Below.refl _ _).alloc (Nat.le_refl _) _
    have n1' := n1.alloc (filO nm a ln c z)
    obtain ⟨a2, c2, w2, r2, n2, _⟩ := n1'.app (Below.refl _ _) src_file file_one (by omega)
    obtain ⟨a3, c3, w3, r3, n3, _⟩ := n2.app n2.bel h3 o3 (by omega)
    exact ⟨a1, c1, w1, a2, c2, w2, a3, c3, w3, r1, n1.bel, n1'.bel, r2, n2.bel, r3, by simpa using n3⟩
  · have n0 := (NewRow.nil hb0).alloc (filO nm a ln c z)
    obtain ⟨a1, c1, w1, r1, n1, g1⟩ := n0.app n0.bel h1 o1 (by omega)
    rw [e0] at r1 n1
    have hF : Src w1 (.slice (some ⟨w.heap.size + 1, 0, none⟩) 1 1) 1 [.string nm, .slice a ln c, .int .i64 z] := by
      refine .inr ⟨_, _, rfl, rfl, fun j u hu => ?_⟩
      have hx : ((w.alloc (.cells #[] 63)).alloc (filO nm a ln c z)).heap[w.heap.size + 1]? = some (filO nm a ln c z) := by
        rw [← size_alloc w (.cells #[] 63)]
        exact heap_alloc_new _ _
      have hx1 : w1.heap[w.heap.size + 1]? = some (filO nm a ln c z) := (g1.block _ (lt_of_block hx) (fun e => by
        have : w.heap.size + 1 = w.heap.size := Option.some.inj e
        omega)).trans hx
      rw [Addr.add_mid, Nat.zero_add]
      exact (cell_of_block hx1 j).trans (by simpa using hu)
    obtain ⟨a2, c2, w2, r2, n2, _⟩ := n1.app (Below.refl _ _) hF file_one (by omega)
    obtain ⟨a3, c3, w3, r3, n3, _⟩ := n2.app n2.bel h3 o3 (by omega)
    exact ⟨a1, c1, w1, a2, c2, w2, a3, c3, w3, n0.bel, r1, n1.bel, r2, n2.bel, r3, by simpa using n3⟩
  · have hbF : Below w.heap.size w (w.alloc (filO nm a ln c z)) := hb0.alloc (Nat.le_refl _) _
    have n0 := NewRow.nil hbF
    have hsz := size_alloc w (filO nm a ln c z)
    obtain ⟨a1, c1, w1, r1, n1, g1⟩ := n0.app n0.bel h1 o1 (by omega)
    rw [e0] at r1 n1
    rw [hsz] at r1
    have hF : Src w1 (.slice (some ⟨w.heap.size, 0, none⟩) 1 1) 1 [.string nm, .slice a ln c, .int .i64 z] := by
      refine .inr ⟨_, _, rfl, rfl, fun j u hu => ?_⟩
      have hx : (w.alloc (filO nm a ln c z)).heap[w.heap.size]? = some (filO nm a ln c z) := heap_alloc_new _ _
      have hx0 := (Below.heap_alloc (w.alloc (filO nm a ln c z)) (.cells #[] 63) _ (lt_of_block hx)).trans hx
      have hx1 : w1.heap[w.heap.size]? = some (filO nm a ln c z) := (g1.block _ (lt_of_block hx0) (fun e => by
        have : w.heap.size = (w.alloc (filO nm a ln c z)).heap.size := Option.some.inj e
        omega)).trans hx0
      rw [Addr.add_mid, Nat.zero_add]
      exact (cell_of_block hx1 j).trans (by simpa using hu)
    obtain ⟨a2, c2, w2, r2, n2, _⟩ := n1.app (Below.refl _ _) hF file_one (by omega)
    obtain ⟨a3, c3, w3, r3, n3, _⟩ := n2.app n2.bel h3 o3 (by omega)
    exact ⟨a1, c1, w1, a2, c2, w2, a3, c3, w3, hbF, n0.bel, r1, n1.bel, r2, n2.bel, r3, by simpa using n3⟩

/-- Where a file comes. -/
theorem ins_none {f : Fil} {L : List Fil} {i : Nat} (h : ins f L = L.take i ++ ins f (L.drop i)) (hi : L.length ≤ i) : ins f L = L.take i ++ f :: L.drop i := by
  rw [h, List.drop_eq_nil_of_le hi]
  rfl
theorem ins_next {f g : Fil} {L : List Fil} {i : Nat} (h : ins f L = L.take i ++ ins f (L.drop i)) (hg : L[i]? = some g) (hn : nlt g.name f.name = true) : ins f L = L.take (i + 1) ++ ins f (L.drop (i + 1)) := by
  obtain ⟨h1, rfl⟩ := List.getElem?_eq_some_iff.1 hg
  have e2 : ins f (L[i] :: L.drop (i + 1)) = L[i] :: ins f (L.drop (i + 1)) := by
    show (if nlt L[i].name f.name then _ else _) = _
    rw [if_pos hn]
  have e3 : L.take (i + 1) = L.take i ++ [L[i]] := by rw [List.take_succ_eq_append_getElem h1]
  rw [h, List.drop_eq_getElem_cons h1, e2, e3, List.append_assoc]
  rfl
theorem ins_here {f g : Fil} {L : List Fil} {i : Nat} (h : ins f L = L.take i ++ ins f (L.drop i)) (hg : L[i]? = some g) (hn : nlt g.name f.name = false) : ins f L = L.take i ++ f :: L.drop i := by
  obtain ⟨h1, rfl⟩ := List.getElem?_eq_some_iff.1 hg
  have e2 : ins f (L[i] :: L.drop (i + 1)) = f :: L[i] :: L.drop (i + 1) := by
    show (if nlt L[i].name f.name then _ else _) = _
    rw [hn, if_neg (by decide)]
  rw [h, List.drop_eq_getElem_cons h1, e2]

end Go.Proofs.YtacfcfbleogioaaGreatDoor
namespace Go.Proofs.YtacfcfbleogioaaGreatDoor
open Go.RowKit Go.Lib Go.Joins

def RPutOut (w : World) (S : Nat → Prop) (B : Nat) (d' : Dsk) (e : Ending) (w' : World) : Prop := e = .returned (.tuple #[]) ∧ RMoves w S B d' w'

/-- What the row that put made leaves. -/
theorem put_end {w w1 w3 : World} {S : Nat → Prop} {B : Nat} {d : Dsk} {la : Option Addr} {lc : Nat} {ta : Option Addr} {tn tc : Nat} {Sd St : Nat → Prop} (h : RefAt w S B d (.slice la d.L.length lc) ta tn tc Sd St) (hS : ∀ k, S k → k < w.heap.size) (hb1 : Below w.heap.size w w1)
    {cells : List Value} (hfc : FCells w Sd cells (d.L.map toI)) {f : Fil} {da : Option Addr} {dc ln : Nat} (hby : ∀ c ∈ f.data, c < 256) (hln : f.data.length = ln) (ho : w1.ownsRow 0 5 1 (.slice da ln dc) ln (cellsN f.data)) (hnew : ∀ k, (Value.slice da ln dc).ownBlock = some k → w.heap.size ≤ k)
    {i m3 : Nat} (hi : i + m3 = d.L.length) (hins : ins f d.L = d.L.take i ++ f :: d.L.drop i) {a3 : Option Addr} {c3 : Nat} (hn : NewRow w1 w3 (.slice a3 (i + 1 + m3) c3) (i + 1 + m3) (cells.take (i * 3) ++ [.string f.name, .slice da ln dc, .int .i64 (f.safe : Int)] ++ cells.drop (i * 3))) :
    RMoves w S B { d with L := ins f d.L } (w3.setCell ⟨B, 1, none⟩ (.slice a3 (i + 1 + m3) c3)) := by
  have hb : Below w.heap.size w w3 := below_then hb1 hn.bel
  have hrow := row_of_own hby hln ho
  have hrow3 := hrow.keep (keeps_below hn.bel Non) (fun _ _ h => h)
  have hfc3 := hfc.keep (keeps_below hb Non) (fun _ _ h => h)
  have hlen : (ins f d.L).length = i + 1 + m3 := by rw [len_ins]; omega
  refine h.newRow (Sn := fun k => Sd k ∨ (Value.slice da ln dc).ownBlock = some k) hS hb (by rw [hlen]; exact hn.own) ?_ (fun k e => Nat.le_trans hb1.size (hn.new k e)) (fun k e => ?_)
  · rw [hins, List.map_append, List.map_cons, List.map_take, List.map_drop]
    have e : FCells w3 (fun k => Sd k ∨ (Value.slice da ln dc).ownBlock = some k) [.string f.name, .slice da ln dc, .int .i64 (f.safe : Int)] [toI f] := (FCells.one (f := toI f) (w := w3) hrow3).mono (fun k e => .inr e)
    have e1 := (hfc3.take i).mono (S' := fun k => Sd k ∨ (Value.slice da ln dc).ownBlock = some k) (fun k e => .inl e)
    have e2 := (hfc3.drop i).mono (S' := fun k => Sd k ∨ (Value.slice da ln dc).ownBlock = some k) (fun k e => .inl e)
    have := (e1.app e).app e2
    rw [List.append_assoc (List.take i (List.map toI d.L)), List.singleton_append] at this
    exact this
  · rcases e with e | e
    · exact .inl e
    · have h1 := hnew k e
      have h2 := (ho.lt k e).2
      have := hn.bel.size
      exact .inr ⟨h1, by omega, fun e3 => by have := hn.new k e3; omega⟩

end Go.Proofs.YtacfcfbleogioaaGreatDoor
namespace Go.Proofs.YtacfcfbleogioaaGreatDoor
open Go.RowKit Go.Lib Go.Joins

set_option maxRecDepth 100000 in
set_option maxHeartbeats 16000000 in
theorem rput_none (f : Fil) (fa : Option Addr) (fc : Nat) (w : World) {S Sf : Nat → Prop} {B : Nat} {d : Dsk}  (hd : (∀ k, S k → k < w.heap.size) ∧ ∃ ta tn tc Sd St, RefAt w S B d (.slice none d.L.length 0) ta tn tc Sd St) (hmost : d.L.length ≤ 1000) (hnm : f.name.size ≤ 1099511627776) (hnms : ∀ g ∈ d.L, g.name.size ≤ 1099511627776) (hr : Row w Sf fa f.data) (hc0 : fa = none → fc = 0) (hl : f.data.length ≤ 1073741824) (hby : ∀ c ∈ f.data, c < 256) :
    Calls Tryz.prog 38 #[.pointer (some ⟨B, 0, none⟩), .agg #[.string f.name, .slice fa f.data.length fc, .int .i64 (f.safe : Int)]] w (RPutOut w S B { d with L := ins f d.L }) := by
  obtain ⟨hSlt, ta, tn, tc, Sd, St, h⟩ := hd
  obtain ⟨la', lc', hle, hf, hn0, hlc, hlcm⟩ := h.fils
  obtain ⟨rfl, _, rfl⟩ := Value.slice.inj hle
  obtain ⟨cells, ho, hfc⟩ := h.row
  obtain ⟨ln, hln⟩ : ∃ ln, f.data.length = ln := ⟨_, rfl⟩
  obtain ⟨nm, hnmE⟩ : ∃ nm, f.name = nm := ⟨_, rfl⟩
  obtain ⟨sf, hsf⟩ : ∃ sf : Int, (f.safe : Int) = sf := ⟨_, rfl⟩
  rw [hln] at hl
  rw [hln, hnmE, hsf]
  have hbel1 : Below w.heap.size w (w.alloc (.cells #[.string nm, .slice fa ln fc, .int .i64 sf] 63)) := (Below.refl _ _).alloc (Nat.le_refl _) _
  have hbx : (w.alloc (.cells #[.string nm, .slice fa ln fc, .int .i64 sf] 63)).heap[w.heap.size]? = some (.cells #[.string nm, .slice fa ln fc, .int .i64 sf] 63 (0, 0)) := heap_alloc_new w _
  obtain ⟨W1, hW1⟩ : ∃ W1, w.alloc (.cells #[.string nm, .slice fa ln fc, .int .i64 sf] 63) = W1 := ⟨_, rfl⟩
  rw [hW1] at hbel1 hbx
  have x0 : W1.cell? ⟨w.heap.size, 0, none⟩ = some (.string nm) := (cell_of_block hbx 0).trans rfl
  have hf1 := hf.below hbel1
  have hblk1 := block_below hbel1 h.blk
  have HLESS := Lib.hid (fun (a : ByteArray) (ha : a.size ≤ 1099511627776) (W : World) => rless_calls a nm W ha (by rw [← hnmE]; exact hnm))
  have HNMS := Lib.hid hnms
  have HH := Lib.hid h
  have HO := Lib.hid ho
  have HFC := Lib.hid hfc
  have HSLT := Lib.hid hSlt
  have HLN := Lib.hid hln
  have HNM := Lib.hid hnmE
  have HSF := Lib.hid hsf
  have HR := Lib.hid hr
  have HBYTE := Lib.hid hby
  have HBEL1 := Lib.hid hbel1
  have HBX := Lib.hid hbx
  have HF1 := Lib.hid hf1
  have HINS0 : Hid (ins f d.L = d.L.take 0 ++ ins f (d.L.drop 0)) := Lib.hid rfl
  obtain ⟨n, hn⟩ : ∃ n, d.L.length = n := ⟨_, rfl⟩
  have HN := Lib.hid hn
  obtain rfl : n = 0 := by omega
  rw [hn] at hmost hlc HO
  have bb : W1.cell? ⟨B, 1, none⟩ = some (.slice none 0 0) := by have e : W1.cell? ⟨B, 1, none⟩ = some (.slice none d.L.length 0) := (cell_of_block hblk1 1).trans rfl; rw [hn] at e; exact e
  have HW1 := Lib.hid hW1
  clear hle hf1 hblk1 h ho hfc hSlt hln hnmE hsf hr hby hbel1 hbx hnms hnm hf hn0 hlcm hn hW1
  go_enter Tryz.func38, Tryz.ntmps38
  go_wp2
  rw [HW1.out]
  go_loopg [4] 0 (fun g idx wr => idx = .int .i64 0 ∧ wr = W1)
  case atStart => exact ⟨rfl, rfl⟩
  case round =>
    obtain ⟨rfl, rfl⟩ := hrel
    go_wp2
    go_quiet (fail)
    have HINS : Hid (ins f d.L = d.L.take 0 ++ f :: d.L.drop 0) := Lib.hid (ins_none HINS0.out (by rw [HN.out]; exact Nat.le_refl _))
    clear HINS0
    obtain ⟨Wd, hWd⟩ : ∃ Wd, wr.drewN nq = Wd := ⟨_, rfl⟩
    have hbxd : Wd.heap[w.heap.size]? = some (.cells #[.string nm, .slice fa ln fc, .int .i64 sf] 63 (0, 0)) := by rw [← hWd]; exact HBX.out
    have HBD : Hid (Below w.heap.size w Wd) := Lib.hid (by rw [← hWd]; exact ⟨HBEL1.out.os, HBEL1.out.tape, HBEL1.out.output, HBEL1.out.size, HBEL1.out.block⟩)
    try simp only [hWd]
    clear hWd
    have hbD : Below w.heap.size w Wd := HBD.out
    have hxl : w.heap.size < Wd.heap.size := lt_of_block hbxd
    obtain ⟨v4, w4, hrun4, hown4, hnew4, hbel4⟩ := copy_row (W := Wd) (HR.out.below hbD) hc0 (by rw [HLN.out]; exact hl) (N := Wd.heap.size) rfl
    rw [HLN.out] at hrun4 hown4
    obtain ⟨da, dc, rfl⟩ := dv_form2 hown4
    have hbx4 := block_below hbel4 hbxd
    have e1 : (Wd.alloc (.cells #[] 5)).cell? ⟨w.heap.size, 1, none⟩ = some (.slice fa ln fc) := (cell_of_block ((Below.heap_alloc Wd (.cells #[] 5) w.heap.size hxl).trans hbxd) 1).trans rfl
    have e2 : w4.cell? ⟨w.heap.size, 1, none⟩ = some (.slice fa ln fc) := (cell_of_block hbx4 1).trans rfl
    have k2 := unfrozen_of_block hbx4 1
    have hbx5 := block_setCell (i := 1) hbx4 (.slice da ln dc)
    have hown5 := ownsRow_keep hown4 ((Keeps.refl (One w.heap.size) w4).setCell (p := ⟨w.heap.size, 1, none⟩) (.inl rfl) (.slice da ln dc)) (fun k e hk => by have := hnew4 k e; have : k = w.heap.size := hk; omega)
    have hb5 : Below w.heap.size w (w4.setCell ⟨w.heap.size, 1, none⟩ (.slice da ln dc)) := ((keeps_below (below_then hbD hbel4) (One w.heap.size)).setCell (p := ⟨w.heap.size, 1, none⟩) (.inl rfl) _).toBelow (Nat.le_refl _) (fun k e => Nat.le_of_eq (show k = w.heap.size from e).symm)
    obtain ⟨W5, hW5⟩ : ∃ W5, w4.setCell ⟨w.heap.size, 1, none⟩ (.slice da ln dc) = W5 := ⟨_, rfl⟩
    rw [hW5] at hbx5 hown5 hb5
    have HW5 := hW5
    have HRUN := Lib.hid hrun4
    have hnew5 : ∀ k, (Value.slice da ln dc).ownBlock = some k → w.heap.size ≤ k := fun k e => by have := hnew4 k e; have := hbD.size; omega
    have hbV : Below w.heap.size w W5.drew := ⟨hb5.os, hb5.tape, hb5.output, hb5.size, hb5.block⟩
    have hbxV : W5.drew.heap[w.heap.size]? = some (.cells #[.string nm, .slice da ln dc, .int .i64 sf] 63 (0, 0)) := hbx5
    have hownV : W5.drew.ownsRow 0 5 1 (.slice da ln dc) ln (cellsN f.data) := hown5
    have hrowV := ownsRow_keep HO.out (keeps_below hbV Non) (fun _ _ h => h)
    have hblkV := block_below hbV HH.out.blk
    have hs1 : Src W5.drew (.slice none 0 0) 0 (cells.take (0 * 3)) := by have := src_take hrowV (i := 0) (by omega); simpa [] using this
    have hs3 : Src W5.drew (.slice none 0 0) 0 (cells.drop (0 * 3)) := by have := src_drop hrowV (i := 0) (by omega) (by omega); simpa [] using this
    have hq : ∀ W, Below W5.drew.heap.size W5.drew W → W.cell? ⟨B, 1, none⟩ = some (.slice none 0 0) ∧ W.cell? ⟨w.heap.size, 0, none⟩ = some (.string nm) ∧ W.cell? ⟨w.heap.size, 1, none⟩ = some (.slice da ln dc) ∧ W.cell? ⟨w.heap.size, 2, none⟩ = some (.int .i64 sf) := fun W hb =>
      ⟨(by have e : W.cell? ⟨B, 1, none⟩ = some (.slice none d.L.length 0) := (cell_of_block (block_below hb hblkV) 1).trans rfl; rw [HN.out] at e; exact e), (cell_of_block (block_below hb hbxV) 0).trans rfl, (cell_of_block (block_below hb hbxV) 1).trans rfl, (cell_of_block (block_below hb hbxV) 2).trans rfl⟩
    have hfr : ∀ W, Below W5.drew.heap.size W5.drew W → W.frozen? ⟨B, 1, none⟩ = false := fun W hb => unfrozen_of_block (block_below hb hblkV) 1
    have hend := fun (a3 : Option Addr) (c3 : Nat) (w3 : World) (hn : NewRow W5.drew w3 (.slice a3 (0 + 1 + 0) c3) (0 + 1 + 0) (cells.take (0 * 3) ++ [.string nm, .slice da ln dc, .int .i64 sf] ++ cells.drop (0 * 3))) =>
      put_end HH.out HSLT.out hbV HFC.out HBYTE.out HLN.out hownV hnew5 (i := 0) (m3 := 0) (by rw [HN.out]) HINS.out (a3 := a3) (c3 := c3) (w3 := w3) (by rw [HNM.out, HSF.out]; exact hn)
    obtain ⟨⟨Aa1, Ac1, Aw1, Aa2, Ac2, Aw2, Aa3, Ac3, Aw3, Ar1, Ab1, Ab0, Ar2, Ab2, Ar3, An3⟩, ⟨Ba1, Bc1, Bw1, Ba2, Bc2, Bw2, Ba3, Bc3, Bw3, Bb0, Br1, Bb1, Br2, Bb2, Br3, Bn3⟩, ⟨Ca1, Cc1, Cw1, Ca2, Cc2, Cw2, Ca3, Cc3, Cw3, Cbf, Cb0, Cr1, Cb1, Cr2, Cb2, Cr3, Cn3⟩⟩ := put_runs (w := W5.drew) hs1 hs3 (fun u hu => HFC.out.one' u (List.mem_of_mem_take hu)) (fun u hu => HFC.out.one' u (List.mem_of_mem_drop hu)) (by omega) nm da ln dc sf
    have HQ := Lib.hid hq
    have hbE0 : Below W5.drew.heap.size W5.drew (W5.drew.alloc (.cells #[] 63)) := (Below.refl _ _).alloc (Nat.le_refl _) _
    have AH := Lib.hid (hend Aa3 Ac3 Aw3 An3)
    have AR1 := Lib.hid Ar1
    have AR2 := Lib.hid Ar2
    have AR3 := Lib.hid Ar3
    have AB1 := Lib.hid Ab1
    have AB2 := Lib.hid Ab2
    have AB0 := Lib.hid Ab0
    have AN3 := Lib.hid An3
    have Afr := hfr Aw3 An3.bel
    have BH := Lib.hid (hend Ba3 Bc3 Bw3 Bn3)
    have BR1 := Lib.hid Br1
    have BR2 := Lib.hid Br2
    have BR3 := Lib.hid Br3
    have BB1 := Lib.hid Bb1
    have BB2 := Lib.hid Bb2
    have BB0 := Lib.hid Bb0
    have BN3 := Lib.hid Bn3
    have Bfr := hfr Bw3 Bn3.bel
    have CH := Lib.hid (hend Ca3 Cc3 Cw3 Cn3)
    have CR1 := Lib.hid Cr1
    have CR2 := Lib.hid Cr2
    have CR3 := Lib.hid Cr3
    have CB1 := Lib.hid Cb1
    have CB2 := Lib.hid Cb2
    have CB0 := Lib.hid Cb0
    have CN3 := Lib.hid Cn3
    have Cfr := hfr Cw3 Cn3.bel
    have CBF := Lib.hid Cbf
    have hbE := Lib.hid hbE0
    have hbDD : Below W5.drew.heap.size W5.drew W5.drew := Below.refl _ _
    have HBDD := Lib.hid hbDD
    clear hbDD hbE0 hq hfr hend hs1 hs3 hblkV hrowV hownV hbxV hbV hnew5 hrun4 hown4 hnew4 hbel4 hbx4 hbx5 hown5 hb5 hxl hbD hbxd
    clear Ar1 Ar2 Ar3 Ab0 Ab1 Ab2 An3 Br1 Br2 Br3 Bb0 Bb1 Bb2 Bn3 Cr1 Cr2 Cr3 Cb0 Cb1 Cb2 Cn3 Cbf
    go_wp2_with (at_builtin; refine wpList_step (fun K hK => step_append rfl _ _ 61 rfl _ _ _ rfl rfl HRUN.out (hK _ _ ?_)))
    try simp only [HW5]
    clear HW5 e1 e2 k2
    refine wp_region_z (S := fun W => W.cell? ⟨B, 1, none⟩ = some (.slice none 0 0) ∧ W.cell? ⟨w.heap.size, 0, none⟩ = some (.string nm) ∧ W.cell? ⟨w.heap.size, 1, none⟩ = some (.slice da ln dc) ∧ W.cell? ⟨w.heap.size, 2, none⟩ = some (.int .i64 sf)) 21 (by kernel_rfl) (HQ.out _ HBDD.out) (fun hHeld => ?_)
    refine tkZ 0 22 (v := ?_) rfl ?_ ?_ (by kernel_rfl) (fun _ _ _ h => h) (by rfl) (by assumption)
    rotate_left
    · intro W hS
      try dsimp only at hS
      try obtain ⟨hs0, hs1⟩ := hS
      go_simp
      try with_reducible rfl
    simp only [Act.put, List.setIfInBounds_toArray]
    refine tkZ 2 22 (v := ?_) rfl ?_ ?_ (by kernel_rfl) (fun _ _ _ h => h) (by rfl) (by assumption)
    rotate_left
    · intro W hS
      try dsimp only at hS
      try obtain ⟨hs0, hs1⟩ := hS
      go_simp
      try with_reducible rfl
    simp only [Act.put]
    refine tkZ 3 22 (v := ?_) rfl ?_ ?_ (by kernel_rfl) (fun _ _ _ h => h) (by rfl) (by assumption)
    rotate_left
    · intro W hS
      try dsimp only at hS
      try obtain ⟨hs0, hs1⟩ := hS
      go_simp
      try with_reducible rfl
    simp only [Act.put]
    refine tkZ 4 22 (v := ?_) rfl ?_ ?_ (by kernel_rfl) (fun _ _ _ h => h) (by rfl) (by assumption)
    rotate_left
    · intro W hS
      try dsimp only at hS
      try obtain ⟨hs0, hs1⟩ := hS
      go_simp
      try with_reducible rfl
    simp only [Act.put]
    refine tkZ 5 22 (v := ?_) rfl ?_ ?_ (by kernel_rfl) (fun _ _ _ h => h) (by rfl) (by assumption)
    rotate_left
    · intro W hS
      try dsimp only at hS
      try obtain ⟨hs0, hs1⟩ := hS
      go_simp
      try with_reducible rfl
    simp only [Act.put]
    refine tkZ 6 22 (v := ?_) rfl ?_ ?_ (by kernel_rfl) (fun _ _ _ h => h) (by rfl) (by assumption)
    rotate_left
    · intro W hS
      try dsimp only at hS
      try obtain ⟨hs0, hs1⟩ := hS
      go_simp
      try with_reducible rfl
    simp only [Act.put]
    refine tkZ 7 22 (v := ?_) rfl ?_ ?_ (by kernel_rfl) (fun _ _ _ h => h) (by rfl) (by assumption)
    rotate_left
    · intro W hS
      try dsimp only at hS
      try obtain ⟨hs0, hs1⟩ := hS
      go_simp
      try with_reducible rfl
    simp only [Act.put]
    refine tkZ 9 22 (v := ?_) rfl ?_ ?_ (by kernel_rfl) (fun _ _ _ h => h) (by rfl) (by assumption)
    rotate_left
    · intro W hS
      try dsimp only at hS
      try obtain ⟨hs0, hs1⟩ := hS
      go_simp
      try with_reducible rfl
    simp only [Act.put]
    refine tkZ 12 22 (v := ?_) rfl ?_ ?_ (by kernel_rfl) (fun _ _ _ h => h) (by rfl) (by assumption)
    rotate_left
    · intro W hS
      try dsimp only at hS
      try obtain ⟨hs0, hs1⟩ := hS
      go_simp
      try with_reducible rfl
    simp only [Act.put]
    refine tkZ 13 22 (v := ?_) rfl ?_ ?_ (by kernel_rfl) (fun _ _ _ h => h) (by rfl) (by assumption)
    rotate_left
    · intro W hS
      try dsimp only at hS
      try obtain ⟨hs0, hs1⟩ := hS
      go_simp
      try with_reducible rfl
    simp only [Act.put]
    refine tkZ 14 22 (v := ?_) rfl ?_ ?_ (by kernel_rfl) (fun _ _ _ h => h) (by rfl) (by assumption)
    rotate_left
    · intro W hS
      try dsimp only at hS
      try obtain ⟨hs0, hs1⟩ := hS
      go_simp
      try with_reducible rfl
    simp only [Act.put]
    refine tkZ 15 22 (v := ?_) rfl ?_ ?_ (by kernel_rfl) (fun _ _ _ h => h) (by rfl) (by assumption)
    rotate_left
    · intro W hS
      try dsimp only at hS
      try obtain ⟨hs0, hs1⟩ := hS
      go_simp
      try with_reducible rfl
    simp only [Act.put]
    refine tkZ 16 22 (v := ?_) rfl ?_ ?_ (by kernel_rfl) (fun _ _ _ h => h) (by rfl) (by assumption)
    rotate_left
    · intro W hS
      try dsimp only at hS
      try obtain ⟨hs0, hs1⟩ := hS
      go_simp
      try with_reducible rfl
    simp only [Act.put]
    refine tkZ 17 22 (v := ?_) rfl ?_ ?_ (by kernel_rfl) (fun _ _ _ h => h) (by rfl) (by assumption)
    rotate_left
    · intro W hS
      try dsimp only at hS
      try obtain ⟨hs0, hs1⟩ := hS
      go_simp
      try with_reducible rfl
    simp only [Act.put]
    refine wpAnyZ_two (i := 1) (j := 10) (by kernel_rfl) rfl rfl (fun K hK => ?_) (fun K hK => ?_)
    · go_simp
      refine hK.out _ _ (HQ.out _ hbE.out) (fun hHeld => ?_)
      clear hK K
      try simp only [Act.put, List.setIfInBounds_toArray, List.set_cons_zero, List.set_cons_succ]
      refine wpAnyZ_two (i := 8) (j := 10) (by kernel_rfl) rfl rfl (fun K hK => ?_) (fun K hK => ?_)
      · refine step_append rfl _ _ 22 rfl _ _ _ rfl rfl AR1.out ?_
        refine hK.out _ _ (HQ.out _ AB1.out) (fun hHeld => ?_)
        clear hK K
        try simp only [Act.put, List.setIfInBounds_toArray]
        refine wpAnyZ_one (i := 10) (by kernel_rfl) rfl (fun K hK => ?_)
        go_simp
        refine hK.out _ _ (HQ.out _ AB0.out) (fun hHeld => ?_)
        clear hK K
        try simp only [Act.put, List.setIfInBounds_toArray, List.set_cons_zero, List.set_cons_succ]
        refine wpAnyZ_one (i := 11) (by kernel_rfl) rfl (fun K hK => ?_)
        refine step_append rfl _ _ 22 rfl _ _ _ rfl rfl AR2.out ?_
        refine hK.out _ _ (HQ.out _ AB2.out) (fun hHeld => ?_)
        clear hK K
        try simp only [Act.put, List.setIfInBounds_toArray]
        refine wpAnyZ_one (i := 18) (by kernel_rfl) rfl (fun K hK => ?_)
        refine step_append rfl _ _ 22 rfl _ _ _ rfl rfl AR3.out ?_
        refine hK.out _ _ (HQ.out _ AN3.out.bel) (fun hHeld => ?_)
        clear hK K
        try simp only [Act.put]
        refine tkZ 19 22 (v := ?_) rfl ?_ ?_ (by kernel_rfl) (fun _ _ _ h => h) (by rfl) (by assumption)
        rotate_left
        · intro W hS
          try dsimp only at hS
          try obtain ⟨hs0, hs1⟩ := hS
          go_simp
          try with_reducible rfl
        simp only [Act.put]
        refine tkZ 20 22 (v := ?_) rfl ?_ ?_ (by kernel_rfl) (fun _ _ _ h => h) (by rfl) (by assumption)
        rotate_left
        · intro W hS
          try dsimp only at hS
          try obtain ⟨hs0, hs1⟩ := hS
          go_simp
          try with_reducible rfl
        simp only [Act.put]
        refine wpAnyZ_last (by kernel_rfl) rfl (by kernel_rfl) (fun K hK => ?_)
        go_simp
        refine hK.out _ _ ?_
        clear hK K
        try simp only [Act.put, List.setIfInBounds_toArray, List.set_cons_zero, List.set_cons_succ]
        go_end0
        exact ⟨rfl, AH.out⟩
      · go_simp
        refine hK.out _ _ (HQ.out _ BB0.out) (fun hHeld => ?_)
        clear hK K
        try simp only [Act.put, List.setIfInBounds_toArray, List.set_cons_zero, List.set_cons_succ]
        refine wpAnyZ_one (i := 8) (by kernel_rfl) rfl (fun K hK => ?_)
        refine step_append rfl _ _ 22 rfl _ _ _ rfl rfl BR1.out ?_
        refine hK.out _ _ (HQ.out _ BB1.out) (fun hHeld => ?_)
        clear hK K
        try simp only [Act.put, List.setIfInBounds_toArray]
        refine wpAnyZ_one (i := 11) (by kernel_rfl) rfl (fun K hK => ?_)
        refine step_append rfl _ _ 22 rfl _ _ _ rfl rfl BR2.out ?_
        refine hK.out _ _ (HQ.out _ BB2.out) (fun hHeld => ?_)
        clear hK K
        try simp only [Act.put]
        refine wpAnyZ_one (i := 18) (by kernel_rfl) rfl (fun K hK => ?_)
        refine step_append rfl _ _ 22 rfl _ _ _ rfl rfl BR3.out ?_
        refine hK.out _ _ (HQ.out _ BN3.out.bel) (fun hHeld => ?_)
        clear hK K
        try simp only [Act.put]
        refine tkZ 19 22 (v := ?_) rfl ?_ ?_ (by kernel_rfl) (fun _ _ _ h => h) (by rfl) (by assumption)
        rotate_left
        · intro W hS
          try dsimp only at hS
          try obtain ⟨hs0, hs1⟩ := hS
          go_simp
          try with_reducible rfl
        simp only [Act.put]
        refine tkZ 20 22 (v := ?_) rfl ?_ ?_ (by kernel_rfl) (fun _ _ _ h => h) (by rfl) (by assumption)
        rotate_left
        · intro W hS
          try dsimp only at hS
          try obtain ⟨hs0, hs1⟩ := hS
          go_simp
          try with_reducible rfl
        simp only [Act.put]
        refine wpAnyZ_last (by kernel_rfl) rfl (by kernel_rfl) (fun K hK => ?_)
        go_simp
        refine hK.out _ _ ?_
        clear hK K
        try simp only [Act.put, List.setIfInBounds_toArray, List.set_cons_zero, List.set_cons_succ]
        go_end0
        exact ⟨rfl, BH.out⟩
    · go_simp
      refine hK.out _ _ (HQ.out _ CBF.out) (fun hHeld => ?_)
      clear hK K
      try simp only [Act.put, List.setIfInBounds_toArray, List.set_cons_zero, List.set_cons_succ]
      refine wpAnyZ_one (i := 1) (by kernel_rfl) rfl (fun K hK => ?_)
      go_simp
      refine hK.out _ _ (HQ.out _ CB0.out) (fun hHeld => ?_)
      clear hK K
      try simp only [Act.put, List.setIfInBounds_toArray, List.set_cons_zero, List.set_cons_succ]
      refine wpAnyZ_one (i := 8) (by kernel_rfl) rfl (fun K hK => ?_)
      refine step_append rfl _ _ 22 rfl _ _ _ rfl rfl CR1.out ?_
      refine hK.out _ _ (HQ.out _ CB1.out) (fun hHeld => ?_)
      clear hK K
      try simp only [Act.put, List.setIfInBounds_toArray]
      refine wpAnyZ_one (i := 11) (by kernel_rfl) rfl (fun K hK => ?_)
      refine step_append rfl _ _ 22 rfl _ _ _ rfl rfl CR2.out ?_
      refine hK.out _ _ (HQ.out _ CB2.out) (fun hHeld => ?_)
      clear hK K
      try simp only [Act.put]
      refine wpAnyZ_one (i := 18) (by kernel_rfl) rfl (fun K hK => ?_)
      refine step_append rfl _ _ 22 rfl _ _ _ rfl rfl CR3.out ?_
      refine hK.out _ _ (HQ.out _ CN3.out.bel) (fun hHeld => ?_)
      clear hK K
      try simp only [Act.put]
      refine tkZ 19 22 (v := ?_) rfl ?_ ?_ (by kernel_rfl) (fun _ _ _ h => h) (by rfl) (by assumption)
      rotate_left
      · intro W hS
        try dsimp only at hS
        try obtain ⟨hs0, hs1⟩ := hS
        go_simp
        try with_reducible rfl
      simp only [Act.put]
      refine tkZ 20 22 (v := ?_) rfl ?_ ?_ (by kernel_rfl) (fun _ _ _ h => h) (by rfl) (by assumption)
      rotate_left
      · intro W hS
        try dsimp only at hS
        try obtain ⟨hs0, hs1⟩ := hS
        go_simp
        try with_reducible rfl
      simp only [Act.put]
      refine wpAnyZ_last (by kernel_rfl) rfl (by kernel_rfl) (fun K hK => ?_)
      go_simp
      refine hK.out _ _ ?_
      clear hK K
      try simp only [Act.put, List.setIfInBounds_toArray, List.set_cons_zero, List.set_cons_succ]
      go_end0
      exact ⟨rfl, CH.out⟩

end Go.Proofs.YtacfcfbleogioaaGreatDoor

namespace Go.Proofs.YtacfcfbleogioaaGreatDoor
open Go.RowKit Go.Lib Go.Joins

set_option maxRecDepth 100000 in
set_option maxHeartbeats 16000000 in
theorem rput_some (f : Fil) (fa : Option Addr) (fc : Nat) (w : World) {S Sf : Nat → Prop} {B : Nat} {d : Dsk} {g lc : Nat} (hd : (∀ k, S k → k < w.heap.size) ∧ ∃ ta tn tc Sd St, RefAt w S B d (.slice (some ⟨g, 0, none⟩) d.L.length lc) ta tn tc Sd St) (hmost : d.L.length ≤ 1000) (hnm : f.name.size ≤ 1099511627776) (hnms : ∀ g ∈ d.L, g.name.size ≤ 1099511627776) (hr : Row w Sf fa f.data) (hc0 : fa = none → fc = 0) (hl : f.data.length ≤ 1073741824) (hby : ∀ c ∈ f.data, c < 256) :
    Calls Tryz.prog 38 #[.pointer (some ⟨B, 0, none⟩), .agg #[.string f.name, .slice fa f.data.length fc, .int .i64 (f.safe : Int)]] w (RPutOut w S B { d with L := ins f d.L }) := by
  obtain ⟨hSlt, ta, tn, tc, Sd, St, h⟩ := hd
  obtain ⟨la', lc', hle, hf, hn0, hlc, hlcm⟩ := h.fils
  obtain ⟨rfl, _, rfl⟩ := Value.slice.inj hle
  obtain ⟨cells, ho, hfc⟩ := h.row
  obtain ⟨ln, hln⟩ : ∃ ln, f.data.length = ln := ⟨_, rfl⟩
  obtain ⟨nm, hnmE⟩ : ∃ nm, f.name = nm := ⟨_, rfl⟩
  obtain ⟨sf, hsf⟩ : ∃ sf : Int, (f.safe : Int) = sf := ⟨_, rfl⟩
  rw [hln] at hl
  rw [hln, hnmE, hsf]
  have hbel1 : Below w.heap.size w (w.alloc (.cells #[.string nm, .slice fa ln fc, .int .i64 sf] 63)) := (Below.refl _ _).alloc (Nat.le_refl _) _
  have hbx : (w.alloc (.cells #[.string nm, .slice fa ln fc, .int .i64 sf] 63)).heap[w.heap.size]? = some (.cells #[.string nm, .slice fa ln fc, .int .i64 sf] 63 (0, 0)) := heap_alloc_new w _
  obtain ⟨W1, hW1⟩ : ∃ W1, w.alloc (.cells #[.string nm, .slice fa ln fc, .int .i64 sf] 63) = W1 := ⟨_, rfl⟩
  rw [hW1] at hbel1 hbx
  have x0 : W1.cell? ⟨w.heap.size, 0, none⟩ = some (.string nm) := (cell_of_block hbx 0).trans rfl
  have hf1 := hf.below hbel1
  have hblk1 := block_below hbel1 h.blk
  have HLESS := Lib.hid (fun (a : ByteArray) (ha : a.size ≤ 1099511627776) (W : World) => rless_calls a nm W ha (by rw [← hnmE]; exact hnm))
  have HNMS := Lib.hid hnms
  have HH := Lib.hid h
  have HO := Lib.hid ho
  have HFC := Lib.hid hfc
  have HSLT := Lib.hid hSlt
  have HLN := Lib.hid hln
  have HNM := Lib.hid hnmE
  have HSF := Lib.hid hsf
  have HR := Lib.hid hr
  have HBYTE := Lib.hid hby
  have HBEL1 := Lib.hid hbel1
  have HBX := Lib.hid hbx
  have HF1 := Lib.hid hf1
  have HINS0 : Hid (ins f d.L = d.L.take 0 ++ ins f (d.L.drop 0)) := Lib.hid rfl
  obtain ⟨n, hn⟩ : ∃ n, d.L.length = n := ⟨_, rfl⟩
  have HN := Lib.hid hn
  rw [hn] at hmost hlc HO
  have bb : W1.cell? ⟨B, 1, none⟩ = some (.slice (some ⟨g, 0, none⟩) n lc) := by have e : W1.cell? ⟨B, 1, none⟩ = some (.slice (some ⟨g, 0, none⟩) d.L.length lc) := (cell_of_block hblk1 1).trans rfl; rw [hn] at e; exact e
  have HW1 := Lib.hid hW1
  clear hle hf1 hblk1 h ho hfc hSlt hln hnmE hsf hr hby hbel1 hbx hnms hnm hf hn0 hlcm hn hW1
  go_enter Tryz.func38, Tryz.ntmps38
  go_wp2
  rw [HW1.out]
  go_loopg [4] n (fun g idx wr => ∃ (i k : Nat), idx = .int .i64 (i : Int) ∧ g + i = n ∧ ins f d.L = d.L.take i ++ ins f (d.L.drop i) ∧ wr = W1.drewN k)
  case atStart => exact ⟨0, 0, rfl, rfl, HINS0.out, rfl⟩
  case round =>
    obtain ⟨i, k, rfl, hg, hins, rfl⟩ := hrel
    have HG := Lib.hid hg
    have HI := Lib.hid hins
    clear hg hins HINS0
    by_cases hlt : i < n
    · have hdd : decide ((i : Int) < (n : Int)) = true := by simp; omega
      obtain ⟨f2, hf2⟩ : ∃ f2, d.L[i]? = some f2 := ⟨d.L[i]'(by rw [HN.out]; exact hlt), List.getElem?_eq_getElem _⟩
      obtain ⟨g', rfl⟩ : ∃ g', gk = g' + 1 := ⟨gk - 1, by have := HG.out; omega⟩
      have hc2 := (HFC.out.at_ i (toI f2) (by rw [List.getElem?_map, hf2]; rfl)).1
      have r0 : W1.cell? ⟨g, i * 3, none⟩ = some (.string f2.name) := (ownsRow_keep HO.out (keeps_below HBEL1.out Non) (fun _ _ h => h)).cellAt (i * 3) (by omega) |>.trans hc2
      have HL := Lib.hid (fun W => HLESS.out f2.name (HNMS.out f2 (List.mem_of_getElem? hf2)) W)
      have HI2 : Hid (nlt f2.name f.name = true → ins f d.L = d.L.take (i + 1) ++ ins f (d.L.drop (i + 1))) := Lib.hid (fun h => ins_next HI.out hf2 h)
      have HI3 : Hid (nlt f2.name f.name = false → ins f d.L = d.L.take i ++ f :: d.L.drop i) := Lib.hid (fun h => ins_here HI.out hf2 h)
      rw [HNM.out] at HI2 HI3
      obtain ⟨n2, hn2⟩ : ∃ n2, f2.name = n2 := ⟨_, rfl⟩
      rw [hn2] at r0 HL HI2 HI3
      clear hf2 hc2 hn2 HI
      cases hb : nlt n2 nm with
      | true =>
        rw [hb] at HL
        have HI4 := Lib.hid (HI2.out hb)
        clear hb
        go_wp2
        go_quiet ((exact quiet_add (HL.out _)))
        go_wp2
        go_roundg g'
        case measure => omega
        case rel => exact ⟨i + 1, _, by go_num, by have := HG.out; omega, HI4.out, rfl⟩
      | false =>
        rw [hb] at HL
        have HINS := Lib.hid (HI3.out hb)
        have hin : i ≤ n := by omega
        have hcl : ¬ lc = i := by omega
        have u4 : (i : Int) ≤ (lc : Int) := by omega
        have u5 : (i : Int) ≤ (n : Int) := by omega
        have u6 : (n : Int) ≤ (lc : Int) := by omega
        have u7 : ¬ lc - i = 0 := by omega
        clear hb
        go_wp2
        go_quiet ((exact quiet_add (HL.out _)))
        clear hdd r0 HL HI2 HI3
        obtain ⟨Wd, hWd⟩ : ∃ Wd, (W1.drewN k).drewN nq = Wd := ⟨_, rfl⟩
        have hbxd : Wd.heap[w.heap.size]? = some (.cells #[.string nm, .slice fa ln fc, .int .i64 sf] 63 (0, 0)) := by rw [← hWd]; exact HBX.out
        have HBD : Hid (Below w.heap.size w Wd) := Lib.hid (by rw [← hWd]; exact ⟨HBEL1.out.os, HBEL1.out.tape, HBEL1.out.output, HBEL1.out.size, HBEL1.out.block⟩)
        try simp only [hWd]
        clear hWd
        have hbD : Below w.heap.size w Wd := HBD.out
        have hxl : w.heap.size < Wd.heap.size := lt_of_block hbxd
        obtain ⟨v4, w4, hrun4, hown4, hnew4, hbel4⟩ := copy_row (W := Wd) (HR.out.below hbD) hc0 (by rw [HLN.out]; exact hl) (N := Wd.heap.size) rfl
        rw [HLN.out] at hrun4 hown4
        obtain ⟨da, dc, rfl⟩ := dv_form2 hown4
        have hbx4 := block_below hbel4 hbxd
        have e1 : (Wd.alloc (.cells #[] 5)).cell? ⟨w.heap.size, 1, none⟩ = some (.slice fa ln fc) := (cell_of_block ((Below.heap_alloc Wd (.cells #[] 5) w.heap.size hxl).trans hbxd) 1).trans rfl
        have e2 : w4.cell? ⟨w.heap.size, 1, none⟩ = some (.slice fa ln fc) := (cell_of_block hbx4 1).trans rfl
        have k2 := unfrozen_of_block hbx4 1
        have hbx5 := block_setCell (i := 1) hbx4 (.slice da ln dc)
        have hown5 := ownsRow_keep hown4 ((Keeps.refl (One w.heap.size) w4).setCell (p := ⟨w.heap.size, 1, none⟩) (.inl rfl) (.slice da ln dc)) (fun k e hk => by have := hnew4 k e; have : k = w.heap.size := hk; omega)
        have hb5 : Below w.heap.size w (w4.setCell ⟨w.heap.size, 1, none⟩ (.slice da ln dc)) := ((keeps_below (below_then hbD hbel4) (One w.heap.size)).setCell (p := ⟨w.heap.size, 1, none⟩) (.inl rfl) _).toBelow (Nat.le_refl _) (fun k e => Nat.le_of_eq (show k = w.heap.size from e).symm)
        obtain ⟨W5, hW5⟩ : ∃ W5, w4.setCell ⟨w.heap.size, 1, none⟩ (.slice da ln dc) = W5 := ⟨_, rfl⟩
        rw [hW5] at hbx5 hown5 hb5
        have HW5 := hW5
        have HRUN := Lib.hid hrun4
        have hnew5 : ∀ k, (Value.slice da ln dc).ownBlock = some k → w.heap.size ≤ k := fun k e => by have := hnew4 k e; have := hbD.size; omega
        have hbV : Below w.heap.size w W5.drew := ⟨hb5.os, hb5.tape, hb5.output, hb5.size, hb5.block⟩
        have hbxV : W5.drew.heap[w.heap.size]? = some (.cells #[.string nm, .slice da ln dc, .int .i64 sf] 63 (0, 0)) := hbx5
        have hownV : W5.drew.ownsRow 0 5 1 (.slice da ln dc) ln (cellsN f.data) := hown5
        have hrowV := ownsRow_keep HO.out (keeps_below hbV Non) (fun _ _ h => h)
        have hblkV := block_below hbV HH.out.blk
        have hs1 : Src W5.drew (.slice (some ⟨g, 0, none⟩) i lc) i (cells.take (i * 3)) := src_take hrowV hin
        have hs3 : Src W5.drew (.slice (some ⟨g, i * 3, none⟩) (n - i) (lc - i)) (n - i) (cells.drop (i * 3)) := by have := src_drop hrowV (i := i) hin hlc; simpa [hcl] using this
        have hq : ∀ W, Below W5.drew.heap.size W5.drew W → W.cell? ⟨B, 1, none⟩ = some (.slice (some ⟨g, 0, none⟩) n lc) ∧ W.cell? ⟨w.heap.size, 0, none⟩ = some (.string nm) ∧ W.cell? ⟨w.heap.size, 1, none⟩ = some (.slice da ln dc) ∧ W.cell? ⟨w.heap.size, 2, none⟩ = some (.int .i64 sf) := fun W hb =>
          ⟨(by have e : W.cell? ⟨B, 1, none⟩ = some (.slice (some ⟨g, 0, none⟩) d.L.length lc) := (cell_of_block (block_below hb hblkV) 1).trans rfl; rw [HN.out] at e; exact e), (cell_of_block (block_below hb hbxV) 0).trans rfl, (cell_of_block (block_below hb hbxV) 1).trans rfl, (cell_of_block (block_below hb hbxV) 2).trans rfl⟩
        have hfr : ∀ W, Below W5.drew.heap.size W5.drew W → W.frozen? ⟨B, 1, none⟩ = false := fun W hb => unfrozen_of_block (block_below hb hblkV) 1
        have hend := fun (a3 : Option Addr) (c3 : Nat) (w3 : World) (hn : NewRow W5.drew w3 (.slice a3 (i + 1 + (n - i)) c3) (i + 1 + (n - i)) (cells.take (i * 3) ++ [.string nm, .slice da ln dc, .int .i64 sf] ++ cells.drop (i * 3))) =>
          put_end HH.out HSLT.out hbV HFC.out HBYTE.out HLN.out hownV hnew5 (i := i) (m3 := (n - i)) (by rw [HN.out]; omega) HINS.out (a3 := a3) (c3 := c3) (w3 := w3) (by rw [HNM.out, HSF.out]; exact hn)
        obtain ⟨⟨Aa1, Ac1, Aw1, Aa2, Ac2, Aw2, Aa3, Ac3, Aw3, Ar1, Ab1, Ab0, Ar2, Ab2, Ar3, An3⟩, ⟨Ba1, Bc1, Bw1, Ba2, Bc2, Bw2, Ba3, Bc3, Bw3, Bb0, Br1, Bb1, Br2, Bb2, Br3, Bn3⟩, ⟨Ca1, Cc1, Cw1, Ca2, Cc2, Cw2, Ca3, Cc3, Cw3, Cbf, Cb0, Cr1, Cb1, Cr2, Cb2, Cr3, Cn3⟩⟩ := put_runs (w := W5.drew) hs1 hs3 (fun u hu => HFC.out.one' u (List.mem_of_mem_take hu)) (fun u hu => HFC.out.one' u (List.mem_of_mem_drop hu)) (by omega) nm da ln dc sf
        have HQ := Lib.hid hq
        have hbE0 : Below W5.drew.heap.size W5.drew (W5.drew.alloc (.cells #[] 63)) := (Below.refl _ _).alloc (Nat.le_refl _) _
        have AH := Lib.hid (hend Aa3 Ac3 Aw3 An3)
        have AR1 := Lib.hid Ar1
        have AR2 := Lib.hid Ar2
        have AR3 := Lib.hid Ar3
        have AB1 := Lib.hid Ab1
        have AB2 := Lib.hid Ab2
        have AB0 := Lib.hid Ab0
        have AN3 := Lib.hid An3
        have Afr := hfr Aw3 An3.bel
        have BH := Lib.hid (hend Ba3 Bc3 Bw3 Bn3)
        have BR1 := Lib.hid Br1
        have BR2 := Lib.hid Br2
        have BR3 := Lib.hid Br3
        have BB1 := Lib.hid Bb1
        have BB2 := Lib.hid Bb2
        have BB0 := Lib.hid Bb0
        have BN3 := Lib.hid Bn3
        have Bfr := hfr Bw3 Bn3.bel
        have CH := Lib.hid (hend Ca3 Cc3 Cw3 Cn3)
        have CR1 := Lib.hid Cr1
        have CR2 := Lib.hid Cr2
        have CR3 := Lib.hid Cr3
        have CB1 := Lib.hid Cb1
        have CB2 := Lib.hid Cb2
        have CB0 := Lib.hid Cb0
        have CN3 := Lib.hid Cn3
        have Cfr := hfr Cw3 Cn3.bel
        have CBF := Lib.hid Cbf
        have hbE := Lib.hid hbE0
        have hbDD : Below W5.drew.heap.size W5.drew W5.drew := Below.refl _ _
        have HBDD := Lib.hid hbDD
        clear hbDD hbE0 hq hfr hend hs1 hs3 hblkV hrowV hownV hbxV hbV hnew5 hrun4 hown4 hnew4 hbel4 hbx4 hbx5 hown5 hb5 hxl hbD hbxd
        clear Ar1 Ar2 Ar3 Ab0 Ab1 Ab2 An3 Br1 Br2 Br3 Bb0 Bb1 Bb2 Bn3 Cr1 Cr2 Cr3 Cb0 Cb1 Cb2 Cn3 Cbf
        go_wp2_with (at_builtin; refine wpList_step (fun K hK => step_append rfl _ _ 61 rfl _ _ _ rfl rfl HRUN.out (hK _ _ ?_)))
        try simp only [HW5]
        clear HW5 e1 e2 k2
        refine wp_region_z (S := fun W => W.cell? ⟨B, 1, none⟩ = some (.slice (some ⟨g, 0, none⟩) n lc) ∧ W.cell? ⟨w.heap.size, 0, none⟩ = some (.string nm) ∧ W.cell? ⟨w.heap.size, 1, none⟩ = some (.slice da ln dc) ∧ W.cell? ⟨w.heap.size, 2, none⟩ = some (.int .i64 sf)) 21 (by kernel_rfl) (HQ.out _ HBDD.out) (fun hHeld => ?_)
        refine tkZ 0 22 (v := ?_) rfl ?_ ?_ (by kernel_rfl) (fun _ _ _ h => h) (by rfl) (by assumption)
        rotate_left
        · intro W hS
          try dsimp only at hS
          try obtain ⟨hs0, hs1⟩ := hS
          go_simp
          try with_reducible rfl
        simp only [Act.put, List.setIfInBounds_toArray]
        refine tkZ 2 22 (v := ?_) rfl ?_ ?_ (by kernel_rfl) (fun _ _ _ h => h) (by rfl) (by assumption)
        rotate_left
        · intro W hS
          try dsimp only at hS
          try obtain ⟨hs0, hs1⟩ := hS
          go_simp
          try with_reducible rfl
        simp only [Act.put]
        refine tkZ 3 22 (v := ?_) rfl ?_ ?_ (by kernel_rfl) (fun _ _ _ h => h) (by rfl) (by assumption)
        rotate_left
        · intro W hS
          try dsimp only at hS
          try obtain ⟨hs0, hs1⟩ := hS
          go_simp
          try with_reducible rfl
        simp only [Act.put]
        refine tkZ 4 22 (v := ?_) rfl ?_ ?_ (by kernel_rfl) (fun _ _ _ h => h) (by rfl) (by assumption)
        rotate_left
        · intro W hS
          try dsimp only at hS
          try obtain ⟨hs0, hs1⟩ := hS
          go_simp
          try with_reducible rfl
        simp only [Act.put]
        refine tkZ 5 22 (v := ?_) rfl ?_ ?_ (by kernel_rfl) (fun _ _ _ h => h) (by rfl) (by assumption)
        rotate_left
        · intro W hS
          try dsimp only at hS
          try obtain ⟨hs0, hs1⟩ := hS
          go_simp
          try with_reducible rfl
        simp only [Act.put]
        refine tkZ 6 22 (v := ?_) rfl ?_ ?_ (by kernel_rfl) (fun _ _ _ h => h) (by rfl) (by assumption)
        rotate_left
        · intro W hS
          try dsimp only at hS
          try obtain ⟨hs0, hs1⟩ := hS
          go_simp
          try with_reducible rfl
        simp only [Act.put]
        refine tkZ 7 22 (v := ?_) rfl ?_ ?_ (by kernel_rfl) (fun _ _ _ h => h) (by rfl) (by assumption)
        rotate_left
        · intro W hS
          try dsimp only at hS
          try obtain ⟨hs0, hs1⟩ := hS
          go_simp
          try with_reducible rfl
        simp only [Act.put]
        refine tkZ 9 22 (v := ?_) rfl ?_ ?_ (by kernel_rfl) (fun _ _ _ h => h) (by rfl) (by assumption)
        rotate_left
        · intro W hS
          try dsimp only at hS
          try obtain ⟨hs0, hs1⟩ := hS
          go_simp
          try with_reducible rfl
        simp only [Act.put]
        refine tkZ 12 22 (v := ?_) rfl ?_ ?_ (by kernel_rfl) (fun _ _ _ h => h) (by rfl) (by assumption)
        rotate_left
        · intro W hS
          try dsimp only at hS
          try obtain ⟨hs0, hs1⟩ := hS
          go_simp
          try with_reducible rfl
        simp only [Act.put]
        refine tkZ 13 22 (v := ?_) rfl ?_ ?_ (by kernel_rfl) (fun _ _ _ h => h) (by rfl) (by assumption)
        rotate_left
        · intro W hS
          try dsimp only at hS
          try obtain ⟨hs0, hs1⟩ := hS
          go_simp
          try with_reducible rfl
        simp only [Act.put]
        refine tkZ 14 22 (v := ?_) rfl ?_ ?_ (by kernel_rfl) (fun _ _ _ h => h) (by rfl) (by assumption)
        rotate_left
        · intro W hS
          try dsimp only at hS
          try obtain ⟨hs0, hs1⟩ := hS
          go_simp
          try with_reducible rfl
        simp only [Act.put]
        refine tkZ 15 22 (v := ?_) rfl ?_ ?_ (by kernel_rfl) (fun _ _ _ h => h) (by rfl) (by assumption)
        rotate_left
        · intro W hS
          try dsimp only at hS
          try obtain ⟨hs0, hs1⟩ := hS
          go_simp
          try with_reducible rfl
        simp only [Act.put]
        refine tkZ 16 22 (v := ?_) rfl ?_ ?_ (by kernel_rfl) (fun _ _ _ h => h) (by rfl) (by assumption)
        rotate_left
        · intro W hS
          try dsimp only at hS
          try obtain ⟨hs0, hs1⟩ := hS
          go_simp
          try with_reducible rfl
        simp only [Act.put]
        refine tkZ 17 22 (v := ?_) rfl ?_ ?_ (by kernel_rfl) (fun _ _ _ h => h) (by rfl) (by assumption)
        rotate_left
        · intro W hS
          try dsimp only at hS
          try obtain ⟨hs0, hs1⟩ := hS
          go_simp
          try with_reducible rfl
        simp only [Act.put]
        refine wpAnyZ_two (i := 1) (j := 10) (by kernel_rfl) rfl rfl (fun K hK => ?_) (fun K hK => ?_)
        · go_simp
          refine hK.out _ _ (HQ.out _ hbE.out) (fun hHeld => ?_)
          clear hK K
          try simp only [Act.put, List.setIfInBounds_toArray, List.set_cons_zero, List.set_cons_succ]
          refine wpAnyZ_two (i := 8) (j := 10) (by kernel_rfl) rfl rfl (fun K hK => ?_) (fun K hK => ?_)
          · refine step_append rfl _ _ 22 rfl _ _ _ rfl rfl AR1.out ?_
            refine hK.out _ _ (HQ.out _ AB1.out) (fun hHeld => ?_)
            clear hK K
            try simp only [Act.put, List.setIfInBounds_toArray]
            refine wpAnyZ_one (i := 10) (by kernel_rfl) rfl (fun K hK => ?_)
            go_simp
            refine hK.out _ _ (HQ.out _ AB0.out) (fun hHeld => ?_)
            clear hK K
            try simp only [Act.put, List.setIfInBounds_toArray, List.set_cons_zero, List.set_cons_succ]
            refine wpAnyZ_one (i := 11) (by kernel_rfl) rfl (fun K hK => ?_)
            refine step_append rfl _ _ 22 rfl _ _ _ rfl rfl AR2.out ?_
            refine hK.out _ _ (HQ.out _ AB2.out) (fun hHeld => ?_)
            clear hK K
            try simp only [Act.put, List.setIfInBounds_toArray]
            refine wpAnyZ_one (i := 18) (by kernel_rfl) rfl (fun K hK => ?_)
            refine step_append rfl _ _ 22 rfl _ _ _ rfl rfl AR3.out ?_
            refine hK.out _ _ (HQ.out _ AN3.out.bel) (fun hHeld => ?_)
            clear hK K
            try simp only [Act.put]
            refine tkZ 19 22 (v := ?_) rfl ?_ ?_ (by kernel_rfl) (fun _ _ _ h => h) (by rfl) (by assumption)
            rotate_left
            · intro W hS
              try dsimp only at hS
              try obtain ⟨hs0, hs1⟩ := hS
              go_simp
              try with_reducible rfl
            simp only [Act.put]
            refine tkZ 20 22 (v := ?_) rfl ?_ ?_ (by kernel_rfl) (fun _ _ _ h => h) (by rfl) (by assumption)
            rotate_left
            · intro W hS
              try dsimp only at hS
              try obtain ⟨hs0, hs1⟩ := hS
              go_simp
              try with_reducible rfl
            simp only [Act.put]
            refine wpAnyZ_last (by kernel_rfl) rfl (by kernel_rfl) (fun K hK => ?_)
            go_simp
            refine hK.out _ _ ?_
            clear hK K
            try simp only [Act.put, List.setIfInBounds_toArray, List.set_cons_zero, List.set_cons_succ]
            go_end0
            exact ⟨rfl, AH.out⟩
          · go_simp
            refine hK.out _ _ (HQ.out _ BB0.out) (fun hHeld => ?_)
            clear hK K
            try simp only [Act.put, List.setIfInBounds_toArray, List.set_cons_zero, List.set_cons_succ]
            refine wpAnyZ_one (i := 8) (by kernel_rfl) rfl (fun K hK => ?_)
            refine step_append rfl _ _ 22 rfl _ _ _ rfl rfl BR1.out ?_
            refine hK.out _ _ (HQ.out _ BB1.out) (fun hHeld => ?_)
            clear hK K
            try simp only [Act.put, List.setIfInBounds_toArray]
            refine wpAnyZ_one (i := 11) (by kernel_rfl) rfl (fun K hK => ?_)
            refine step_append rfl _ _ 22 rfl _ _ _ rfl rfl BR2.out ?_
            refine hK.out _ _ (HQ.out _ BB2.out) (fun hHeld => ?_)
            clear hK K
            try simp only [Act.put]
            refine wpAnyZ_one (i := 18) (by kernel_rfl) rfl (fun K hK => ?_)
            refine step_append rfl _ _ 22 rfl _ _ _ rfl rfl BR3.out ?_
            refine hK.out _ _ (HQ.out _ BN3.out.bel) (fun hHeld => ?_)
            clear hK K
            try simp only [Act.put]
            refine tkZ 19 22 (v := ?_) rfl ?_ ?_ (by kernel_rfl) (fun _ _ _ h => h) (by rfl) (by assumption)
            rotate_left
            · intro W hS
              try dsimp only at hS
              try obtain ⟨hs0, hs1⟩ := hS
              go_simp
              try with_reducible rfl
            simp only [Act.put]
            refine tkZ 20 22 (v := ?_) rfl ?_ ?_ (by kernel_rfl) (fun _ _ _ h => h) (by rfl) (by assumption)
            rotate_left
            · intro W hS
              try dsimp only at hS
              try obtain ⟨hs0, hs1⟩ := hS
              go_simp
              try with_reducible rfl
            simp only [Act.put]
            refine wpAnyZ_last (by kernel_rfl) rfl (by kernel_rfl) (fun K hK => ?_)
            go_simp
            refine hK.out _ _ ?_
            clear hK K
            try simp only [Act.put, List.setIfInBounds_toArray, List.set_cons_zero, List.set_cons_succ]
            go_end0
            exact ⟨rfl, BH.out⟩
        · go_simp
          refine hK.out _ _ (HQ.out _ CBF.out) (fun hHeld => ?_)
          clear hK K
          try simp only [Act.put, List.setIfInBounds_toArray, List.set_cons_zero, List.set_cons_succ]
          refine wpAnyZ_one (i := 1) (by kernel_rfl) rfl (fun K hK => ?_)
          go_simp
          refine hK.out _ _ (HQ.out _ CB0.out) (fun hHeld => ?_)
          clear hK K
          try simp only [Act.put, List.setIfInBounds_toArray, List.set_cons_zero, List.set_cons_succ]
          refine wpAnyZ_one (i := 8) (by kernel_rfl) rfl (fun K hK => ?_)
          refine step_append rfl _ _ 22 rfl _ _ _ rfl rfl CR1.out ?_
          refine hK.out _ _ (HQ.out _ CB1.out) (fun hHeld => ?_)
          clear hK K
          try simp only [Act.put, List.setIfInBounds_toArray]
          refine wpAnyZ_one (i := 11) (by kernel_rfl) rfl (fun K hK => ?_)
          refine step_append rfl _ _ 22 rfl _ _ _ rfl rfl CR2.out ?_
          refine hK.out _ _ (HQ.out _ CB2.out) (fun hHeld => ?_)
          clear hK K
          try simp only [Act.put]
          refine wpAnyZ_one (i := 18) (by kernel_rfl) rfl (fun K hK => ?_)
          refine step_append rfl _ _ 22 rfl _ _ _ rfl rfl CR3.out ?_
          refine hK.out _ _ (HQ.out _ CN3.out.bel) (fun hHeld => ?_)
          clear hK K
          try simp only [Act.put]
          refine tkZ 19 22 (v := ?_) rfl ?_ ?_ (by kernel_rfl) (fun _ _ _ h => h) (by rfl) (by assumption)
          rotate_left
          · intro W hS
            try dsimp only at hS
            try obtain ⟨hs0, hs1⟩ := hS
            go_simp
            try with_reducible rfl
          simp only [Act.put]
          refine tkZ 20 22 (v := ?_) rfl ?_ ?_ (by kernel_rfl) (fun _ _ _ h => h) (by rfl) (by assumption)
          rotate_left
          · intro W hS
            try dsimp only at hS
            try obtain ⟨hs0, hs1⟩ := hS
            go_simp
            try with_reducible rfl
          simp only [Act.put]
          refine wpAnyZ_last (by kernel_rfl) rfl (by kernel_rfl) (fun K hK => ?_)
          go_simp
          refine hK.out _ _ ?_
          clear hK K
          try simp only [Act.put, List.setIfInBounds_toArray, List.set_cons_zero, List.set_cons_succ]
          go_end0
          exact ⟨rfl, CH.out⟩
    · have hdd : decide ((i : Int) < (n : Int)) = false := by simp; omega
      have hie : i = n := by have := HG.out; omega
      have HINS : Hid (ins f d.L = d.L.take i ++ f :: d.L.drop i) := Lib.hid (ins_none HI.out (by rw [HN.out]; omega))
      clear HI
      by_cases hcl : lc = i
      · obtain rfl : lc = i := hcl
        obtain rfl : n = lc := hie.symm
        clear hie
        go_wp2
        go_quiet (fail)
        obtain ⟨Wd, hWd⟩ : ∃ Wd, (W1.drewN k).drewN nq = Wd := ⟨_, rfl⟩
        have hbxd : Wd.heap[w.heap.size]? = some (.cells #[.string nm, .slice fa ln fc, .int .i64 sf] 63 (0, 0)) := by rw [← hWd]; exact HBX.out
        have HBD : Hid (Below w.heap.size w Wd) := Lib.hid (by rw [← hWd]; exact ⟨HBEL1.out.os, HBEL1.out.tape, HBEL1.out.output, HBEL1.out.size, HBEL1.out.block⟩)
        try simp only [hWd]
        clear hWd
        have hbD : Below w.heap.size w Wd := HBD.out
        have hxl : w.heap.size < Wd.heap.size := lt_of_block hbxd
        obtain ⟨v4, w4, hrun4, hown4, hnew4, hbel4⟩ := copy_row (W := Wd) (HR.out.below hbD) hc0 (by rw [HLN.out]; exact hl) (N := Wd.heap.size) rfl
        rw [HLN.out] at hrun4 hown4
        obtain ⟨da, dc, rfl⟩ := dv_form2 hown4
        have hbx4 := block_below hbel4 hbxd
        have e1 : (Wd.alloc (.cells #[] 5)).cell? ⟨w.heap.size, 1, none⟩ = some (.slice fa ln fc) := (cell_of_block ((Below.heap_alloc Wd (.cells #[] 5) w.heap.size hxl).trans hbxd) 1).trans rfl
        have e2 : w4.cell? ⟨w.heap.size, 1, none⟩ = some (.slice fa ln fc) := (cell_of_block hbx4 1).trans rfl
        have k2 := unfrozen_of_block hbx4 1
        have hbx5 := block_setCell (i := 1) hbx4 (.slice da ln dc)
        have hown5 := ownsRow_keep hown4 ((Keeps.refl (One w.heap.size) w4).setCell (p := ⟨w.heap.size, 1, none⟩) (.inl rfl) (.slice da ln dc)) (fun k e hk => by have := hnew4 k e; have : k = w.heap.size := hk; omega)
        have hb5 : Below w.heap.size w (w4.setCell ⟨w.heap.size, 1, none⟩ (.slice da ln dc)) := ((keeps_below (below_then hbD hbel4) (One w.heap.size)).setCell (p := ⟨w.heap.size, 1, none⟩) (.inl rfl) _).toBelow (Nat.le_refl _) (fun k e => Nat.le_of_eq (show k = w.heap.size from e).symm)
        obtain ⟨W5, hW5⟩ : ∃ W5, w4.setCell ⟨w.heap.size, 1, none⟩ (.slice da ln dc) = W5 := ⟨_, rfl⟩
        rw [hW5] at hbx5 hown5 hb5
        have HW5 := hW5
        have HRUN := Lib.hid hrun4
        have hnew5 : ∀ k, (Value.slice da ln dc).ownBlock = some k → w.heap.size ≤ k := fun k e => by have := hnew4 k e; have := hbD.size; omega
        have hbV : Below w.heap.size w W5.drew := ⟨hb5.os, hb5.tape, hb5.output, hb5.size, hb5.block⟩
        have hbxV : W5.drew.heap[w.heap.size]? = some (.cells #[.string nm, .slice da ln dc, .int .i64 sf] 63 (0, 0)) := hbx5
        have hownV : W5.drew.ownsRow 0 5 1 (.slice da ln dc) ln (cellsN f.data) := hown5
        have hrowV := ownsRow_keep HO.out (keeps_below hbV Non) (fun _ _ h => h)
        have hblkV := block_below hbV HH.out.blk
        have hs1 : Src W5.drew (.slice (some ⟨g, 0, none⟩) n n) n (cells.take (n * 3)) := src_take hrowV (Nat.le_refl _)
        have hs3 : Src W5.drew (.slice (some ⟨g, 0, none⟩) 0 0) 0 (cells.drop (n * 3)) := by have := src_drop hrowV (i := n) (Nat.le_refl _) (Nat.le_refl _); simpa using this
        have hq : ∀ W, Below W5.drew.heap.size W5.drew W → W.cell? ⟨B, 1, none⟩ = some (.slice (some ⟨g, 0, none⟩) n n) ∧ W.cell? ⟨w.heap.size, 0, none⟩ = some (.string nm) ∧ W.cell? ⟨w.heap.size, 1, none⟩ = some (.slice da ln dc) ∧ W.cell? ⟨w.heap.size, 2, none⟩ = some (.int .i64 sf) := fun W hb =>
          ⟨(by have e : W.cell? ⟨B, 1, none⟩ = some (.slice (some ⟨g, 0, none⟩) d.L.length n) := (cell_of_block (block_below hb hblkV) 1).trans rfl; rw [HN.out] at e; exact e), (cell_of_block (block_below hb hbxV) 0).trans rfl, (cell_of_block (block_below hb hbxV) 1).trans rfl, (cell_of_block (block_below hb hbxV) 2).trans rfl⟩
        have hfr : ∀ W, Below W5.drew.heap.size W5.drew W → W.frozen? ⟨B, 1, none⟩ = false := fun W hb => unfrozen_of_block (block_below hb hblkV) 1
        have hend := fun (a3 : Option Addr) (c3 : Nat) (w3 : World) (hn : NewRow W5.drew w3 (.slice a3 (n + 1 + 0) c3) (n + 1 + 0) (cells.take (n * 3) ++ [.string nm, .slice da ln dc, .int .i64 sf] ++ cells.drop (n * 3))) =>
          put_end HH.out HSLT.out hbV HFC.out HBYTE.out HLN.out hownV hnew5 (i := n) (m3 := 0) (by rw [HN.out]; omega) HINS.out (a3 := a3) (c3 := c3) (w3 := w3) (by rw [HNM.out, HSF.out]; exact hn)
        obtain ⟨⟨Aa1, Ac1, Aw1, Aa2, Ac2, Aw2, Aa3, Ac3, Aw3, Ar1, Ab1, Ab0, Ar2, Ab2, Ar3, An3⟩, ⟨Ba1, Bc1, Bw1, Ba2, Bc2, Bw2, Ba3, Bc3, Bw3, Bb0, Br1, Bb1, Br2, Bb2, Br3, Bn3⟩, ⟨Ca1, Cc1, Cw1, Ca2, Cc2, Cw2, Ca3, Cc3, Cw3, Cbf, Cb0, Cr1, Cb1, Cr2, Cb2, Cr3, Cn3⟩⟩ := put_runs (w := W5.drew) hs1 hs3 (fun u hu => HFC.out.one' u (List.mem_of_mem_take hu)) (fun u hu => HFC.out.one' u (List.mem_of_mem_drop hu)) (by omega) nm da ln dc sf
        have HQ := Lib.hid hq
        have hbE0 : Below W5.drew.heap.size W5.drew (W5.drew.alloc (.cells #[] 63)) := (Below.refl _ _).alloc (Nat.le_refl _) _
        have AH := Lib.hid (hend Aa3 Ac3 Aw3 An3)
        have AR1 := Lib.hid Ar1
        have AR2 := Lib.hid Ar2
        have AR3 := Lib.hid Ar3
        have AB1 := Lib.hid Ab1
        have AB2 := Lib.hid Ab2
        have AB0 := Lib.hid Ab0
        have AN3 := Lib.hid An3
        have Afr := hfr Aw3 An3.bel
        have BH := Lib.hid (hend Ba3 Bc3 Bw3 Bn3)
        have BR1 := Lib.hid Br1
        have BR2 := Lib.hid Br2
        have BR3 := Lib.hid Br3
        have BB1 := Lib.hid Bb1
        have BB2 := Lib.hid Bb2
        have BB0 := Lib.hid Bb0
        have BN3 := Lib.hid Bn3
        have Bfr := hfr Bw3 Bn3.bel
        have CH := Lib.hid (hend Ca3 Cc3 Cw3 Cn3)
        have CR1 := Lib.hid Cr1
        have CR2 := Lib.hid Cr2
        have CR3 := Lib.hid Cr3
        have CB1 := Lib.hid Cb1
        have CB2 := Lib.hid Cb2
        have CB0 := Lib.hid Cb0
        have CN3 := Lib.hid Cn3
        have Cfr := hfr Cw3 Cn3.bel
        have CBF := Lib.hid Cbf
        have hbE := Lib.hid hbE0
        have hbDD : Below W5.drew.heap.size W5.drew W5.drew := Below.refl _ _
        have HBDD := Lib.hid hbDD
        clear hbDD hbE0 hq hfr hend hs1 hs3 hblkV hrowV hownV hbxV hbV hnew5 hrun4 hown4 hnew4 hbel4 hbx4 hbx5 hown5 hb5 hxl hbD hbxd
        clear Ar1 Ar2 Ar3 Ab0 Ab1 Ab2 An3 Br1 Br2 Br3 Bb0 Bb1 Bb2 Bn3 Cr1 Cr2 Cr3 Cb0 Cb1 Cb2 Cn3 Cbf
        go_wp2_with (at_builtin; refine wpList_step (fun K hK => step_append rfl _ _ 61 rfl _ _ _ rfl rfl HRUN.out (hK _ _ ?_)))
        try simp only [HW5]
        clear HW5 e1 e2 k2
        refine wp_region_z (S := fun W => W.cell? ⟨B, 1, none⟩ = some (.slice (some ⟨g, 0, none⟩) n n) ∧ W.cell? ⟨w.heap.size, 0, none⟩ = some (.string nm) ∧ W.cell? ⟨w.heap.size, 1, none⟩ = some (.slice da ln dc) ∧ W.cell? ⟨w.heap.size, 2, none⟩ = some (.int .i64 sf)) 21 (by kernel_rfl) (HQ.out _ HBDD.out) (fun hHeld => ?_)
        refine tkZ 0 22 (v := ?_) rfl ?_ ?_ (by kernel_rfl) (fun _ _ _ h => h) (by rfl) (by assumption)
        rotate_left
        · intro W hS
          try dsimp only at hS
          try obtain ⟨hs0, hs1⟩ := hS
          go_simp
          try with_reducible rfl
        simp only [Act.put, List.setIfInBounds_toArray]
        refine tkZ 2 22 (v := ?_) rfl ?_ ?_ (by kernel_rfl) (fun _ _ _ h => h) (by rfl) (by assumption)
        rotate_left
        · intro W hS
          try dsimp only at hS
          try obtain ⟨hs0, hs1⟩ := hS
          go_simp
          try with_reducible rfl
        simp only [Act.put]
        refine tkZ 3 22 (v := ?_) rfl ?_ ?_ (by kernel_rfl) (fun _ _ _ h => h) (by rfl) (by assumption)
        rotate_left
        · intro W hS
          try dsimp only at hS
          try obtain ⟨hs0, hs1⟩ := hS
          go_simp
          try with_reducible rfl
        simp only [Act.put]
        refine tkZ 4 22 (v := ?_) rfl ?_ ?_ (by kernel_rfl) (fun _ _ _ h => h) (by rfl) (by assumption)
        rotate_left
        · intro W hS
          try dsimp only at hS
          try obtain ⟨hs0, hs1⟩ := hS
          go_simp
          try with_reducible rfl
        simp only [Act.put]
        refine tkZ 5 22 (v := ?_) rfl ?_ ?_ (by kernel_rfl) (fun _ _ _ h => h) (by rfl) (by assumption)
        rotate_left
        · intro W hS
          try dsimp only at hS
          try obtain ⟨hs0, hs1⟩ := hS
          go_simp
          try with_reducible rfl
        simp only [Act.put]
        refine tkZ 6 22 (v := ?_) rfl ?_ ?_ (by kernel_rfl) (fun _ _ _ h => h) (by rfl) (by assumption)
        rotate_left
        · intro W hS
          try dsimp only at hS
          try obtain ⟨hs0, hs1⟩ := hS
          go_simp
          try with_reducible rfl
        simp only [Act.put]
        refine tkZ 7 22 (v := ?_) rfl ?_ ?_ (by kernel_rfl) (fun _ _ _ h => h) (by rfl) (by assumption)
        rotate_left
        · intro W hS
          try dsimp only at hS
          try obtain ⟨hs0, hs1⟩ := hS
          go_simp
          try with_reducible rfl
        simp only [Act.put]
        refine tkZ 9 22 (v := ?_) rfl ?_ ?_ (by kernel_rfl) (fun _ _ _ h => h) (by rfl) (by assumption)
        rotate_left
        · intro W hS
          try dsimp only at hS
          try obtain ⟨hs0, hs1⟩ := hS
          go_simp
          try with_reducible rfl
        simp only [Act.put]
        refine tkZ 12 22 (v := ?_) rfl ?_ ?_ (by kernel_rfl) (fun _ _ _ h => h) (by rfl) (by assumption)
        rotate_left
        · intro W hS
          try dsimp only at hS
          try obtain ⟨hs0, hs1⟩ := hS
          go_simp
          try with_reducible rfl
        simp only [Act.put]
        refine tkZ 13 22 (v := ?_) rfl ?_ ?_ (by kernel_rfl) (fun _ _ _ h => h) (by rfl) (by assumption)
        rotate_left
        · intro W hS
          try dsimp only at hS
          try obtain ⟨hs0, hs1⟩ := hS
          go_simp
          try with_reducible rfl
        simp only [Act.put]
        refine tkZ 14 22 (v := ?_) rfl ?_ ?_ (by kernel_rfl) (fun _ _ _ h => h) (by rfl) (by assumption)
        rotate_left
        · intro W hS
          try dsimp only at hS
          try obtain ⟨hs0, hs1⟩ := hS
          go_simp
          try with_reducible rfl
        simp only [Act.put]
        refine tkZ 15 22 (v := ?_) rfl ?_ ?_ (by kernel_rfl) (fun _ _ _ h => h) (by rfl) (by assumption)
        rotate_left
        · intro W hS
          try dsimp only at hS
          try obtain ⟨hs0, hs1⟩ := hS
          go_simp
          try with_reducible rfl
        simp only [Act.put]
        refine tkZ 16 22 (v := ?_) rfl ?_ ?_ (by kernel_rfl) (fun _ _ _ h => h) (by rfl) (by assumption)
        rotate_left
        · intro W hS
          try dsimp only at hS
          try obtain ⟨hs0, hs1⟩ := hS
          go_simp
          try with_reducible rfl
        simp only [Act.put]
        refine tkZ 17 22 (v := ?_) rfl ?_ ?_ (by kernel_rfl) (fun _ _ _ h => h) (by rfl) (by assumption)
        rotate_left
        · intro W hS
          try dsimp only at hS
          try obtain ⟨hs0, hs1⟩ := hS
          go_simp
          try with_reducible rfl
        simp only [Act.put]
        refine wpAnyZ_two (i := 1) (j := 10) (by kernel_rfl) rfl rfl (fun K hK => ?_) (fun K hK => ?_)
        · go_simp
          refine hK.out _ _ (HQ.out _ hbE.out) (fun hHeld => ?_)
          clear hK K
          try simp only [Act.put, List.setIfInBounds_toArray, List.set_cons_zero, List.set_cons_succ]
          refine wpAnyZ_two (i := 8) (j := 10) (by kernel_rfl) rfl rfl (fun K hK => ?_) (fun K hK => ?_)
          · refine step_append rfl _ _ 22 rfl _ _ _ rfl rfl AR1.out ?_
            refine hK.out _ _ (HQ.out _ AB1.out) (fun hHeld => ?_)
            clear hK K
            try simp only [Act.put, List.setIfInBounds_toArray]
            refine wpAnyZ_one (i := 10) (by kernel_rfl) rfl (fun K hK => ?_)
            go_simp
            refine hK.out _ _ (HQ.out _ AB0.out) (fun hHeld => ?_)
            clear hK K
            try simp only [Act.put, List.setIfInBounds_toArray, List.set_cons_zero, List.set_cons_succ]
            refine wpAnyZ_one (i := 11) (by kernel_rfl) rfl (fun K hK => ?_)
            refine step_append rfl _ _ 22 rfl _ _ _ rfl rfl AR2.out ?_
            refine hK.out _ _ (HQ.out _ AB2.out) (fun hHeld => ?_)
            clear hK K
            try simp only [Act.put, List.setIfInBounds_toArray]
            refine wpAnyZ_one (i := 18) (by kernel_rfl) rfl (fun K hK => ?_)
            refine step_append rfl _ _ 22 rfl _ _ _ rfl rfl AR3.out ?_
            refine hK.out _ _ (HQ.out _ AN3.out.bel) (fun hHeld => ?_)
            clear hK K
            try simp only [Act.put]
            refine tkZ 19 22 (v := ?_) rfl ?_ ?_ (by kernel_rfl) (fun _ _ _ h => h) (by rfl) (by assumption)
            rotate_left
            · intro W hS
              try dsimp only at hS
              try obtain ⟨hs0, hs1⟩ := hS
              go_simp
              try with_reducible rfl
            simp only [Act.put]
            refine tkZ 20 22 (v := ?_) rfl ?_ ?_ (by kernel_rfl) (fun _ _ _ h => h) (by rfl) (by assumption)
            rotate_left
            · intro W hS
              try dsimp only at hS
              try obtain ⟨hs0, hs1⟩ := hS
              go_simp
              try with_reducible rfl
            simp only [Act.put]
            refine wpAnyZ_last (by kernel_rfl) rfl (by kernel_rfl) (fun K hK => ?_)
            go_simp
            refine hK.out _ _ ?_
            clear hK K
            try simp only [Act.put, List.setIfInBounds_toArray, List.set_cons_zero, List.set_cons_succ]
            go_end0
            exact ⟨rfl, AH.out⟩
          · go_simp
            refine hK.out _ _ (HQ.out _ BB0.out) (fun hHeld => ?_)
            clear hK K
            try simp only [Act.put, List.setIfInBounds_toArray, List.set_cons_zero, List.set_cons_succ]
            refine wpAnyZ_one (i := 8) (by kernel_rfl) rfl (fun K hK => ?_)
            refine step_append rfl _ _ 22 rfl _ _ _ rfl rfl BR1.out ?_
            refine hK.out _ _ (HQ.out _ BB1.out) (fun hHeld => ?_)
            clear hK K
            try simp only [Act.put, List.setIfInBounds_toArray]
            refine wpAnyZ_one (i := 11) (by kernel_rfl) rfl (fun K hK => ?_)
            refine step_append rfl _ _ 22 rfl _ _ _ rfl rfl BR2.out ?_
            refine hK.out _ _ (HQ.out _ BB2.out) (fun hHeld => ?_)
            clear hK K
            try simp only [Act.put]
            refine wpAnyZ_one (i := 18) (by kernel_rfl) rfl (fun K hK => ?_)
            refine step_append rfl _ _ 22 rfl _ _ _ rfl rfl BR3.out ?_
            refine hK.out _ _ (HQ.out _ BN3.out.bel) (fun hHeld => ?_)
            clear hK K
            try simp only [Act.put]
            refine tkZ 19 22 (v := ?_) rfl ?_ ?_ (by kernel_rfl) (fun _ _ _ h => h) (by rfl) (by assumption)
            rotate_left
            · intro W hS
              try dsimp only at hS
              try obtain ⟨hs0, hs1⟩ := hS
              go_simp
              try with_reducible rfl
            simp only [Act.put]
            refine tkZ 20 22 (v := ?_) rfl ?_ ?_ (by kernel_rfl) (fun _ _ _ h => h) (by rfl) (by assumption)
            rotate_left
            · intro W hS
              try dsimp only at hS
              try obtain ⟨hs0, hs1⟩ := hS
              go_simp
              try with_reducible rfl
            simp only [Act.put]
            refine wpAnyZ_last (by kernel_rfl) rfl (by kernel_rfl) (fun K hK => ?_)
            go_simp
            refine hK.out _ _ ?_
            clear hK K
            try simp only [Act.put, List.setIfInBounds_toArray, List.set_cons_zero, List.set_cons_succ]
            go_end0
            exact ⟨rfl, BH.out⟩
        · go_simp
          refine hK.out _ _ (HQ.out _ CBF.out) (fun hHeld => ?_)
          clear hK K
          try simp only [Act.put, List.setIfInBounds_toArray, List.set_cons_zero, List.set_cons_succ]
          refine wpAnyZ_one (i := 1) (by kernel_rfl) rfl (fun K hK => ?_)
          go_simp
          refine hK.out _ _ (HQ.out _ CB0.out) (fun hHeld => ?_)
          clear hK K
          try simp only [Act.put, List.setIfInBounds_toArray, List.set_cons_zero, List.set_cons_succ]
          refine wpAnyZ_one (i := 8) (by kernel_rfl) rfl (fun K hK => ?_)
          refine step_append rfl _ _ 22 rfl _ _ _ rfl rfl CR1.out ?_
          refine hK.out _ _ (HQ.out _ CB1.out) (fun hHeld => ?_)
          clear hK K
          try simp only [Act.put, List.setIfInBounds_toArray]
          refine wpAnyZ_one (i := 11) (by kernel_rfl) rfl (fun K hK => ?_)
          refine step_append rfl _ _ 22 rfl _ _ _ rfl rfl CR2.out ?_
          refine hK.out _ _ (HQ.out _ CB2.out) (fun hHeld => ?_)
          clear hK K
          try simp only [Act.put]
          refine wpAnyZ_one (i := 18) (by kernel_rfl) rfl (fun K hK => ?_)
          refine step_append rfl _ _ 22 rfl _ _ _ rfl rfl CR3.out ?_
          refine hK.out _ _ (HQ.out _ CN3.out.bel) (fun hHeld => ?_)
          clear hK K
          try simp only [Act.put]
          refine tkZ 19 22 (v := ?_) rfl ?_ ?_ (by kernel_rfl) (fun _ _ _ h => h) (by rfl) (by assumption)
          rotate_left
          · intro W hS
            try dsimp only at hS
            try obtain ⟨hs0, hs1⟩ := hS
            go_simp
            try with_reducible rfl
          simp only [Act.put]
          refine tkZ 20 22 (v := ?_) rfl ?_ ?_ (by kernel_rfl) (fun _ _ _ h => h) (by rfl) (by assumption)
          rotate_left
          · intro W hS
            try dsimp only at hS
            try obtain ⟨hs0, hs1⟩ := hS
            go_simp
            try with_reducible rfl
          simp only [Act.put]
          refine wpAnyZ_last (by kernel_rfl) rfl (by kernel_rfl) (fun K hK => ?_)
          go_simp
          refine hK.out _ _ ?_
          clear hK K
          try simp only [Act.put, List.setIfInBounds_toArray, List.set_cons_zero, List.set_cons_succ]
          go_end0
          exact ⟨rfl, CH.out⟩
      · have hin : i ≤ n := by omega
        have u4 : (i : Int) ≤ (lc : Int) := by omega
        have u5 : (i : Int) ≤ (n : Int) := by omega
        have u6 : (n : Int) ≤ (lc : Int) := by omega
        have u7 : ¬ lc - i = 0 := by omega
        clear hie
        go_wp2
        go_quiet (fail)
        obtain ⟨Wd, hWd⟩ : ∃ Wd, (W1.drewN k).drewN nq = Wd := ⟨_, rfl⟩
        have hbxd : Wd.heap[w.heap.size]? = some (.cells #[.string nm, .slice fa ln fc, .int .i64 sf] 63 (0, 0)) := by rw [← hWd]; exact HBX.out
        have HBD : Hid (Below w.heap.size w Wd) := Lib.hid (by rw [← hWd]; exact ⟨HBEL1.out.os, HBEL1.out.tape, HBEL1.out.output, HBEL1.out.size, HBEL1.out.block⟩)
        try simp only [hWd]
        clear hWd
        have hbD : Below w.heap.size w Wd := HBD.out
        have hxl : w.heap.size < Wd.heap.size := lt_of_block hbxd
        obtain ⟨v4, w4, hrun4, hown4, hnew4, hbel4⟩ := copy_row (W := Wd) (HR.out.below hbD) hc0 (by rw [HLN.out]; exact hl) (N := Wd.heap.size) rfl
        rw [HLN.out] at hrun4 hown4
        obtain ⟨da, dc, rfl⟩ := dv_form2 hown4
        have hbx4 := block_below hbel4 hbxd
        have e1 : (Wd.alloc (.cells #[] 5)).cell? ⟨w.heap.size, 1, none⟩ = some (.slice fa ln fc) := (cell_of_block ((Below.heap_alloc Wd (.cells #[] 5) w.heap.size hxl).trans hbxd) 1).trans rfl
        have e2 : w4.cell? ⟨w.heap.size, 1, none⟩ = some (.slice fa ln fc) := (cell_of_block hbx4 1).trans rfl
        have k2 := unfrozen_of_block hbx4 1
        have hbx5 := block_setCell (i := 1) hbx4 (.slice da ln dc)
        have hown5 := ownsRow_keep hown4 ((Keeps.refl (One w.heap.size) w4).setCell (p := ⟨w.heap.size, 1, none⟩) (.inl rfl) (.slice da ln dc)) (fun k e hk => by have := hnew4 k e; have : k = w.heap.size := hk; omega)
        have hb5 : Below w.heap.size w (w4.setCell ⟨w.heap.size, 1, none⟩ (.slice da ln dc)) := ((keeps_below (below_then hbD hbel4) (One w.heap.size)).setCell (p := ⟨w.heap.size, 1, none⟩) (.inl rfl) _).toBelow (Nat.le_refl _) (fun k e => Nat.le_of_eq (show k = w.heap.size from e).symm)
        obtain ⟨W5, hW5⟩ : ∃ W5, w4.setCell ⟨w.heap.size, 1, none⟩ (.slice da ln dc) = W5 := ⟨_, rfl⟩
        rw [hW5] at hbx5 hown5 hb5
        have HW5 := hW5
        have HRUN := Lib.hid hrun4
        have hnew5 : ∀ k, (Value.slice da ln dc).ownBlock = some k → w.heap.size ≤ k := fun k e => by have := hnew4 k e; have := hbD.size; omega
        have hbV : Below w.heap.size w W5.drew := ⟨hb5.os, hb5.tape, hb5.output, hb5.size, hb5.block⟩
        have hbxV : W5.drew.heap[w.heap.size]? = some (.cells #[.string nm, .slice da ln dc, .int .i64 sf] 63 (0, 0)) := hbx5
        have hownV : W5.drew.ownsRow 0 5 1 (.slice da ln dc) ln (cellsN f.data) := hown5
        have hrowV := ownsRow_keep HO.out (keeps_below hbV Non) (fun _ _ h => h)
        have hblkV := block_below hbV HH.out.blk
        have hs1 : Src W5.drew (.slice (some ⟨g, 0, none⟩) i lc) i (cells.take (i * 3)) := src_take hrowV hin
        have hs3 : Src W5.drew (.slice (some ⟨g, i * 3, none⟩) (n - i) (lc - i)) (n - i) (cells.drop (i * 3)) := by have := src_drop hrowV (i := i) hin hlc; simpa [hcl] using this
        have hq : ∀ W, Below W5.drew.heap.size W5.drew W → W.cell? ⟨B, 1, none⟩ = some (.slice (some ⟨g, 0, none⟩) n lc) ∧ W.cell? ⟨w.heap.size, 0, none⟩ = some (.string nm) ∧ W.cell? ⟨w.heap.size, 1, none⟩ = some (.slice da ln dc) ∧ W.cell? ⟨w.heap.size, 2, none⟩ = some (.int .i64 sf) := fun W hb =>
          ⟨(by have e : W.cell? ⟨B, 1, none⟩ = some (.slice (some ⟨g, 0, none⟩) d.L.length lc) := (cell_of_block (block_below hb hblkV) 1).trans rfl; rw [HN.out] at e; exact e), (cell_of_block (block_below hb hbxV) 0).trans rfl, (cell_of_block (block_below hb hbxV) 1).trans rfl, (cell_of_block (block_below hb hbxV) 2).trans rfl⟩
        have hfr : ∀ W, Below W5.drew.heap.size W5.drew W → W.frozen? ⟨B, 1, none⟩ = false := fun W hb => unfrozen_of_block (block_below hb hblkV) 1
        have hend := fun (a3 : Option Addr) (c3 : Nat) (w3 : World) (hn : NewRow W5.drew w3 (.slice a3 (i + 1 + (n - i)) c3) (i + 1 + (n - i)) (cells.take (i * 3) ++ [.string nm, .slice da ln dc, .int .i64 sf] ++ cells.drop (i * 3))) =>
          put_end HH.out HSLT.out hbV HFC.out HBYTE.out HLN.out hownV hnew5 (i := i) (m3 := (n - i)) (by rw [HN.out]; omega) HINS.out (a3 := a3) (c3 := c3) (w3 := w3) (by rw [HNM.out, HSF.out]; exact hn)
        obtain ⟨⟨Aa1, Ac1, Aw1, Aa2, Ac2, Aw2, Aa3, Ac3, Aw3, Ar1, Ab1, Ab0, Ar2, Ab2, Ar3, An3⟩, ⟨Ba1, Bc1, Bw1, Ba2, Bc2, Bw2, Ba3, Bc3, Bw3, Bb0, Br1, Bb1, Br2, Bb2, Br3, Bn3⟩, ⟨Ca1, Cc1, Cw1, Ca2, Cc2, Cw2, Ca3, Cc3, Cw3, Cbf, Cb0, Cr1, Cb1, Cr2, Cb2, Cr3, Cn3⟩⟩ := put_runs (w := W5.drew) hs1 hs3 (fun u hu => HFC.out.one' u (List.mem_of_mem_take hu)) (fun u hu => HFC.out.one' u (List.mem_of_mem_drop hu)) (by omega) nm da ln dc sf
        have HQ := Lib.hid hq
        have hbE0 : Below W5.drew.heap.size W5.drew (W5.drew.alloc (.cells #[] 63)) := (Below.refl _ _).alloc (Nat.le_refl _) _
        have AH := Lib.hid (hend Aa3 Ac3 Aw3 An3)
        have AR1 := Lib.hid Ar1
        have AR2 := Lib.hid Ar2
        have AR3 := Lib.hid Ar3
        have AB1 := Lib.hid Ab1
        have AB2 := Lib.hid Ab2
        have AB0 := Lib.hid Ab0
        have AN3 := Lib.hid An3
        have Afr := hfr Aw3 An3.bel
        have BH := Lib.hid (hend Ba3 Bc3 Bw3 Bn3)
        have BR1 := Lib.hid Br1
        have BR2 := Lib.hid Br2
        have BR3 := Lib.hid Br3
        have BB1 := Lib.hid Bb1
        have BB2 := Lib.hid Bb2
        have BB0 := Lib.hid Bb0
        have BN3 := Lib.hid Bn3
        have Bfr := hfr Bw3 Bn3.bel
        have CH := Lib.hid (hend Ca3 Cc3 Cw3 Cn3)
        have CR1 := Lib.hid Cr1
        have CR2 := Lib.hid Cr2
        have CR3 := Lib.hid Cr3
        have CB1 := Lib.hid Cb1
        have CB2 := Lib.hid Cb2
        have CB0 := Lib.hid Cb0
        have CN3 := Lib.hid Cn3
        have Cfr := hfr Cw3 Cn3.bel
        have CBF := Lib.hid Cbf
        have hbE := Lib.hid hbE0
        have hbDD : Below W5.drew.heap.size W5.drew W5.drew := Below.refl _ _
        have HBDD := Lib.hid hbDD
        clear hbDD hbE0 hq hfr hend hs1 hs3 hblkV hrowV hownV hbxV hbV hnew5 hrun4 hown4 hnew4 hbel4 hbx4 hbx5 hown5 hb5 hxl hbD hbxd
        clear Ar1 Ar2 Ar3 Ab0 Ab1 Ab2 An3 Br1 Br2 Br3 Bb0 Bb1 Bb2 Bn3 Cr1 Cr2 Cr3 Cb0 Cb1 Cb2 Cn3 Cbf
        go_wp2_with (at_builtin; refine wpList_step (fun K hK => step_append rfl _ _ 61 rfl _ _ _ rfl rfl HRUN.out (hK _ _ ?_)))
        try simp only [HW5]
        clear HW5 e1 e2 k2
        refine wp_region_z (S := fun W => W.cell? ⟨B, 1, none⟩ = some (.slice (some ⟨g, 0, none⟩) n lc) ∧ W.cell? ⟨w.heap.size, 0, none⟩ = some (.string nm) ∧ W.cell? ⟨w.heap.size, 1, none⟩ = some (.slice da ln dc) ∧ W.cell? ⟨w.heap.size, 2, none⟩ = some (.int .i64 sf)) 21 (by kernel_rfl) (HQ.out _ HBDD.out) (fun hHeld => ?_)
        refine tkZ 0 22 (v := ?_) rfl ?_ ?_ (by kernel_rfl) (fun _ _ _ h => h) (by rfl) (by assumption)
        rotate_left
        · intro W hS
          try dsimp only at hS
          try obtain ⟨hs0, hs1⟩ := hS
          go_simp
          try with_reducible rfl
        simp only [Act.put, List.setIfInBounds_toArray]
        refine tkZ 2 22 (v := ?_) rfl ?_ ?_ (by kernel_rfl) (fun _ _ _ h => h) (by rfl) (by assumption)
        rotate_left
        · intro W hS
          try dsimp only at hS
          try obtain ⟨hs0, hs1⟩ := hS
          go_simp
          try with_reducible rfl
        simp only [Act.put]
        refine tkZ 3 22 (v := ?_) rfl ?_ ?_ (by kernel_rfl) (fun _ _ _ h => h) (by rfl) (by assumption)
        rotate_left
        · intro W hS
          try dsimp only at hS
          try obtain ⟨hs0, hs1⟩ := hS
          go_simp
          try with_reducible rfl
        simp only [Act.put]
        refine tkZ 4 22 (v := ?_) rfl ?_ ?_ (by kernel_rfl) (fun _ _ _ h => h) (by rfl) (by assumption)
        rotate_left
        · intro W hS
          try dsimp only at hS
          try obtain ⟨hs0, hs1⟩ := hS
          go_simp
          try with_reducible rfl
        simp only [Act.put]
        refine tkZ 5 22 (v := ?_) rfl ?_ ?_ (by kernel_rfl) (fun _ _ _ h => h) (by rfl) (by assumption)
        rotate_left
        · intro W hS
          try dsimp only at hS
          try obtain ⟨hs0, hs1⟩ := hS
          go_simp
          try with_reducible rfl
        simp only [Act.put]
        refine tkZ 6 22 (v := ?_) rfl ?_ ?_ (by kernel_rfl) (fun _ _ _ h => h) (by rfl) (by assumption)
        rotate_left
        · intro W hS
          try dsimp only at hS
          try obtain ⟨hs0, hs1⟩ := hS
          go_simp
          try with_reducible rfl
        simp only [Act.put]
        refine tkZ 7 22 (v := ?_) rfl ?_ ?_ (by kernel_rfl) (fun _ _ _ h => h) (by rfl) (by assumption)
        rotate_left
        · intro W hS
          try dsimp only at hS
          try obtain ⟨hs0, hs1⟩ := hS
          go_simp
          try with_reducible rfl
        simp only [Act.put]
        refine tkZ 9 22 (v := ?_) rfl ?_ ?_ (by kernel_rfl) (fun _ _ _ h => h) (by rfl) (by assumption)
        rotate_left
        · intro W hS
          try dsimp only at hS
          try obtain ⟨hs0, hs1⟩ := hS
          go_simp
          try with_reducible rfl
        simp only [Act.put]
        refine tkZ 12 22 (v := ?_) rfl ?_ ?_ (by kernel_rfl) (fun _ _ _ h => h) (by rfl) (by assumption)
        rotate_left
        · intro W hS
          try dsimp only at hS
          try obtain ⟨hs0, hs1⟩ := hS
          go_simp
          try with_reducible rfl
        simp only [Act.put]
        refine tkZ 13 22 (v := ?_) rfl ?_ ?_ (by kernel_rfl) (fun _ _ _ h => h) (by rfl) (by assumption)
        rotate_left
        · intro W hS
          try dsimp only at hS
          try obtain ⟨hs0, hs1⟩ := hS
          go_simp
          try with_reducible rfl
        simp only [Act.put]
        refine tkZ 14 22 (v := ?_) rfl ?_ ?_ (by kernel_rfl) (fun _ _ _ h => h) (by rfl) (by assumption)
        rotate_left
        · intro W hS
          try dsimp only at hS
          try obtain ⟨hs0, hs1⟩ := hS
          go_simp
          try with_reducible rfl
        simp only [Act.put]
        refine tkZ 15 22 (v := ?_) rfl ?_ ?_ (by kernel_rfl) (fun _ _ _ h => h) (by rfl) (by assumption)
        rotate_left
        · intro W hS
          try dsimp only at hS
          try obtain ⟨hs0, hs1⟩ := hS
          go_simp
          try with_reducible rfl
        simp only [Act.put]
        refine tkZ 16 22 (v := ?_) rfl ?_ ?_ (by kernel_rfl) (fun _ _ _ h => h) (by rfl) (by assumption)
        rotate_left
        · intro W hS
          try dsimp only at hS
          try obtain ⟨hs0, hs1⟩ := hS
          go_simp
          try with_reducible rfl
        simp only [Act.put]
        refine tkZ 17 22 (v := ?_) rfl ?_ ?_ (by kernel_rfl) (fun _ _ _ h => h) (by rfl) (by assumption)
        rotate_left
        · intro W hS
          try dsimp only at hS
          try obtain ⟨hs0, hs1⟩ := hS
          go_simp
          try with_reducible rfl
        simp only [Act.put]
        refine wpAnyZ_two (i := 1) (j := 10) (by kernel_rfl) rfl rfl (fun K hK => ?_) (fun K hK => ?_)
        · go_simp
          refine hK.out _ _ (HQ.out _ hbE.out) (fun hHeld => ?_)
          clear hK K
          try simp only [Act.put, List.setIfInBounds_toArray, List.set_cons_zero, List.set_cons_succ]
          refine wpAnyZ_two (i := 8) (j := 10) (by kernel_rfl) rfl rfl (fun K hK => ?_) (fun K hK => ?_)
          · refine step_append rfl _ _ 22 rfl _ _ _ rfl rfl AR1.out ?_
            refine hK.out _ _ (HQ.out _ AB1.out) (fun hHeld => ?_)
            clear hK K
            try simp only [Act.put, List.setIfInBounds_toArray]
            refine wpAnyZ_one (i := 10) (by kernel_rfl) rfl (fun K hK => ?_)
            go_simp
            refine hK.out _ _ (HQ.out _ AB0.out) (fun hHeld => ?_)
            clear hK K
            try simp only [Act.put, List.setIfInBounds_toArray, List.set_cons_zero, List.set_cons_succ]
            refine wpAnyZ_one (i := 11) (by kernel_rfl) rfl (fun K hK => ?_)
            refine step_append rfl _ _ 22 rfl _ _ _ rfl rfl AR2.out ?_
            refine hK.out _ _ (HQ.out _ AB2.out) (fun hHeld => ?_)
            clear hK K
            try simp only [Act.put, List.setIfInBounds_toArray]
            refine wpAnyZ_one (i := 18) (by kernel_rfl) rfl (fun K hK => ?_)
            refine step_append rfl _ _ 22 rfl _ _ _ rfl rfl AR3.out ?_
            refine hK.out _ _ (HQ.out _ AN3.out.bel) (fun hHeld => ?_)
            clear hK K
            try simp only [Act.put]
            refine tkZ 19 22 (v := ?_) rfl ?_ ?_ (by kernel_rfl) (fun _ _ _ h => h) (by rfl) (by assumption)
            rotate_left
            · intro W hS
              try dsimp only at hS
              try obtain ⟨hs0, hs1⟩ := hS
              go_simp
              try with_reducible rfl
            simp only [Act.put]
            refine tkZ 20 22 (v := ?_) rfl ?_ ?_ (by kernel_rfl) (fun _ _ _ h => h) (by rfl) (by assumption)
            rotate_left
            · intro W hS
              try dsimp only at hS
              try obtain ⟨hs0, hs1⟩ := hS
              go_simp
              try with_reducible rfl
            simp only [Act.put]
            refine wpAnyZ_last (by kernel_rfl) rfl (by kernel_rfl) (fun K hK => ?_)
            go_simp
            refine hK.out _ _ ?_
            clear hK K
            try simp only [Act.put, List.setIfInBounds_toArray, List.set_cons_zero, List.set_cons_succ]
            go_end0
            exact ⟨rfl, AH.out⟩
          · go_simp
            refine hK.out _ _ (HQ.out _ BB0.out) (fun hHeld => ?_)
            clear hK K
            try simp only [Act.put, List.setIfInBounds_toArray, List.set_cons_zero, List.set_cons_succ]
            refine wpAnyZ_one (i := 8) (by kernel_rfl) rfl (fun K hK => ?_)
            refine step_append rfl _ _ 22 rfl _ _ _ rfl rfl BR1.out ?_
            refine hK.out _ _ (HQ.out _ BB1.out) (fun hHeld => ?_)
            clear hK K
            try simp only [Act.put, List.setIfInBounds_toArray]
            refine wpAnyZ_one (i := 11) (by kernel_rfl) rfl (fun K hK => ?_)
            refine step_append rfl _ _ 22 rfl _ _ _ rfl rfl BR2.out ?_
            refine hK.out _ _ (HQ.out _ BB2.out) (fun hHeld => ?_)
            clear hK K
            try simp only [Act.put]
            refine wpAnyZ_one (i := 18) (by kernel_rfl) rfl (fun K hK => ?_)
            refine step_append rfl _ _ 22 rfl _ _ _ rfl rfl BR3.out ?_
            refine hK.out _ _ (HQ.out _ BN3.out.bel) (fun hHeld => ?_)
            clear hK K
            try simp only [Act.put]
            refine tkZ 19 22 (v := ?_) rfl ?_ ?_ (by kernel_rfl) (fun _ _ _ h => h) (by rfl) (by assumption)
            rotate_left
            · intro W hS
              try dsimp only at hS
              try obtain ⟨hs0, hs1⟩ := hS
              go_simp
              try with_reducible rfl
            simp only [Act.put]
            refine tkZ 20 22 (v := ?_) rfl ?_ ?_ (by kernel_rfl) (fun _ _ _ h => h) (by rfl) (by assumption)
            rotate_left
            · intro W hS
              try dsimp only at hS
              try obtain ⟨hs0, hs1⟩ := hS
              go_simp
              try with_reducible rfl
            simp only [Act.put]
            refine wpAnyZ_last (by kernel_rfl) rfl (by kernel_rfl) (fun K hK => ?_)
            go_simp
            refine hK.out _ _ ?_
            clear hK K
            try simp only [Act.put, List.setIfInBounds_toArray, List.set_cons_zero, List.set_cons_succ]
            go_end0
            exact ⟨rfl, BH.out⟩
        · go_simp
          refine hK.out _ _ (HQ.out _ CBF.out) (fun hHeld => ?_)
          clear hK K
          try simp only [Act.put, List.setIfInBounds_toArray, List.set_cons_zero, List.set_cons_succ]
          refine wpAnyZ_one (i := 1) (by kernel_rfl) rfl (fun K hK => ?_)
          go_simp
          refine hK.out _ _ (HQ.out _ CB0.out) (fun hHeld => ?_)
          clear hK K
          try simp only [Act.put, List.setIfInBounds_toArray, List.set_cons_zero, List.set_cons_succ]
          refine wpAnyZ_one (i := 8) (by kernel_rfl) rfl (fun K hK => ?_)
          refine step_append rfl _ _ 22 rfl _ _ _ rfl rfl CR1.out ?_
          refine hK.out _ _ (HQ.out _ CB1.out) (fun hHeld => ?_)
          clear hK K
          try simp only [Act.put, List.setIfInBounds_toArray]
          refine wpAnyZ_one (i := 11) (by kernel_rfl) rfl (fun K hK => ?_)
          refine step_append rfl _ _ 22 rfl _ _ _ rfl rfl CR2.out ?_
          refine hK.out _ _ (HQ.out _ CB2.out) (fun hHeld => ?_)
          clear hK K
          try simp only [Act.put]
          refine wpAnyZ_one (i := 18) (by kernel_rfl) rfl (fun K hK => ?_)
          refine step_append rfl _ _ 22 rfl _ _ _ rfl rfl CR3.out ?_
          refine hK.out _ _ (HQ.out _ CN3.out.bel) (fun hHeld => ?_)
          clear hK K
          try simp only [Act.put]
          refine tkZ 19 22 (v := ?_) rfl ?_ ?_ (by kernel_rfl) (fun _ _ _ h => h) (by rfl) (by assumption)
          rotate_left
          · intro W hS
            try dsimp only at hS
            try obtain ⟨hs0, hs1⟩ := hS
            go_simp
            try with_reducible rfl
          simp only [Act.put]
          refine tkZ 20 22 (v := ?_) rfl ?_ ?_ (by kernel_rfl) (fun _ _ _ h => h) (by rfl) (by assumption)
          rotate_left
          · intro W hS
            try dsimp only at hS
            try obtain ⟨hs0, hs1⟩ := hS
            go_simp
            try with_reducible rfl
          simp only [Act.put]
          refine wpAnyZ_last (by kernel_rfl) rfl (by kernel_rfl) (fun K hK => ?_)
          go_simp
          refine hK.out _ _ ?_
          clear hK K
          try simp only [Act.put, List.setIfInBounds_toArray, List.set_cons_zero, List.set_cons_succ]
          go_end0
          exact ⟨rfl, CH.out⟩

end Go.Proofs.YtacfcfbleogioaaGreatDoor
namespace Go.Proofs.YtacfcfbleogioaaGreatDoor
open Go.RowKit Go.Lib Go.Joins

theorem rput_calls (f : Fil) (fa : Option Addr) (fc : Nat) (w : World) {S Sf : Nat → Prop} {B : Nat} {d : Dsk} (hd : RHas w S B d) (hmost : d.L.length ≤ 1000) (hnm : f.name.size ≤ 1099511627776) (hnms : ∀ g ∈ d.L, g.name.size ≤ 1099511627776) (hr : Row w Sf fa f.data) (hc0 : fa = none → fc = 0) (hl : f.data.length ≤ 1073741824) :
    Calls Tryz.prog 38 #[.pointer (some ⟨B, 0, none⟩), .agg #[.string f.name, .slice fa f.data.length fc, .int .i64 (f.safe : Int)]] w (RPutOut w S B { d with L := ins f d.L }) := by
  obtain ⟨hSlt, lv, ta, tn, tc, Sd, St, h⟩ := hd
  obtain ⟨cells, ho, hfc⟩ := h.row
  rcases ho.2 with ⟨e1, e0⟩ | ⟨g, lc, cur, e1, _⟩
  · subst e1
    exact rput_none f fa fc w ⟨hSlt, ta, tn, tc, Sd, St, by rw [e0]; exact h⟩ hmost hnm hnms hr hc0 hl hr.1
  · subst e1
    exact rput_some f fa fc w ⟨hSlt, ta, tn, tc, Sd, St, h⟩ hmost hnm hnms hr hc0 hl hr.1

end Go.Proofs.YtacfcfbleogioaaGreatDoor

namespace Go.Proofs.YtacfcfbleogioaaGreatDoor
open Go.RowKit Go.Lib Go.Joins

set_option maxRecDepth 100000 in
set_option maxHeartbeats 8000000 in
theorem rdrop_calls (s : ByteArray) (w : World) {S : Nat → Prop} {B : Nat} {d : Dsk} (hd : RefD w S B d) : Calls Tryz.prog 106 #[.pointer (some ⟨B, 0, none⟩), .string s] w (RDropOut w S B { d with L := dro s d.L }) := by
  have HAT := Lib.hid (rat_calls s w hd)
  cases hfn : fnd s d.L with
  | none =>
    rw [ixF_none hfn] at HAT
    have H : Hid (RDropT w S B { d with L := dro s d.L } w) := Lib.hid ⟨⟨S, by rw [dro_none hfn]; exact hd, fresh_refl _ _, Keeps.refl _ _⟩, Keeps.refl _ _⟩
    clear hd hfn
    go_enter Tryz.func106, Tryz.ntmps106
    go_wp2_with fail
    with_reducible refine HAT.out.mono ?_
    rintro e w1 ⟨rfl, rfl⟩
    go_wp2
    go_end0
    exact ⟨rfl, H.out⟩
  | some f =>
    obtain ⟨hi, hSlt, lv, ta, tn, tc, Sd, St, h⟩ := hd
    obtain ⟨j, hj, hfj⟩ := ixF_some (i := 0) hfn
    rw [hj, Nat.zero_add] at HAT
    have hjl : j < d.L.length := (List.getElem?_eq_some_iff.1 hfj).1
    have hmost := hi.most
    have hdro := dro_erase hi.srt hfj (fnd_some hfn).2
    have hlen : (dro s d.L).length = d.L.length - 1 := by rw [hdro, List.length_append, List.length_take, List.length_drop]; omega
    obtain ⟨cells, ho, hfc⟩ := h.row
    obtain ⟨g, lc, rfl⟩ : ∃ g lc, lv = .slice (some ⟨g, 0, none⟩) d.L.length lc := by
      rcases ho.2 with ⟨_, e0⟩ | ⟨g, cap, _, e1, _⟩
      · omega
      · exact ⟨g, cap, e1⟩
    have hlc : d.L.length ≤ lc := by
      rcases ho.2 with ⟨e1, _⟩ | ⟨g', cap, cur, e1, _, _, h3, _⟩
      · cases e1
      · obtain ⟨_, _, rfl⟩ := Value.slice.inj e1
        exact h3
    have ho' : w.drew.ownsRow 0 63 3 (.slice (some ⟨g, 0, none⟩) d.L.length lc) d.L.length cells := ho
    have hX : ∃ X : Addr, (X = ⟨g, (j + 1) * 3, none⟩ ∨ d.L.length = j + 1) ∧ X = (if lc = j + 1 then ⟨g, 0, none⟩ else ⟨g, (j + 1) * 3, none⟩) := by
      by_cases hc : lc = j + 1
      · exact ⟨_, .inr (by omega), rfl⟩
      · exact ⟨_, .inl (by rw [if_neg hc]), rfl⟩
    obtain ⟨X, hX1, hX2⟩ := hX
    obtain ⟨a1, c1, w1, a2, c2, w2, r1, r2, o2, n2, bl1, bl2⟩ := drop_rows ho' hfc.one' hjl (by omega) (N := w.heap.size) rfl hX1
    have hfc2 : FCells w2 Sd (cells.take (j * 3) ++ cells.drop ((j + 1) * 3)) ((dro s d.L).map toI) := by
      have hk : FCells w2 Sd cells (d.L.map toI) := hfc.keep (w := w) (w' := w2) (O := Non) ⟨bl2.os, bl2.tape, bl2.output, bl2.size, fun k hk _ => bl2.block k hk⟩ (fun _ _ h => h)
      rw [hdro, List.map_append, List.map_take, List.map_drop]
      exact (hk.take j).app (hk.drop (j + 1))
    have hblw : Below w.heap.size w w2 := ⟨bl2.os, bl2.tape, bl2.output, bl2.size, bl2.block⟩
    have hblw1 : Below w.heap.size w w1 := ⟨bl1.os, bl1.tape, bl1.output, bl1.size, bl1.block⟩
    have H : Hid (RDropT w S B { d with L := dro s d.L } (w2.setCell ⟨B, 1, none⟩ (.slice a2 (d.L.length - 1) c2))) := Lib.hid ⟨(h.newRow hSlt hblw (by rw [hlen]; exact o2) hfc2 n2 (fun k e => .inl e)).turns (inv_dro hi s d.ops d.tr d.down), (keeps_below hblw (One B)).setCell (p := ⟨B, 1, none⟩) (.inl rfl) _⟩
    have hbW0 : Below w.heap.size w (w.drew.alloc (.cells #[] 63)) := ⟨rfl, rfl, rfl, by simp, fun k hk => Below.heap_alloc w.drew _ k hk⟩
    have b0 : w.drew.cell? ⟨B, 1, none⟩ = some (.slice (some ⟨g, 0, none⟩) d.L.length lc) := (cell_of_block h.blk 1).trans rfl
    have b1 : (w.drew.alloc (.cells #[] 63)).cell? ⟨B, 1, none⟩ = some (.slice (some ⟨g, 0, none⟩) d.L.length lc) := (cell_of_block (block_below hbW0 h.blk) 1).trans rfl
    have b2 : w1.cell? ⟨B, 1, none⟩ = some (.slice (some ⟨g, 0, none⟩) d.L.length lc) := (cell_of_block (block_below hblw1 h.blk) 1).trans rfl
    have b3 : w2.cell? ⟨B, 1, none⟩ = some (.slice (some ⟨g, 0, none⟩) d.L.length lc) := (cell_of_block (block_below hblw h.blk) 1).trans rfl
    have f3 := unfrozen_of_block (block_below hblw h.blk) 1
    have HR1 := Lib.hid r1
    have HR2 := Lib.hid r2
    obtain ⟨n, hn⟩ : ∃ n, d.L.length = n := ⟨_, rfl⟩
    rw [hn] at hjl hlc hmost b0 b1 b2 b3 HR2 H
    clear h hi hSlt ho ho' hfc hfc2 hdro hlen hfn hfj hj hX1 o2 n2 bl1 bl2 hblw hblw1 hbW0 r1 r2 hn
    have U1 : Hid (IntKind.i64.wrap ((j : Int) + 1) = (j : Int) + 1) := Lib.hid (IntWalk.i64_in _ ⟨by omega, by omega⟩)
    have u2 : (0 : Int) ≤ (j : Int) + 1 := by omega
    have U3 : Hid (((j : Int) + 1).toNat = j + 1) := Lib.hid (by omega)
    by_cases hc : lc = j + 1
    · rw [if_pos hc] at hX2
      subst hX2
      obtain rfl : n = j + 1 := by omega
      subst hc
      rw [Nat.sub_self, Nat.add_sub_cancel] at HR2
      rw [Nat.add_sub_cancel] at H
      have u4 : (j : Int) ≤ (j : Int) + 1 := by omega
      have u1 := U1.out
      have u3 := U3.out
      clear hjl hlc
      go_enter Tryz.func106, Tryz.ntmps106
      go_wp2_with fail
      with_reducible refine HAT.out.mono ?_
      rintro e wx ⟨rfl, rfl⟩
      go_wp2
      refine wp_region_z (S := fun W => W.cell? ⟨B, 1, none⟩ = some (.slice (some ⟨g, 0, none⟩) (j + 1) (j + 1))) 19 (by kernel_rfl) b0 (fun hHeld => ?_)
      refine tkZ 0 20 (v := ?_) rfl ?_ ?_ (by kernel_rfl) (fun _ _ _ h => h) (by rfl) (by assumption)
      rotate_left
      · intro W hS
        try dsimp only at hS
        try obtain ⟨hs0, hs1⟩ := hS
        go_simp
        try with_reducible rfl
      simp only [Act.put, List.setIfInBounds_toArray]
      refine tkZ 2 20 (v := ?_) rfl ?_ ?_ (by kernel_rfl) (fun _ _ _ h => h) (by rfl) (by assumption)
      rotate_left
      · intro W hS
        try dsimp only at hS
        try obtain ⟨hs0, hs1⟩ := hS
        go_simp
        try with_reducible rfl
      simp only [Act.put]
      refine tkZ 3 20 (v := ?_) rfl ?_ ?_ (by kernel_rfl) (fun _ _ _ h => h) (by rfl) (by assumption)
      rotate_left
      · intro W hS
        try dsimp only at hS
        try obtain ⟨hs0, hs1⟩ := hS
        go_simp
        try with_reducible rfl
      simp only [Act.put]
      refine tkZ 4 20 (v := ?_) rfl ?_ ?_ (by kernel_rfl) (fun _ _ _ h => h) (by rfl) (by assumption)
      rotate_left
      · intro W hS
        try dsimp only at hS
        try obtain ⟨hs0, hs1⟩ := hS
        go_simp
        try with_reducible rfl
      simp only [Act.put]
      refine tkZ 5 20 (v := ?_) rfl ?_ ?_ (by kernel_rfl) (fun _ _ _ h => h) (by rfl) (by assumption)
      rotate_left
      · intro W hS
        try dsimp only at hS
        try obtain ⟨hs0, hs1⟩ := hS
        go_simp
        try with_reducible rfl
      simp only [Act.put]
      refine tkZ 6 20 (v := ?_) rfl ?_ ?_ (by kernel_rfl) (fun _ _ _ h => h) (by rfl) (by assumption)
      rotate_left
      · intro W hS
        try dsimp only at hS
        try obtain ⟨hs0, hs1⟩ := hS
        go_simp
        try with_reducible rfl
      simp only [Act.put]
      refine tkZ 7 20 (v := ?_) rfl ?_ ?_ (by kernel_rfl) (fun _ _ _ h => h) (by rfl) (by assumption)
      rotate_left
      · intro W hS
        try dsimp only at hS
        try obtain ⟨hs0, hs1⟩ := hS
        go_simp
        try with_reducible rfl
      simp only [Act.put]
      refine tkZ 9 20 (v := ?_) rfl ?_ ?_ (by kernel_rfl) (fun _ _ _ h => h) (by rfl) (by assumption)
      rotate_left
      · intro W hS
        try dsimp only at hS
        try obtain ⟨hs0, hs1⟩ := hS
        go_simp
        try with_reducible rfl
      simp only [Act.put]
      refine tkZ 10 20 (v := ?_) rfl ?_ ?_ (by kernel_rfl) (fun _ _ _ h => h) (by rfl) (by assumption)
      rotate_left
      · intro W hS
        try dsimp only at hS
        try obtain ⟨hs0, hs1⟩ := hS
        go_simp
        try with_reducible rfl
      simp only [Act.put]
      refine tkZ 11 20 (v := ?_) rfl ?_ ?_ (by kernel_rfl) (fun _ _ _ h => h) (by rfl) (by assumption)
      rotate_left
      · intro W hS
        try dsimp only at hS
        try obtain ⟨hs0, hs1⟩ := hS
        go_simp
        try with_reducible rfl
      simp only [Act.put]
      refine tkZ 12 20 (v := ?_) rfl ?_ ?_ (by kernel_rfl) (fun _ _ _ h => h) (by rfl) (by assumption)
      rotate_left
      · intro W hS
        try dsimp only at hS
        try obtain ⟨hs0, hs1⟩ := hS
        go_simp
        try with_reducible rfl
      simp only [Act.put]
      refine tkZ 13 20 (v := ?_) rfl ?_ ?_ (by kernel_rfl) (fun _ _ _ h => h) (by rfl) (by assumption)
      rotate_left
      · intro W hS
        try dsimp only at hS
        try obtain ⟨hs0, hs1⟩ := hS
        go_simp
        try with_reducible rfl
      simp only [Act.put]
      refine tkZ 14 20 (v := ?_) rfl ?_ ?_ (by kernel_rfl) (fun _ _ _ h => h) (by rfl) (by assumption)
      rotate_left
      · intro W hS
        try dsimp only at hS
        try obtain ⟨hs0, hs1⟩ := hS
        go_simp
        try with_reducible rfl
      simp only [Act.put]
      refine tkZ 15 20 (v := ?_) rfl ?_ ?_ (by kernel_rfl) (fun _ _ _ h => h) (by rfl) (by assumption)
      rotate_left
      · intro W hS
        try dsimp only at hS
        try obtain ⟨hs0, hs1⟩ := hS
        go_simp
        try with_reducible rfl
      simp only [Act.put]
      refine wpAnyZ_one (i := 1) (by kernel_rfl) rfl (fun K hK => ?_)
      go_simp
      refine hK.out _ _ b1 (fun hHeld => ?_)
      clear hK K
      try simp only [Act.put, List.setIfInBounds_toArray, List.set_cons_zero, List.set_cons_succ]
      refine wpAnyZ_one (i := 8) (by kernel_rfl) rfl (fun K hK => ?_)
      refine step_append rfl _ _ 22 rfl _ _ _ rfl rfl HR1.out ?_
      refine hK.out _ _ b2 (fun hHeld => ?_)
      clear hK K
      try simp only [Act.put, List.setIfInBounds_toArray]
      refine wpAnyZ_one (i := 16) (by kernel_rfl) rfl (fun K hK => ?_)
      refine step_append rfl _ _ 22 rfl _ _ _ rfl rfl HR2.out ?_
      refine hK.out _ _ b3 (fun hHeld => ?_)
      clear hK K
      try simp only [Act.put]
      refine tkZ 17 20 (v := ?_) rfl ?_ ?_ (by kernel_rfl) (fun _ _ _ h => h) (by rfl) (by assumption)
      rotate_left
      · intro W hS
        try dsimp only at hS
        try obtain ⟨hs0, hs1⟩ := hS
        go_simp
        try with_reducible rfl
      simp only [Act.put]
      refine tkZ 18 20 (v := ?_) rfl ?_ ?_ (by kernel_rfl) (fun _ _ _ h => h) (by rfl) (by assumption)
      rotate_left
      · intro W hS
        try dsimp only at hS
        try obtain ⟨hs0, hs1⟩ := hS
        go_simp
        try with_reducible rfl
      simp only [Act.put]
      refine wpAnyZ_last (by kernel_rfl) rfl (by kernel_rfl) (fun K hK => ?_)
      go_simp
      refine hK.out _ _ ?_
      clear hK K
      try simp only [Act.put, List.setIfInBounds_toArray, List.set_cons_zero, List.set_cons_succ]
      go_end0
      exact ⟨rfl, H.out⟩
    · rw [if_neg hc] at hX2
      subst hX2
      have u4 : (j : Int) ≤ (lc : Int) := by omega
      have u5 : (j : Int) + 1 ≤ (n : Int) := by omega
      have u6 : (n : Int) ≤ (lc : Int) := by omega
      have u7 : ¬ lc - (j + 1) = 0 := by omega
      have u1 := U1.out
      have u3 := U3.out
      clear hjl hlc
      go_enter Tryz.func106, Tryz.ntmps106
      go_wp2_with fail
      with_reducible refine HAT.out.mono ?_
      rintro e wx ⟨rfl, rfl⟩
      go_wp2
      refine wp_region_z (S := fun W => W.cell? ⟨B, 1, none⟩ = some (.slice (some ⟨g, 0, none⟩) n lc)) 19 (by kernel_rfl) b0 (fun hHeld => ?_)
      refine tkZ 0 20 (v := ?_) rfl ?_ ?_ (by kernel_rfl) (fun _ _ _ h => h) (by rfl) (by assumption)
      rotate_left
      · intro W hS
        try dsimp only at hS
        try obtain ⟨hs0, hs1⟩ := hS
        go_simp
        try with_reducible rfl
      simp only [Act.put, List.setIfInBounds_toArray]
      refine tkZ 2 20 (v := ?_) rfl ?_ ?_ (by kernel_rfl) (fun _ _ _ h => h) (by rfl) (by assumption)
      rotate_left
      · intro W hS
        try dsimp only at hS
        try obtain ⟨hs0, hs1⟩ := hS
        go_simp
        try with_reducible rfl
      simp only [Act.put]
      refine tkZ 3 20 (v := ?_) rfl ?_ ?_ (by kernel_rfl) (fun _ _ _ h => h) (by rfl) (by assumption)
      rotate_left
      · intro W hS
        try dsimp only at hS
        try obtain ⟨hs0, hs1⟩ := hS
        go_simp
        try with_reducible rfl
      simp only [Act.put]
      refine tkZ 4 20 (v := ?_) rfl ?_ ?_ (by kernel_rfl) (fun _ _ _ h => h) (by rfl) (by assumption)
      rotate_left
      · intro W hS
        try dsimp only at hS
        try obtain ⟨hs0, hs1⟩ := hS
        go_simp
        try with_reducible rfl
      simp only [Act.put]
      refine tkZ 5 20 (v := ?_) rfl ?_ ?_ (by kernel_rfl) (fun _ _ _ h => h) (by rfl) (by assumption)
      rotate_left
      · intro W hS
        try dsimp only at hS
        try obtain ⟨hs0, hs1⟩ := hS
        go_simp
        try with_reducible rfl
      simp only [Act.put]
      refine tkZ 6 20 (v := ?_) rfl ?_ ?_ (by kernel_rfl) (fun _ _ _ h => h) (by rfl) (by assumption)
      rotate_left
      · intro W hS
        try dsimp only at hS
        try obtain ⟨hs0, hs1⟩ := hS
        go_simp
        try with_reducible rfl
      simp only [Act.put]
      refine tkZ 7 20 (v := ?_) rfl ?_ ?_ (by kernel_rfl) (fun _ _ _ h => h) (by rfl) (by assumption)
      rotate_left
      · intro W hS
        try dsimp only at hS
        try obtain ⟨hs0, hs1⟩ := hS
        go_simp
        try with_reducible rfl
      simp only [Act.put]
      refine tkZ 9 20 (v := ?_) rfl ?_ ?_ (by kernel_rfl) (fun _ _ _ h => h) (by rfl) (by assumption)
      rotate_left
      · intro W hS
        try dsimp only at hS
        try obtain ⟨hs0, hs1⟩ := hS
        go_simp
        try with_reducible rfl
      simp only [Act.put]
      refine tkZ 10 20 (v := ?_) rfl ?_ ?_ (by kernel_rfl) (fun _ _ _ h => h) (by rfl) (by assumption)
      rotate_left
      · intro W hS
        try dsimp only at hS
        try obtain ⟨hs0, hs1⟩ := hS
        go_simp
        try with_reducible rfl
      simp only [Act.put]
      refine tkZ 11 20 (v := ?_) rfl ?_ ?_ (by kernel_rfl) (fun _ _ _ h => h) (by rfl) (by assumption)
      rotate_left
      · intro W hS
        try dsimp only at hS
        try obtain ⟨hs0, hs1⟩ := hS
        go_simp
        try with_reducible rfl
      simp only [Act.put]
      refine tkZ 12 20 (v := ?_) rfl ?_ ?_ (by kernel_rfl) (fun _ _ _ h => h) (by rfl) (by assumption)
      rotate_left
      · intro W hS
        try dsimp only at hS
        try obtain ⟨hs0, hs1⟩ := hS
        go_simp
        try with_reducible rfl
      simp only [Act.put]
      refine tkZ 13 20 (v := ?_) rfl ?_ ?_ (by kernel_rfl) (fun _ _ _ h => h) (by rfl) (by assumption)
      rotate_left
      · intro W hS
        try dsimp only at hS
        try obtain ⟨hs0, hs1⟩ := hS
        go_simp
        try with_reducible rfl
      simp only [Act.put]
      refine tkZ 14 20 (v := ?_) rfl ?_ ?_ (by kernel_rfl) (fun _ _ _ h => h) (by rfl) (by assumption)
      rotate_left
      · intro W hS
        try dsimp only at hS
        try obtain ⟨hs0, hs1⟩ := hS
        go_simp
        try with_reducible rfl
      simp only [Act.put]
      refine tkZ 15 20 (v := ?_) rfl ?_ ?_ (by kernel_rfl) (fun _ _ _ h => h) (by rfl) (by assumption)
      rotate_left
      · intro W hS
        try dsimp only at hS
        try obtain ⟨hs0, hs1⟩ := hS
        go_simp
        try with_reducible rfl
      simp only [Act.put]
      refine wpAnyZ_one (i := 1) (by kernel_rfl) rfl (fun K hK => ?_)
      go_simp
      refine hK.out _ _ b1 (fun hHeld => ?_)
      clear hK K
      try simp only [Act.put, List.setIfInBounds_toArray, List.set_cons_zero, List.set_cons_succ]
      refine wpAnyZ_one (i := 8) (by kernel_rfl) rfl (fun K hK => ?_)
      refine step_append rfl _ _ 22 rfl _ _ _ rfl rfl HR1.out ?_
      refine hK.out _ _ b2 (fun hHeld => ?_)
      clear hK K
      try simp only [Act.put, List.setIfInBounds_toArray]
      refine wpAnyZ_one (i := 16) (by kernel_rfl) rfl (fun K hK => ?_)
      refine step_append rfl _ _ 22 rfl _ _ _ rfl rfl HR2.out ?_
      refine hK.out _ _ b3 (fun hHeld => ?_)
      clear hK K
      try simp only [Act.put]
      refine tkZ 17 20 (v := ?_) rfl ?_ ?_ (by kernel_rfl) (fun _ _ _ h => h) (by rfl) (by assumption)
      rotate_left
      · intro W hS
        try dsimp only at hS
        try obtain ⟨hs0, hs1⟩ := hS
        go_simp
        try with_reducible rfl
      simp only [Act.put]
      refine tkZ 18 20 (v := ?_) rfl ?_ ?_ (by kernel_rfl) (fun _ _ _ h => h) (by rfl) (by assumption)
      rotate_left
      · intro W hS
        try dsimp only at hS
        try obtain ⟨hs0, hs1⟩ := hS
        go_simp
        try with_reducible rfl
      simp only [Act.put]
      refine wpAnyZ_last (by kernel_rfl) rfl (by kernel_rfl) (fun K hK => ?_)
      go_simp
      refine hK.out _ _ ?_
      clear hK K
      try simp only [Act.put, List.setIfInBounds_toArray, List.set_cons_zero, List.set_cons_succ]
      go_end0
      exact ⟨rfl, H.out⟩

end Go.Proofs.YtacfcfbleogioaaGreatDoor

namespace Go.Proofs.YtacfcfbleogioaaGreatDoor
open Go.RowKit Go.Lib Go.Joins

theorem ref_ne {d : Dsk} {k : Nat} {s t : ByteArray} {n : Int} {b : List Nat} (hk : k ≠ 1) : ref d ⟨k, s, t, n, b⟩ = match fnd s d.L with | none => 42 | some f => refF d ⟨k, s, t, n, b⟩ f := by
  unfold ref
  rw [if_neg hk]
  rfl

set_option maxRecDepth 100000 in
set_option maxHeartbeats 4000000 in
theorem rref1_calls (s t : ByteArray) (n : Int) (b : List Nat) (w : World) {S : Nat → Prop} {B : Nat} {d : Dsk} (hd : RefD w S B d) (hu : used d.L ≤ 1073741824) (hs : s.size ≤ 1099511627776) (_ht : t.size ≤ 1099511627776) :
    Calls Tryz.prog 105 #[.pointer (some ⟨B, 0, none⟩), .int .i64 1, .string s, .string t, .int .i64 n] w (Tells (.int .i64 (ref d ⟨1, s, t, n, b⟩)) w) := by
  have HAT := Lib.hid (rat_calls s w hd)
  have HMAY := Lib.hid (fun (x : ByteArray) (hx : x.size ≤ 1099511627776) => may_calls x w hx)
  have HU := Lib.hid (fun W (h : RefD W S B d) => rused_calls W h hu)
  have HD := Lib.hid hd
  obtain ⟨hi, _, lv, ta, tn, tc, Sd, St, h⟩ := hd
  have hroom0 := hi.room0
  have hroom1 := hi.room1
  have hfit := hi.fit
  have hmost := hi.most
  obtain ⟨la, lc, rfl, hf, _, _, _⟩ := h.fils
  have b0 : w.cell? ⟨B, 0, none⟩ = some (.int .i64 d.room) := (cell_of_block h.blk 0).trans rfl
  have b1 : w.cell? ⟨B, 1, none⟩ = some (.slice la d.L.length lc) := (cell_of_block h.blk 1).trans rfl
  obtain ⟨N, hN⟩ : ∃ N, d.L.length = N := ⟨_, rfl⟩
  rw [hN] at b1 hmost
  obtain ⟨U, hU⟩ : ∃ U, used d.L = U := ⟨_, rfl⟩
  rw [hU] at HU hfit hu
  obtain ⟨q, hq⟩ : ∃ q, ref d ⟨1, s, t, n, b⟩ = q := ⟨_, rfl⟩
  rw [hq]

  unfold ref at hq
  rw [if_pos rfl] at hq
  dsimp only at hq
  cases hm : nmd s with
  | false =>
    rw [hm] at hq
    have HQ : Hid (q = 44) := Lib.hid hq.symm
    have HM := Lib.hid (HMAY.out s hs)
    rw [hm] at HM
    clear hm hq hf h hi hN hU HMAY HU HD hroom0 hroom1 hfit hmost b0 b1
    go_enter Tryz.func105, Tryz.ntmps105
    go_wp2_with fail
    with_reducible refine HAT.out.mono ?_
    rintro e w1 ⟨rfl, rfl⟩
    go_wp2_with fail
    with_reducible refine HM.out.mono ?_
    rintro e w2 ⟨rfl, rfl⟩
    go_wp2
    go_ret
    exact ⟨by rw [HQ.out]; rfl, 0, rfl⟩
  | true =>
    rw [hm, if_neg (by decide)] at hq
    have HM := Lib.hid (HMAY.out s hs)
    rw [hm] at HM
    clear hm
    cases hfn : fnd s d.L with
    | some f =>
      obtain ⟨j, hj, hfj⟩ := ixF_some (i := 0) hfn
      have hjl : j < d.L.length := (List.getElem?_eq_some_iff.1 hfj).1
      rw [hj, Nat.zero_add] at HAT
      rw [hfn] at hq
      have HQ : Hid (q = 43) := Lib.hid hq.symm
      have hj1 : j < 1000 := by omega
      have hj0 : decide ((0 : Int) ≤ (j : Int)) = true := by simp
      clear hj hfj hjl hfn hq hf h hi hN hU HMAY HU HD hroom0 hroom1 hfit hmost b0 b1
      go_enter Tryz.func105, Tryz.ntmps105
      go_wp2_with fail
      with_reducible refine HAT.out.mono ?_
      rintro e w1 ⟨rfl, rfl⟩
      go_wp2_with fail
      with_reducible refine HM.out.mono ?_
      rintro e w2 ⟨rfl, rfl⟩
      go_wp2
      go_ret
      exact ⟨by rw [HQ.out]; rfl, 0, rfl⟩
    | none =>
      rw [ixF_none hfn] at HAT
      rw [hfn, hN] at hq
      by_cases h64 : 64 ≤ N
      · have HQ : Hid (q = 40) := Lib.hid (by rw [if_neg (by decide), if_pos h64] at hq; exact hq.symm)
        have hd64 : decide ((64 : Int) ≤ (N : Int)) = true := by simp; omega
        clear hfn hq hf h hi hN hU HMAY HU HD hroom0 hroom1 hfit b0
        go_enter Tryz.func105, Tryz.ntmps105
        go_wp2_with fail
        with_reducible refine HAT.out.mono ?_
        rintro e w1 ⟨rfl, rfl⟩
        go_wp2_with fail
        with_reducible refine HM.out.mono ?_
        rintro e w2 ⟨rfl, rfl⟩
        go_wp2
        go_ret
        exact ⟨by rw [HQ.out]; rfl, 0, rfl⟩
      · have HQ : Hid (q = 0) := Lib.hid (by rw [if_neg (by decide), if_neg h64] at hq; exact hq.symm)
        have hd64 : decide ((64 : Int) ≤ (N : Int)) = false := by simp; omega
        clear hfn hq hf h hi hN hU HMAY HU HD hroom0 hroom1 hfit b0
        go_enter Tryz.func105, Tryz.ntmps105
        go_wp2_with fail
        with_reducible refine HAT.out.mono ?_
        rintro e w1 ⟨rfl, rfl⟩
        go_wp2_with fail
        with_reducible refine HM.out.mono ?_
        rintro e w2 ⟨rfl, rfl⟩
        go_wp2
        go_ret
        exact ⟨by rw [HQ.out]; rfl, 0, rfl⟩

set_option maxRecDepth 100000 in
set_option maxHeartbeats 4000000 in
theorem rref2_calls (s t : ByteArray) (n : Int) (b : List Nat) (w : World) {S : Nat → Prop} {B : Nat} {d : Dsk} (hd : RefD w S B d) (hu : used d.L ≤ 1073741824) (_hs : s.size ≤ 1099511627776) (_ht : t.size ≤ 1099511627776) (hn : n = (b.length : Int)) :
    Calls Tryz.prog 105 #[.pointer (some ⟨B, 0, none⟩), .int .i64 2, .string s, .string t, .int .i64 n] w (Tells (.int .i64 (ref d ⟨2, s, t, n, b⟩)) w) := by
  have HAT := Lib.hid (rat_calls s w hd)
  have HMAY := Lib.hid (fun (x : ByteArray) (hx : x.size ≤ 1099511627776) => may_calls x w hx)
  have HU := Lib.hid (fun W (h : RefD W S B d) => rused_calls W h hu)
  have HD := Lib.hid hd
  obtain ⟨hi, _, lv, ta, tn, tc, Sd, St, h⟩ := hd
  have hroom0 := hi.room0
  have hroom1 := hi.room1
  have hfit := hi.fit
  have hmost := hi.most
  obtain ⟨la, lc, rfl, hf, _, _, _⟩ := h.fils
  have b0 : w.cell? ⟨B, 0, none⟩ = some (.int .i64 d.room) := (cell_of_block h.blk 0).trans rfl
  have b1 : w.cell? ⟨B, 1, none⟩ = some (.slice la d.L.length lc) := (cell_of_block h.blk 1).trans rfl
  obtain ⟨N, hN⟩ : ∃ N, d.L.length = N := ⟨_, rfl⟩
  rw [hN] at b1 hmost
  obtain ⟨U, hU⟩ : ∃ U, used d.L = U := ⟨_, rfl⟩
  rw [hU] at HU hfit hu
  obtain ⟨q, hq⟩ : ∃ q, ref d ⟨2, s, t, n, b⟩ = q := ⟨_, rfl⟩
  rw [hq]

  rw [ref_ne (by decide)] at hq
  cases hfn : fnd s d.L with
  | none =>
    rw [ixF_none hfn] at HAT
    rw [hfn] at hq
    have HQ : Hid (q = 42) := Lib.hid hq.symm
    clear hfn hq hf h hi hN hU HMAY HU HD hroom0 hroom1 hfit hmost b0 b1
    go_enter Tryz.func105, Tryz.ntmps105
    go_wp2_with fail
    with_reducible refine HAT.out.mono ?_
    rintro e w1 ⟨rfl, rfl⟩
    go_wp2
    go_ret
    exact ⟨by rw [HQ.out]; rfl, 0, rfl⟩
  | some f =>
    obtain ⟨j, hj, hfj⟩ := ixF_some (i := 0) hfn
    have hjl : j < d.L.length := (List.getElem?_eq_some_iff.1 hfj).1
    rw [hj, Nat.zero_add] at HAT
    rw [hfn] at hq
    dsimp only at hq
    have hj1 : j < 1000 := by omega
    have hj0 : decide ((j : Int) < (0 : Int)) = false := by simp
    have hfi : (d.L.map toI)[j]? = some (toI f) := by rw [List.getElem?_map, hfj]; rfl
    obtain ⟨gb, go_, da, dc, rfl, _, _, r1, _, _, _, _, _⟩ := fils_at hf hfi
    have r1' : w.cell? ⟨gb, go_ + j * 3 + 1, none⟩ = some (.slice da f.data.length dc) := r1
    obtain ⟨fl, hfl⟩ : ∃ fl, f.data.length = fl := ⟨_, rfl⟩
    rw [hfl] at r1'
    rw [hN] at hjl
    unfold refF at hq
    dsimp only at hq
    rw [if_pos rfl, hU] at hq
    have HUS : Hid (∀ j : Nat, Calls Tryz.prog 39 #[.pointer (some ⟨B, 0, none⟩)] (w.drewN j) fun e w' => e = .returned (.int .i64 (U : Int)) ∧ w' = w.drewN j) := Lib.hid (fun j => (HU.out (w.drewN j) (HD.out.keep ((Keeps.refl Non w).drewN j) (fun _ _ h => h))).mono fun e w' h => ⟨h.1, h.2.symm⟩)
    obtain ⟨R, hR⟩ : ∃ R, d.room = R := ⟨_, rfl⟩
    rw [hR] at hq hroom0 hroom1 hfit b0
    obtain ⟨Q, hQ⟩ : ∃ Q : Int, R - (U : Int) = Q := ⟨_, rfl⟩
    rw [hQ, ← hn] at hq
    have hwr : IntKind.i64.wrap (R - (U : Int)) = Q := by rw [IntWalk.i64_in _ (by omega), hQ]
    by_cases hlt : Q < n
    · have HQ : Hid (q = 40) := Lib.hid (by rw [if_pos hlt] at hq; exact hq.symm)
      have hd : decide (Q < n) = true := by simpa using hlt
      clear hlt hQ hn hR hj hfj hfi r1 hfl hfn hq hf h hi hN hU HMAY HU HD hfit hroom0 hroom1 hu _hs _ht hmost
      go_enter Tryz.func105, Tryz.ntmps105
      go_wp2_with fail
      with_reducible refine HAT.out.mono ?_
      rintro e w1 ⟨rfl, rfl⟩
      go_wp2
      go_quiet ((exact Calls.quiet_of_same (HUS.out _)))
      go_wp2
      go_ret
      exact ⟨by rw [HQ.out]; rfl, _, rfl⟩
    · have HQ : Hid (q = 0) := Lib.hid (by rw [if_neg hlt] at hq; exact hq.symm)
      have hd : decide (Q < n) = false := by simpa using hlt
      clear hlt hQ hn hR hj hfj hfi r1 hfl hfn hq hf h hi hN hU HMAY HU HD hfit hroom0 hroom1 hu _hs _ht hmost
      go_enter Tryz.func105, Tryz.ntmps105
      go_wp2_with fail
      with_reducible refine HAT.out.mono ?_
      rintro e w1 ⟨rfl, rfl⟩
      go_wp2
      go_quiet ((exact Calls.quiet_of_same (HUS.out _)))
      go_wp2
      go_ret
      exact ⟨by rw [HQ.out]; rfl, _, rfl⟩

set_option maxRecDepth 100000 in
set_option maxHeartbeats 4000000 in
theorem rref3_calls (s t : ByteArray) (n : Int) (b : List Nat) (w : World) {S : Nat → Prop} {B : Nat} {d : Dsk} (hd : RefD w S B d) (hu : used d.L ≤ 1073741824) (_hs : s.size ≤ 1099511627776) (_ht : t.size ≤ 1099511627776) :
    Calls Tryz.prog 105 #[.pointer (some ⟨B, 0, none⟩), .int .i64 3, .string s, .string t, .int .i64 n] w (Tells (.int .i64 (ref d ⟨3, s, t, n, b⟩)) w) := by
  have HAT := Lib.hid (rat_calls s w hd)
  have HMAY := Lib.hid (fun (x : ByteArray) (hx : x.size ≤ 1099511627776) => may_calls x w hx)
  have HU := Lib.hid (fun W (h : RefD W S B d) => rused_calls W h hu)
  have HD := Lib.hid hd
  obtain ⟨hi, _, lv, ta, tn, tc, Sd, St, h⟩ := hd
  have hroom0 := hi.room0
  have hroom1 := hi.room1
  have hfit := hi.fit
  have hmost := hi.most
  obtain ⟨la, lc, rfl, hf, _, _, _⟩ := h.fils
  have b0 : w.cell? ⟨B, 0, none⟩ = some (.int .i64 d.room) := (cell_of_block h.blk 0).trans rfl
  have b1 : w.cell? ⟨B, 1, none⟩ = some (.slice la d.L.length lc) := (cell_of_block h.blk 1).trans rfl
  obtain ⟨N, hN⟩ : ∃ N, d.L.length = N := ⟨_, rfl⟩
  rw [hN] at b1 hmost
  obtain ⟨U, hU⟩ : ∃ U, used d.L = U := ⟨_, rfl⟩
  rw [hU] at HU hfit hu
  obtain ⟨q, hq⟩ : ∃ q, ref d ⟨3, s, t, n, b⟩ = q := ⟨_, rfl⟩
  rw [hq]

  rw [ref_ne (by decide)] at hq
  cases hfn : fnd s d.L with
  | none =>
    rw [ixF_none hfn] at HAT
    rw [hfn] at hq
    have HQ : Hid (q = 42) := Lib.hid hq.symm
    clear hfn hq hf h hi hN hU HMAY HU HD hroom0 hroom1 hfit hmost b0 b1
    go_enter Tryz.func105, Tryz.ntmps105
    go_wp2_with fail
    with_reducible refine HAT.out.mono ?_
    rintro e w1 ⟨rfl, rfl⟩
    go_wp2
    go_ret
    exact ⟨by rw [HQ.out]; rfl, 0, rfl⟩
  | some f =>
    obtain ⟨j, hj, hfj⟩ := ixF_some (i := 0) hfn
    have hjl : j < d.L.length := (List.getElem?_eq_some_iff.1 hfj).1
    rw [hj, Nat.zero_add] at HAT
    rw [hfn] at hq
    dsimp only at hq
    have hj1 : j < 1000 := by omega
    have hj0 : decide ((j : Int) < (0 : Int)) = false := by simp
    have hfi : (d.L.map toI)[j]? = some (toI f) := by rw [List.getElem?_map, hfj]; rfl
    obtain ⟨gb, go_, da, dc, rfl, _, _, r1, _, _, _, _, _⟩ := fils_at hf hfi
    have r1' : w.cell? ⟨gb, go_ + j * 3 + 1, none⟩ = some (.slice da f.data.length dc) := r1
    obtain ⟨fl, hfl⟩ : ∃ fl, f.data.length = fl := ⟨_, rfl⟩
    rw [hfl] at r1'
    rw [hN] at hjl
    unfold refF at hq
    dsimp only at hq
    rw [if_neg (by decide), if_pos rfl, hfl] at hq
    by_cases h0 : n < 0
    · have HQ : Hid (q = 80) := Lib.hid (by rw [if_pos (.inl h0)] at hq; exact hq.symm)
      have hd : decide (n < 0) = true := by simpa using h0
      clear hj hfj hfi r1 hfl hfn hq hf h hi hN hU HMAY HU HD
      go_enter Tryz.func105, Tryz.ntmps105
      go_wp2_with fail
      with_reducible refine HAT.out.mono ?_
      rintro e w1 ⟨rfl, rfl⟩
      go_wp2
      go_quiet (fail)
      go_wp2
      go_ret
      exact ⟨by rw [HQ.out]; rfl, _, rfl⟩
    by_cases h1 : (fl : Int) < n
    · have HQ : Hid (q = 80) := Lib.hid (by rw [if_pos (.inr h1)] at hq; exact hq.symm)
      have hd : decide (n < 0) = false := by simpa using h0
      have hd1 : decide ((fl : Int) < n) = true := by simpa using h1
      clear hj hfj hfi r1 hfl hfn hq hf h hi hN hU HMAY HU HD
      go_enter Tryz.func105, Tryz.ntmps105
      go_wp2_with fail
      with_reducible refine HAT.out.mono ?_
      rintro e w1 ⟨rfl, rfl⟩
      go_wp2
      go_quiet (fail)
      go_wp2
      go_ret
      exact ⟨by rw [HQ.out]; rfl, _, rfl⟩
    · have HQ : Hid (q = 0) := Lib.hid (by rw [if_neg (by omega)] at hq; exact hq.symm)
      have hd : decide (n < 0) = false := by simpa using h0
      have hd1 : decide ((fl : Int) < n) = false := by simpa using h1
      clear hj hfj hfi r1 hfl hfn hq hf h hi hN hU HMAY HU HD
      go_enter Tryz.func105, Tryz.ntmps105
      go_wp2_with fail
      with_reducible refine HAT.out.mono ?_
      rintro e w1 ⟨rfl, rfl⟩
      go_wp2
      go_quiet (fail)
      go_wp2
      go_ret
      exact ⟨by rw [HQ.out]; rfl, _, rfl⟩

set_option maxRecDepth 100000 in
set_option maxHeartbeats 4000000 in
theorem rref4_calls (s t : ByteArray) (n : Int) (b : List Nat) (w : World) {S : Nat → Prop} {B : Nat} {d : Dsk} (hd : RefD w S B d) (hu : used d.L ≤ 1073741824) (_hs : s.size ≤ 1099511627776) (_ht : t.size ≤ 1099511627776) :
    Calls Tryz.prog 105 #[.pointer (some ⟨B, 0, none⟩), .int .i64 4, .string s, .string t, .int .i64 n] w (Tells (.int .i64 (ref d ⟨4, s, t, n, b⟩)) w) := by
  have HAT := Lib.hid (rat_calls s w hd)
  have HMAY := Lib.hid (fun (x : ByteArray) (hx : x.size ≤ 1099511627776) => may_calls x w hx)
  have HU := Lib.hid (fun W (h : RefD W S B d) => rused_calls W h hu)
  have HD := Lib.hid hd
  obtain ⟨hi, _, lv, ta, tn, tc, Sd, St, h⟩ := hd
  have hroom0 := hi.room0
  have hroom1 := hi.room1
  have hfit := hi.fit
  have hmost := hi.most
  obtain ⟨la, lc, rfl, hf, _, _, _⟩ := h.fils
  have b0 : w.cell? ⟨B, 0, none⟩ = some (.int .i64 d.room) := (cell_of_block h.blk 0).trans rfl
  have b1 : w.cell? ⟨B, 1, none⟩ = some (.slice la d.L.length lc) := (cell_of_block h.blk 1).trans rfl
  obtain ⟨N, hN⟩ : ∃ N, d.L.length = N := ⟨_, rfl⟩
  rw [hN] at b1 hmost
  obtain ⟨U, hU⟩ : ∃ U, used d.L = U := ⟨_, rfl⟩
  rw [hU] at HU hfit hu
  obtain ⟨q, hq⟩ : ∃ q, ref d ⟨4, s, t, n, b⟩ = q := ⟨_, rfl⟩
  rw [hq]

  rw [ref_ne (by decide)] at hq
  cases hfn : fnd s d.L with
  | none =>
    rw [ixF_none hfn] at HAT
    rw [hfn] at hq
    have HQ : Hid (q = 42) := Lib.hid hq.symm
    clear hfn hq hf h hi hN hU HMAY HU HD hroom0 hroom1 hfit hmost b0 b1
    go_enter Tryz.func105, Tryz.ntmps105
    go_wp2_with fail
    with_reducible refine HAT.out.mono ?_
    rintro e w1 ⟨rfl, rfl⟩
    go_wp2
    go_ret
    exact ⟨by rw [HQ.out]; rfl, 0, rfl⟩
  | some f =>
    obtain ⟨j, hj, hfj⟩ := ixF_some (i := 0) hfn
    have hjl : j < d.L.length := (List.getElem?_eq_some_iff.1 hfj).1
    rw [hj, Nat.zero_add] at HAT
    rw [hfn] at hq
    dsimp only at hq
    have hj1 : j < 1000 := by omega
    have hj0 : decide ((j : Int) < (0 : Int)) = false := by simp
    have hfi : (d.L.map toI)[j]? = some (toI f) := by rw [List.getElem?_map, hfj]; rfl
    obtain ⟨gb, go_, da, dc, rfl, _, _, r1, _, _, _, _, _⟩ := fils_at hf hfi
    have r1' : w.cell? ⟨gb, go_ + j * 3 + 1, none⟩ = some (.slice da f.data.length dc) := r1
    obtain ⟨fl, hfl⟩ : ∃ fl, f.data.length = fl := ⟨_, rfl⟩
    rw [hfl] at r1'
    rw [hN] at hjl
    unfold refF at hq
    dsimp only at hq
    rw [if_neg (by decide), if_neg (by decide), if_neg (by decide)] at hq
    have HQ : Hid (q = 0) := Lib.hid hq.symm
    clear hj hfj hfi r1 r1' hfl hfn hq hf h hi hN hU HMAY HU HD b0 b1
    go_enter Tryz.func105, Tryz.ntmps105
    go_wp2_with fail
    with_reducible refine HAT.out.mono ?_
    rintro e w1 ⟨rfl, rfl⟩
    go_wp2
    go_quiet (fail)
    go_wp2
    go_ret
    exact ⟨by rw [HQ.out]; rfl, _, rfl⟩

set_option maxRecDepth 100000 in
set_option maxHeartbeats 4000000 in
theorem rref5_calls (s t : ByteArray) (n : Int) (b : List Nat) (w : World) {S : Nat → Prop} {B : Nat} {d : Dsk} (hd : RefD w S B d) (hu : used d.L ≤ 1073741824) (_hs : s.size ≤ 1099511627776) (ht : t.size ≤ 1099511627776) :
    Calls Tryz.prog 105 #[.pointer (some ⟨B, 0, none⟩), .int .i64 5, .string s, .string t, .int .i64 n] w (Tells (.int .i64 (ref d ⟨5, s, t, n, b⟩)) w) := by
  have HAT := Lib.hid (rat_calls s w hd)
  have HMAY := Lib.hid (fun (x : ByteArray) (hx : x.size ≤ 1099511627776) => may_calls x w hx)
  have HU := Lib.hid (fun W (h : RefD W S B d) => rused_calls W h hu)
  have HD := Lib.hid hd
  obtain ⟨hi, _, lv, ta, tn, tc, Sd, St, h⟩ := hd
  have hroom0 := hi.room0
  have hroom1 := hi.room1
  have hfit := hi.fit
  have hmost := hi.most
  obtain ⟨la, lc, rfl, hf, _, _, _⟩ := h.fils
  have b0 : w.cell? ⟨B, 0, none⟩ = some (.int .i64 d.room) := (cell_of_block h.blk 0).trans rfl
  have b1 : w.cell? ⟨B, 1, none⟩ = some (.slice la d.L.length lc) := (cell_of_block h.blk 1).trans rfl
  obtain ⟨N, hN⟩ : ∃ N, d.L.length = N := ⟨_, rfl⟩
  rw [hN] at b1 hmost
  obtain ⟨U, hU⟩ : ∃ U, used d.L = U := ⟨_, rfl⟩
  rw [hU] at HU hfit hu
  obtain ⟨q, hq⟩ : ∃ q, ref d ⟨5, s, t, n, b⟩ = q := ⟨_, rfl⟩
  rw [hq]

  rw [ref_ne (by decide)] at hq
  cases hfn : fnd s d.L with
  | none =>
    rw [ixF_none hfn] at HAT
    rw [hfn] at hq
    have HQ : Hid (q = 42) := Lib.hid hq.symm
    clear hfn hq hf h hi hN hU HMAY HU HD hroom0 hroom1 hfit hmost b0 b1
    go_enter Tryz.func105, Tryz.ntmps105
    go_wp2_with fail
    with_reducible refine HAT.out.mono ?_
    rintro e w1 ⟨rfl, rfl⟩
    go_wp2
    go_ret
    exact ⟨by rw [HQ.out]; rfl, 0, rfl⟩
  | some f =>
    obtain ⟨j, hj, hfj⟩ := ixF_some (i := 0) hfn
    have hjl : j < d.L.length := (List.getElem?_eq_some_iff.1 hfj).1
    rw [hj, Nat.zero_add] at HAT
    rw [hfn] at hq
    dsimp only at hq
    have hj1 : j < 1000 := by omega
    have hj0 : decide ((j : Int) < (0 : Int)) = false := by simp
    have hfi : (d.L.map toI)[j]? = some (toI f) := by rw [List.getElem?_map, hfj]; rfl
    obtain ⟨gb, go_, da, dc, rfl, _, _, r1, _, _, _, _, _⟩ := fils_at hf hfi
    have r1' : w.cell? ⟨gb, go_ + j * 3 + 1, none⟩ = some (.slice da f.data.length dc) := r1
    obtain ⟨fl, hfl⟩ : ∃ fl, f.data.length = fl := ⟨_, rfl⟩
    rw [hfl] at r1'
    rw [hN] at hjl
    unfold refF at hq
    dsimp only at hq
    rw [if_neg (by decide), if_neg (by decide), if_pos rfl] at hq
    have HM := Lib.hid (fun W => may_calls t W ht)
    cases hm : nmd t with
    | false =>
      rw [hm] at hq HM
      have HQ : Hid (q = 44) := Lib.hid hq.symm
      clear hm hj hfj hfi r1 r1' hfl hfn hq hf h hi hN hU HMAY HU HD b0 b1
      go_enter Tryz.func105, Tryz.ntmps105
      go_wp2_with fail
      with_reducible refine HAT.out.mono ?_
      rintro e w1 ⟨rfl, rfl⟩
      go_wp2
      go_quiet (fail)
      go_wp2_with fail
      with_reducible refine (HM.out _).mono ?_
      rintro e w2 ⟨rfl, rfl⟩
      go_wp2
      go_ret
      exact ⟨by rw [HQ.out]; rfl, _, rfl⟩
    | true =>
      rw [hm, if_neg (by decide)] at hq
      rw [hm] at HM
      have HQ : Hid (q = 0) := Lib.hid hq.symm
      clear hm hj hfj hfi r1 r1' hfl hfn hq hf h hi hN hU HMAY HU HD b0 b1
      go_enter Tryz.func105, Tryz.ntmps105
      go_wp2_with fail
      with_reducible refine HAT.out.mono ?_
      rintro e w1 ⟨rfl, rfl⟩
      go_wp2
      go_quiet (fail)
      go_wp2_with fail
      with_reducible refine (HM.out _).mono ?_
      rintro e w2 ⟨rfl, rfl⟩
      go_wp2
      go_ret
      exact ⟨by rw [HQ.out]; rfl, _, rfl⟩

set_option maxRecDepth 100000 in
set_option maxHeartbeats 4000000 in
theorem rref6_calls (s t : ByteArray) (n : Int) (b : List Nat) (w : World) {S : Nat → Prop} {B : Nat} {d : Dsk} (hd : RefD w S B d) (hu : used d.L ≤ 1073741824) (_hs : s.size ≤ 1099511627776) (_ht : t.size ≤ 1099511627776) :
    Calls Tryz.prog 105 #[.pointer (some ⟨B, 0, none⟩), .int .i64 6, .string s, .string t, .int .i64 n] w (Tells (.int .i64 (ref d ⟨6, s, t, n, b⟩)) w) := by
  have HAT := Lib.hid (rat_calls s w hd)
  have HMAY := Lib.hid (fun (x : ByteArray) (hx : x.size ≤ 1099511627776) => may_calls x w hx)
  have HU := Lib.hid (fun W (h : RefD W S B d) => rused_calls W h hu)
  have HD := Lib.hid hd
  obtain ⟨hi, _, lv, ta, tn, tc, Sd, St, h⟩ := hd
  have hroom0 := hi.room0
  have hroom1 := hi.room1
  have hfit := hi.fit
  have hmost := hi.most
  obtain ⟨la, lc, rfl, hf, _, _, _⟩ := h.fils
  have b0 : w.cell? ⟨B, 0, none⟩ = some (.int .i64 d.room) := (cell_of_block h.blk 0).trans rfl
  have b1 : w.cell? ⟨B, 1, none⟩ = some (.slice la d.L.length lc) := (cell_of_block h.blk 1).trans rfl
  obtain ⟨N, hN⟩ : ∃ N, d.L.length = N := ⟨_, rfl⟩
  rw [hN] at b1 hmost
  obtain ⟨U, hU⟩ : ∃ U, used d.L = U := ⟨_, rfl⟩
  rw [hU] at HU hfit hu
  obtain ⟨q, hq⟩ : ∃ q, ref d ⟨6, s, t, n, b⟩ = q := ⟨_, rfl⟩
  rw [hq]

  rw [ref_ne (by decide)] at hq
  cases hfn : fnd s d.L with
  | none =>
    rw [ixF_none hfn] at HAT
    rw [hfn] at hq
    have HQ : Hid (q = 42) := Lib.hid hq.symm
    clear hfn hq hf h hi hN hU HMAY HU HD hroom0 hroom1 hfit hmost b0 b1
    go_enter Tryz.func105, Tryz.ntmps105
    go_wp2_with fail
    with_reducible refine HAT.out.mono ?_
    rintro e w1 ⟨rfl, rfl⟩
    go_wp2
    go_ret
    exact ⟨by rw [HQ.out]; rfl, 0, rfl⟩
  | some f =>
    obtain ⟨j, hj, hfj⟩ := ixF_some (i := 0) hfn
    have hjl : j < d.L.length := (List.getElem?_eq_some_iff.1 hfj).1
    rw [hj, Nat.zero_add] at HAT
    rw [hfn] at hq
    dsimp only at hq
    have hj1 : j < 1000 := by omega
    have hj0 : decide ((j : Int) < (0 : Int)) = false := by simp
    have hfi : (d.L.map toI)[j]? = some (toI f) := by rw [List.getElem?_map, hfj]; rfl
    obtain ⟨gb, go_, da, dc, rfl, _, _, r1, _, _, _, _, _⟩ := fils_at hf hfi
    have r1' : w.cell? ⟨gb, go_ + j * 3 + 1, none⟩ = some (.slice da f.data.length dc) := r1
    obtain ⟨fl, hfl⟩ : ∃ fl, f.data.length = fl := ⟨_, rfl⟩
    rw [hfl] at r1'
    rw [hN] at hjl
    unfold refF at hq
    dsimp only at hq
    rw [if_neg (by decide), if_neg (by decide), if_neg (by decide)] at hq
    have HQ : Hid (q = 0) := Lib.hid hq.symm
    clear hj hfj hfi r1 r1' hfl hfn hq hf h hi hN hU HMAY HU HD b0 b1
    go_enter Tryz.func105, Tryz.ntmps105
    go_wp2_with fail
    with_reducible refine HAT.out.mono ?_
    rintro e w1 ⟨rfl, rfl⟩
    go_wp2
    go_quiet (fail)
    go_wp2
    go_ret
    exact ⟨by rw [HQ.out]; rfl, _, rfl⟩

theorem rref_calls (k : Nat) (hk : 1 ≤ k ∧ k ≤ 6) (s t : ByteArray) (n : Int) (b : List Nat) (w : World) {S : Nat → Prop} {B : Nat} {d : Dsk} (hd : RefD w S B d) (hu : used d.L ≤ 1073741824) (hs : s.size ≤ 1099511627776) (ht : t.size ≤ 1099511627776) (hn : k = 2 → n = (b.length : Int)) :
    Calls Tryz.prog 105 #[.pointer (some ⟨B, 0, none⟩), .int .i64 (k : Int), .string s, .string t, .int .i64 n] w (Tells (.int .i64 (ref d ⟨k, s, t, n, b⟩)) w) := by
  rcases (show k = 1 ∨ k = 2 ∨ k = 3 ∨ k = 4 ∨ k = 5 ∨ k = 6 by omega) with rfl | rfl | rfl | rfl | rfl | rfl
  · exact rref1_calls s t n b w hd hu hs ht
  · exact rref2_calls s t n b w hd hu hs ht (hn rfl)
  · exact rref3_calls s t n b w hd hu hs ht
  · exact rref4_calls s t n b w hd hu hs ht
  · exact rref5_calls s t n b w hd hu hs ht
  · exact rref6_calls s t n b w hd hu hs ht

end Go.Proofs.YtacfcfbleogioaaGreatDoor
namespace Go.Proofs.YtacfcfbleogioaaGreatDoor
open Go.RowKit Go.Lib Go.Joins

def RDoes (w : World) (S : Nat → Prop) (B : Nat) (v : Value) (d' : Dsk) (e : Ending) (w' : World) : Prop := e = .returned v ∧ RTurns w S B d' w'

theorem RTurns.after {w w1 w' : World} {S : Nat → Prop} {B : Nat} {d' : Dsk} (hk : Keeps S w w1) (h : RTurns w1 S B d' w') : RTurns w S B d' w' := by
  obtain ⟨S', h1, h2, h3⟩ := h
  exact ⟨S', h1, fresh_trans (fresh_refl S w.heap.size) h2 hk.size, hk.trans h3 (fresh_refl _ _)⟩
theorem RMoves.after {w w1 w' : World} {S : Nat → Prop} {B : Nat} {d' : Dsk} (hk : Keeps S w w1) (h : RMoves w1 S B d' w') : RMoves w S B d' w' := by
  obtain ⟨S', h1, h2, h3⟩ := h
  exact ⟨S', h1, fresh_trans (fresh_refl S w.heap.size) h2 hk.size, hk.trans h3 (fresh_refl _ _)⟩

theorem nmd_sz {x : ByteArray} (h : nmd x = true) : x.size ≤ 40 := by
  unfold nmd at h
  simp only [Bool.and_eq_true, decide_eq_true_eq] at h
  exact h.2
/-- A cell of its block. -/
theorem RefAt.own {w : World} {S : Nat → Prop} {B : Nat} {d : Dsk} {lv : Value} {ta : Option Addr} {tn tc : Nat} {Sd St : Nat → Prop} (h : RefAt w S B d lv ta tn tc Sd St) : ∀ k, lv.ownBlock = some k → k ≠ B := by
  obtain ⟨cells, ho, _⟩ := h.row
  intro k e hk
  exact other_elem_n h.blk ho (by decide) (by rw [e, hk])
theorem RHas.cell {w : World} {S : Nat → Prop} {B : Nat} {d : Dsk} {lv : Value} {ta : Option Addr} {tn tc : Nat} {Sd St : Nat → Prop} (hS : ∀ k, S k → k < w.heap.size) (h : RefAt w S B d lv ta tn tc Sd St) {i : Nat} {v : Value} {d' : Dsk}
    (hL : d'.L = d.L) (ht : d'.tr = d.tr) (hb : (w.setCell ⟨B, i, none⟩ v).heap[B]? = some (.cells #[.int .i64 d'.room, lv, .slice ta tn tc, .int .i64 d'.ops, .bool d'.down] 54 (0, 0))) :
    RHas (w.setCell ⟨B, i, none⟩ v) S B d' := by
  have hk : Keeps (One B) w (w.setCell ⟨B, i, none⟩ v) := (Keeps.refl (One B) w).setCell (p := ⟨B, i, none⟩) (.inl rfl) _
  obtain ⟨cells, ho, hfc⟩ := h.row
  refine ⟨fun k e => Nat.lt_of_lt_of_le (hS k e) hk.size, lv, ta, tn, tc, Sd, St, ?_⟩
  exact {
    blk := hb
    row := ⟨cells, by rw [hL]; exact ownsRow_keep ho hk (fun k e hkB => h.own k e hkB), by rw [hL]; exact hfc.keep hk (fun k e hkB => (h.sD k e).2.1 hkB)⟩
    tro := by rw [ht]; exact h.tro.keep hk (fun k e hkB => (h.sT k e).2.1 hkB)
    trn := by rw [ht]; exact h.trn
    sB := h.sB
    sR := h.sR
    sD := h.sD
    sT := h.sT }
theorem RefD.opsUp {w : World} {S : Nat → Prop} {B : Nat} {d : Dsk} (h : RefD w S B d) (z : Int) : RefD (w.setCell ⟨B, 3, none⟩ (.int .i64 z)) S B { d with ops := z } := by
  obtain ⟨hi, hS, lv, ta, tn, tc, Sd, St, hd⟩ := h
  exact ⟨inv_same hi z d.tr d.down, RHas.cell hS hd rfl rfl (block_setCell (i := 3) hd.blk (.int .i64 z))⟩
theorem RefD.downs {w : World} {S : Nat → Prop} {B : Nat} {d : Dsk} (h : RefD w S B d) (z : Bool) : RefD (w.setCell ⟨B, 4, none⟩ (.bool z)) S B { d with down := z } := by
  obtain ⟨hi, hS, lv, ta, tn, tc, Sd, St, hd⟩ := h
  exact ⟨inv_same hi d.ops d.tr z, RHas.cell hS hd rfl rfl (block_setCell (i := 4) hd.blk (.bool z))⟩

/-- The trouble that the search tells, from a place on. -/
def kp (l : List Tro) (o : Int) : Int × Int := match tro l o with | none => (0, 0) | some t => (t.kind, t.part)
theorem kp_drop {l : List Tro} {o : Int} {j : Nat} {t : Tro} (h : l[j]? = some t) : kp (l.drop j) o = if hits o t then (t.kind, t.part) else kp (l.drop (j + 1)) o := by
  obtain ⟨h1, rfl⟩ := List.getElem?_eq_some_iff.1 h
  rw [List.drop_eq_getElem_cons h1]
  unfold kp tro
  rw [List.find?_cons]
  cases hits o l[j] <;> rfl
theorem kp_end {l : List Tro} {o : Int} : kp (l.drop l.length) o = (0, 0) := by rw [List.drop_length]; rfl
theorem rowT_at {w : World} {S : Nat → Prop} {a : Option Addr} {l : List Tro} (h : RowT w S a l) {i : Nat} {t : Tro} (hi : l[i]? = some t) :
    ∃ b o, a = some ⟨b, o, none⟩ ∧ w.cell? ⟨b, o + i * 3, none⟩ = some (.int .i64 t.at_) ∧ w.cell? ⟨b, o + i * 3 + 1, none⟩ = some (.int .i64 t.kind) ∧ w.cell? ⟨b, o + i * 3 + 2, none⟩ = some (.int .i64 t.part) := by
  rcases h with h0 | ⟨b, o, ha, _, hc⟩
  · rw [h0] at hi; simp at hi
  · exact ⟨b, o, ha, hc i t hi⟩

theorem step_down {d : Dsk} {o : Opn} (h : d.down = true) : step d o = (45, d) := by unfold step; rw [if_pos h]
theorem step_ref {d : Dsk} {o : Opn} (h : d.down = false) (hr : ref d o ≠ 0) : step d o = (ref d o, { d with ops := d.ops + 1 }) := by
  unfold step; rw [if_neg (by rw [h]; decide), if_pos hr]
theorem step_none {d : Dsk} {o : Opn} (h : d.down = false) (hr : ref d o = 0) (ht : tro d.tr (d.ops + 1) = none) : step d o = (0, { d with ops := d.ops + 1, L := whole o d.L }) := by
  unfold step; rw [if_neg (by rw [h]; decide), if_neg (by rw [hr]; decide), ht]
theorem step_some {d : Dsk} {o : Opn} {t : Tro} (h : d.down = false) (hr : ref d o = 0) (ht : tro d.tr (d.ops + 1) = some t) : step d o = (tld t.kind, { d with ops := d.ops + 1, L := part o t.part d.L, down := decide (t.kind = 3) }) := by
  unfold step; rw [if_neg (by rw [h]; decide), if_neg (by rw [hr]; decide), ht]
theorem tro_hits {l : List Tro} {i : Int} {t : Tro} (h : tro l i = some t) : 1 ≤ t.kind ∧ t.kind ≤ 3 := by
  unfold tro at h
  have := List.find?_some h
  unfold hits at this
  simp only [Bool.and_eq_true, decide_eq_true_eq] at this
  exact ⟨this.1.2, this.2⟩

/-- Where a file of it lies. -/
structure FileAt (w : World) (B : Nat) (d : Dsk) (j : Nat) (f : Fil) (g lc : Nat) (Sd : Nat → Prop) (da : Option Addr) (dc : Nat) : Prop where
  b1 : w.cell? ⟨B, 1, none⟩ = some (.slice (some ⟨g, 0, none⟩) d.L.length lc)
  r0 : w.cell? ⟨g, j * 3, none⟩ = some (.string f.name)
  r1 : w.cell? ⟨g, j * 3 + 1, none⟩ = some (.slice da f.data.length dc)
  r2 : w.cell? ⟨g, j * 3 + 2, none⟩ = some (.int .i64 (f.safe : Int))
  row : Row w Sd da f.data
  nul : da = none → dc = 0
  fit : f.data.length ≤ dc
  most : dc ≤ maxLen
  lc : d.L.length ≤ lc
  free : ∀ i, w.frozen? ⟨g, i, none⟩ = false
  ne : B ≠ g
  gl : g < w.heap.size
  bl : B < w.heap.size
theorem RHas.file {w : World} {S : Nat → Prop} {B : Nat} {d : Dsk} (h : RHas w S B d) {j : Nat} {f : Fil} (hj : d.L[j]? = some f) :
    ∃ g lc ta tn tc Sd St da dc, RefAt w S B d (.slice (some ⟨g, 0, none⟩) d.L.length lc) ta tn tc Sd St ∧ FileAt w B d j f g lc Sd da dc := by
  obtain ⟨hS, lv, ta, tn, tc, Sd, St, h⟩ := h
  obtain ⟨cells, ho, hfc⟩ := h.row
  have hjl : j < d.L.length := (List.getElem?_eq_some_iff.1 hj).1
  obtain ⟨c0, ⟨dv, c1, ⟨da, dc, rfl, hr, hn, hft, hms⟩⟩, c2⟩ := hfc.at_ j (toI f) (by rw [List.getElem?_map, hj]; rfl)
  rcases ho.2 with ⟨_, e0⟩ | ⟨g, lc, cur, rfl, _, hg, hle, hlm, _⟩
  · omega
  · have hB : B ≠ g := fun e => other_elem_n h.blk ho (by decide) (by rw [e]; rfl)
    exact ⟨g, lc, ta, tn, tc, Sd, St, da, dc, h, (cell_of_block h.blk 1).trans rfl, (ho.cellAt (j * 3) (by omega)).trans c0, (ho.cellAt (j * 3 + 1) (by omega)).trans c1, (ho.cellAt (j * 3 + 2) (by omega)).trans c2, hr, hn, hft, hms, hle, fun i => ho.frozenAt i, hB, lt_of_block hg, lt_of_block h.blk⟩
theorem FileAt.below {w w' : World} {B : Nat} {d : Dsk} {j : Nat} {f : Fil} {g lc : Nat} {Sd : Nat → Prop} {da : Option Addr} {dc : Nat} (h : FileAt w B d j f g lc Sd da dc) (hb : Below w.heap.size w w') : FileAt w' B d j f g lc Sd da dc where
  b1 := (World.cell?_of_block (a := ⟨B, 1, none⟩) (hb.block B h.bl)).trans h.b1
  r0 := (World.cell?_of_block (a := ⟨g, j * 3, none⟩) (hb.block g h.gl)).trans h.r0
  r1 := (World.cell?_of_block (a := ⟨g, j * 3 + 1, none⟩) (hb.block g h.gl)).trans h.r1
  r2 := (World.cell?_of_block (a := ⟨g, j * 3 + 2, none⟩) (hb.block g h.gl)).trans h.r2
  row := h.row.below hb
  nul := h.nul
  fit := h.fit
  most := h.most
  lc := h.lc
  free := fun i => (World.frozen?_of_block (a := ⟨g, i, none⟩) (hb.block g h.gl)).trans (h.free i)
  ne := h.ne
  gl := Nat.lt_of_lt_of_le h.gl hb.size
  bl := Nat.lt_of_lt_of_le h.bl hb.size

/-- What the walks take for granted of an operation. -/
structure DoHyp (w : World) (S O : Nat → Prop) (B : Nat) (d : Dsk) (s t : ByteArray) (a : Option Addr) (b : List Nat) (m c : Nat) : Prop where
  disk : RefD w S B d
  sml : Sml d
  ns : s.size ≤ 1099511627776
  nt : t.size ≤ 1099511627776
  row : Row w O a b
  off : ∀ k, O k → ¬ S k
  nul : a = none → c = 0
  len : b.length = m
  cap : m ≤ c
  most : c ≤ maxLen
  few : m ≤ 1000000
  tr : d.tr.length ≤ 1048576

end Go.Proofs.YtacfcfbleogioaaGreatDoor
