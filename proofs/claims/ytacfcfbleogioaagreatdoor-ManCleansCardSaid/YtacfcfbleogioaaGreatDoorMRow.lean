/-
  Rows of numbers: a slice of numbers in memory; numbers in a slice of the call's own, and append to it. Conditions: slices lead to what they are said to; together they are no longer than 2 to the 31.
-/
import Derived.Test.YtacfcfbleogioaaGreatDoorOwn
import Derived.Test.YtacfcfbleogioaaGreatDoorMPure
namespace Go.Proofs.YtacfcfbleogioaaGreatDoor
open Go.RowKit Go.Lib Go.Joins

theorem infoInt : (Tryz.prog.info? 3).map (fun i => (i.zero, i.size, i.bytes)) = some (some (.int .i64 0), 1, 8) := by kernel_rfl
def cellsI (l : List Int) : List Value := l.map (Value.int .i64)
theorem cellsI_app (l m : List Int) : cellsI (l ++ m) = cellsI l ++ cellsI m := List.map_append
theorem cellsI_len (l : List Int) : (cellsI l).length = l.length := List.length_map _

/-- A slice leads to these numbers, in blocks of S. -/
def IRow (w : World) (S : Nat → Prop) (a : Option Addr) (xs : List Int) : Prop := xs = [] ∨ ∃ b o, a = some ⟨b, o, none⟩ ∧ S b ∧ ∀ (i : Nat) (x : Int), xs[i]? = some x → w.cell? ⟨b, o + i, none⟩ = some (.int .i64 x)
theorem IRow.nil (w : World) (S : Nat → Prop) (a : Option Addr) : IRow w S a [] := .inl rfl
theorem IRow.keep {w w' : World} {S O : Nat → Prop} {a : Option Addr} {xs : List Int} (h : IRow w S a xs) (hb : Keeps O w w') (hO : ∀ k, S k → ¬ O k) : IRow w' S a xs := by
  rcases h with h0 | ⟨b, o, ha, hS, hc⟩
  · exact .inl h0
  · exact .inr ⟨b, o, ha, hS, fun i c hi => (World.cell?_of_block (a := ⟨b, o + i, none⟩) (hb.block b (lt_of_cell (hc i c hi)) (hO b hS))).trans (hc i c hi)⟩
theorem IRow.below {w w' : World} {S : Nat → Prop} {a : Option Addr} {xs : List Int} (h : IRow w S a xs) (hb : Below w.heap.size w w') : IRow w' S a xs := h.keep (keeps_below hb Non) (fun _ _ h => h)
theorem IRow.mono {w : World} {S S' : Nat → Prop} {a : Option Addr} {xs : List Int} (h : IRow w S a xs) (hS : ∀ k, S k → S' k) : IRow w S' a xs := by
  rcases h with h0 | ⟨b, o, ha, hs, hc⟩
  · exact .inl h0
  · exact .inr ⟨b, o, ha, hS b hs, hc⟩
theorem irow_at {w : World} {S : Nat → Prop} {a : Option Addr} {xs : List Int} (h : IRow w S a xs) {i : Nat} {x : Int} (hi : xs[i]? = some x) : ∃ b o, a = some ⟨b, o, none⟩ ∧ S b ∧ w.cell? ⟨b, o + i, none⟩ = some (.int .i64 x) := by
  rcases h with h0 | ⟨b, o, ha, hs, hc⟩
  · rw [h0] at hi; simp at hi
  · exact ⟨b, o, ha, hs, hc i x hi⟩
theorem irow_cells {w : World} {S : Nat → Prop} {b : Addr} {xs : List Int} (h : IRow w S (some b) xs) : ∀ j u, (cellsI xs)[j]? = some u → w.cell? (b.add j) = some u := by
  intro j u hj
  rw [cellsI, List.getElem?_map] at hj
  obtain ⟨c, hc, rfl⟩ := Option.map_eq_some_iff.1 hj
  obtain ⟨b', o', hb, _, hcell⟩ := irow_at h hc
  obtain rfl : b = ⟨b', o', none⟩ := by simpa using hb
  rwa [Addr.add_mid]
theorem IRow.drop {w : World} {S : Nat → Prop} {b o : Nat} {xs : List Int} (h : IRow w S (some ⟨b, o, none⟩) xs) (k : Nat) : IRow w S (some ⟨b, o + k, none⟩) (xs.drop k) := by
  rcases h with h0 | ⟨b', o', ha, hs, hc⟩
  · rw [h0]; exact .inl List.drop_nil
  · obtain ⟨rfl, rfl⟩ : b = b' ∧ o = o' := by simpa using ha
    exact .inr ⟨b, o + k, rfl, hs, fun i x hi => by rw [List.getElem?_drop] at hi; rw [Nat.add_assoc]; exact hc _ x hi⟩

/-- Numbers of the call's own: in what it made since w0. -/
structure OwnI (w0 w : World) (v : Value) (l : List Int) : Prop where
  row : w.ownsRow 0 3 1 v l.length (cellsI l)
  new : ∀ k, v.ownBlock = some k → w0.heap.size ≤ k
  bel : Below w0.heap.size w0 w
theorem OwnI.nil (w : World) : OwnI w w (.slice none 0 0) [] := ⟨World.ownsRow_nil _ _ _ _, (fun k e => by cases e), Below.refl _ _⟩
theorem OwnI.three (w : World) (a b c : Int) : OwnI w (w.alloc (.cells #[.int .i64 a, .int .i64 b, .int .i64 c] 3)) (.slice (some ⟨w.heap.size, 0, none⟩) 3 3) [a, b, c] :=
  ⟨⟨rfl, .inr ⟨w.heap.size, 3, _, rfl, Nat.zero_le _, heap_alloc_new w _, Nat.le_refl _, (by unfold maxLen; omega), rfl, rfl⟩⟩, (fun k e => Nat.le_of_eq (Option.some.inj e)), (Below.refl _ _).alloc (Nat.le_refl _) _⟩
theorem OwnI.below {w0 w w' : World} {v : Value} {l : List Int} (h : OwnI w0 w v l) (hb : Below w.heap.size w w') : OwnI w0 w' v l :=
  ⟨ownsRow_keep h.row (keeps_below hb Non) (fun _ _ h => h), h.new, below_then h.bel hb⟩
theorem OwnI.from {w00 w0 w : World} {v : Value} {l : List Int} (h : OwnI w0 w v l) (hb : Below w00.heap.size w00 w0) : OwnI w00 w v l :=
  ⟨h.row, fun k e => Nat.le_trans hb.size (h.new k e), below_then hb h.bel⟩
theorem OwnI.lt {w0 w : World} {v : Value} {l : List Int} (h : OwnI w0 w v l) : ∀ k, v.ownBlock = some k → k < w.heap.size := fun k e => (h.row.lt k e).2
theorem irow_of_own {w : World} {base : Nat} {v : Value} {l : List Int} (h : w.ownsRow base 3 1 v l.length (cellsI l)) : ∃ a c, v = .slice a l.length c ∧ IRow w (fun k => v.ownBlock = some k) a l ∧ (a = none → c = 0) ∧ l.length ≤ c ∧ c ≤ maxLen := by
  rcases h.2 with ⟨h1, h0⟩ | ⟨g, cap, cur, h1, hg, hgb, hcap, hcm, hcur, htk⟩
  · exact ⟨none, 0, by rw [h1, h0], .inl (List.length_eq_zero_iff.1 h0), fun _ => rfl, by omega, Nat.zero_le _⟩
  · refine ⟨_, cap, h1, .inr ⟨g, 0, rfl, by rw [h1]; rfl, fun i x hx => ?_⟩, (fun e => by cases e), hcap, hcm⟩
    have := h.cells (g := g) (by rw [h1]; rfl) i (.int .i64 x) (by rw [cellsI, List.getElem?_map, hx]; rfl)
    rwa [Addr.add_mid] at this
theorem OwnI.form {w0 w : World} {v : Value} {l : List Int} (h : OwnI w0 w v l) : ∃ a c, v = .slice a l.length c ∧ IRow w (fun k => v.ownBlock = some k) a l ∧ (a = none → c = 0) ∧ l.length ≤ c ∧ c ≤ maxLen := irow_of_own h.row
theorem OwnI.append {w0 w : World} {v : Value} {l : List Int} (h : OwnI w0 w v l) {S : Nat → Prop} {ad : Option Addr} {m c : Nat} {x : List Int} (hr : IRow w S ad x) (hx : x.length = m) (hc : ad = none → c = 0) (hs : l.length + m ≤ 2147483648) :
    ∃ v' w', (∀ ty, (Builtin.append_ #[23, 23] ty #[v, .slice ad m c]).run Tryz.prog w = .ok v' w') ∧ OwnI w0 w' v' (l ++ x) ∧ w.grownBy w' v.ownBlock ∧ ∀ k, v'.ownBlock = some k → v.ownBlock = some k ∨ w.heap.size ≤ k := by
  cases ad with
  | some b =>
    obtain ⟨v', w', h1, h2, h3, h4⟩ := append_any (w := w) Tryz.underlying23 infoInt rfl (by decide) h.row (b := b) (m := m) (c := c) (news := cellsI x) (by rw [cellsI_len, hx, Nat.mul_one]) (irow_cells hr)
      (by intro u hu; obtain ⟨z, _, rfl⟩ := List.mem_map.1 hu; rfl) (by unfold maxLen; omega) (by omega)
    refine ⟨v', w', h1, ⟨by rw [List.length_append, hx, cellsI_app]; exact h2, fun k e => ?_, ?_⟩, h3, h4⟩
    · rcases h4 k e with h5 | h5
      · exact h.new k h5
      · exact Nat.le_trans h.bel.size h5
    · exact h.bel.trans (((Keeps.refl (fun k => v.ownBlock = some k) w).grown h3 (fun k e => .inl e)).toBelow h.bel.size (fun k e => h.new k e))
  | none =>
    have hx0 : x = [] := by
      rcases hr with h0 | ⟨b, o, he, _⟩
      · exact h0
      · cases he
    obtain rfl : c = 0 := hc rfl
    subst hx0
    obtain rfl : m = 0 := by rw [← hx]; rfl
    refine ⟨v, w, append_any_none Tryz.underlying23 infoInt h.row, by rw [List.append_nil]; exact h, ⟨rfl, rfl, rfl, Nat.le_refl _, fun _ _ _ => rfl⟩, fun k e => .inl e⟩
/-- A new row of numbers. -/
theorem irow_new (w : World) (l : List Int) (fr : Nat × Nat) : IRow (w.alloc (.cells (cellsI l).toArray 3 fr)) (One w.heap.size) (some ⟨w.heap.size, 0, none⟩) l := by
  refine .inr ⟨_, _, rfl, rfl, fun i c hi => ?_⟩
  rw [Nat.zero_add, World.cell?_alloc_mark w _ 3 fr i]
  rw [List.getElem?_toArray, cellsI, List.getElem?_map, hi]
  rfl

/-- A manifest's value. -/
def manV (g l : Int) (a : Option Addr) (n c : Nat) : Value := .agg #[.int .i64 g, .int .i64 l, .slice a n c]

end Go.Proofs.YtacfcfbleogioaaGreatDoor
