/-
  A law for the walk: append of a row of texts, wherever it lies, to a row of the call's own, in an operation that stands behind a guard or not. Conditions: the rows are short; the texts' cells are there.
-/
import Derived.Test.YtgncdbclpokkhaaDoorPeel
import Derived.Laws.AppendOwnNone
namespace Go.Proofs.YtgncdbclpokkhaaDoor
open Go.RowKit Go.Extern.Stop Go.Stop Go.Extern

theorem wpList_wanted {P : Program} {ops : Array Oper} {rest : List Oper} {o : Oper} {a : Act} {w : World} {Q : Exit → Act → World → Prop} (hg : Region.wanted o (yielded ops a.tmps) = true)
    (h : ∀ K : Act → World → Prop, (∀ a w, wpList P ops Q rest a w → K a w) → o.wp P a w K Q) : wpList P ops Q (o :: rest) a w :=
  wpList_step fun K hK => by rw [if_pos hg]; exact h K hK

/-- A slice value that holds the texts: none, or cells from an address on. -/
def TextsOf (w : World) (x : Value) (ys : List ByteArray) : Prop :=
  (x = .slice none 0 0 ∧ ys = []) ∨ ∃ ad c, x = .slice (some ad) ys.length c ∧ ∀ (j : Nat) y, ys[j]? = some y → w.cell? (ad.add j) = some (.string y)

theorem TextsOf.below {w w' : World} {x : Value} {ys : List ByteArray} (h : TextsOf w x ys) (hb : Below w.heap.size w w') : TextsOf w' x ys := by
  rcases h with h | ⟨ad, c, h1, h2⟩
  · exact Or.inl h
  · exact Or.inr ⟨ad, c, h1, fun j y hj => by
      have hc := h2 j y hj
      exact (hb.cell (World.block_lt_of_cell? w _ hc)).trans hc⟩

/-- The row of the call's own, and new blocks alone. -/
def AppOut (B : Nat) (w : World) (v : Value) (xs : List ByteArray) (v' : Value) (w' : World) : Prop := w'.ownsRow B 9 1 v' xs.length (xs.map Value.string) ∧ w.grownBy w' v.ownBlock

theorem wp_app {o : Oper} {a : Act} {w : World} {K : Act → World → Prop} {Q : Exit → Act → World → Prop} (s x : Operand) (ho : o.op = .call { callee := .builtin .append, args := #[s, x], argTypes := #[23, 23] })
    (B : Nat) (v X : Value) (xs ys : List ByteArray) (hs : a.eval s = v) (hown : w.ownsRow B 9 1 v xs.length (xs.map Value.string)) (hx : a.eval x = X) (hsrc : TextsOf w X ys) (hlen : xs.length + ys.length ≤ 1000) (hbase : B ≤ w.heap.size)
    (h : ∀ v' w', AppOut B w v (xs ++ ys) v' w' → K (a.put o.dst v') w') : o.wp Tryd.prog a w K Q := by
  obtain ⟨i0, hi, hz0, hz1, hz2⟩ := info_parts info9
  rcases hsrc with ⟨rfl, rfl⟩ | ⟨ad, c, rfl, hc⟩
  · have hrun := run_append_owned_none (P := Tryd.prog) (w := w) B 23 o.type 9 i0 1 Tryd.underlying23 hi v xs.length (xs.map Value.string) hown
    unfold Oper.wp
    simp [execOp, ho, resolve, invoke, builtin, hs, hx, hrun, Result.andThen]
    exact h v w ⟨by simpa using hown, ⟨rfl, rfl, rfl, Nat.le_refl _, fun _ _ _ => rfl⟩⟩
  · refine wp_append_own w s x 23 ho B 9 i0 (.string ⟨#[]⟩) 1 16 Tryd.underlying23 hi hz0 hz1 hz2 rfl (by decide) v xs.length (xs.map Value.string) hs hown ad ys.length c (ys.map Value.string) hx (by simp) ?_ ?_ (by unfold maxLen; omega) (by omega) hbase ?_
    · intro j u hj
      rw [List.getElem?_map] at hj
      obtain ⟨y, hy, rfl⟩ := Option.map_eq_some_iff.1 hj
      exact hc j y hy
    · intro u hu
      obtain ⟨y, _, rfl⟩ := List.mem_map.1 hu
      rfl
    · intro v' w' h1 h2 _
      exact h v' w' ⟨by simpa using h1, h2⟩

theorem row_texts {w : World} {B : Nat} {v : Value} {xs : List ByteArray} (h : w.ownsRow B 9 1 v xs.length (xs.map Value.string)) : TextsOf w v xs := by
  rcases h.2 with ⟨h1, h0⟩ | ⟨g, cap, cur, rfl, hg, hgb, hcap, hcm, hcur, htk⟩
  · exact Or.inl ⟨h1, List.length_eq_zero_iff.1 h0⟩
  · exact Or.inr ⟨⟨g, 0, none⟩, cap, rfl, fun j y hj => h.cells (g := g) rfl j (.string y) (by rw [List.getElem?_map, hj]; rfl)⟩

theorem app_below {B : Nat} {w w' : World} {v v' : Value} {xs : List ByteArray} {n : Nat} {ys : List Value} (h : AppOut B w v xs v' w') (hv : w.ownsRow B 9 1 v n ys) (hB : B ≤ w.heap.size) : Below B w w' :=
  (Below.refl B w).grown h.2 hB (fun k hk => (hv.lt k hk).1)
end Go.Proofs.YtgncdbclpokkhaaDoor
