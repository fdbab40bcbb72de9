/-
  The program's Files. Conditions: the disk lies in memory; all files together are no more than 2 to the 30 bytes.
-/
import Derived.Test.YtjhiekijbcjohaaDoorGrow
import Derived.Deep.RegionHeld3
import Derived.Deep.DrawnRows
namespace Go.Proofs.YtjhiekijbcjohaaDoor
open Go.RowKit Go.Lib Go.Joins

/-- A new slice of these files. -/
def FilesOut (l : List FilI) (w : World) (e : Ending) (w' : World) : Prop :=
  ∃ a c S', e = .returned (.slice a l.length c) ∧ Fils w' S' a l ∧ (a = none → c = 0) ∧ l.length ≤ c ∧ c ≤ maxLen ∧ (∀ k, S' k → w.heap.size ≤ k ∧ k < w'.heap.size) ∧ Below w.heap.size w w'

theorem names_cells {w : World} {base : Nat} {v : Value} {l : List ByteArray} (h : w.ownsRow base 9 1 v l.length (l.map Value.string)) : ∃ a c, v = .slice a l.length c ∧ (l = [] ∨ ∃ g, a = some ⟨g, 0, none⟩ ∧ base ≤ g ∧ ∀ (i : Nat) (s : ByteArray), l[i]? = some s → w.cell? ⟨g, i, none⟩ = some (.string s)) := by
  rcases h.2 with ⟨h1, h0⟩ | ⟨g, cap, cur, h1, hg, hgb, hcap, hcm, hcur, htk⟩
  · exact ⟨none, 0, by rw [h1, h0], .inl (List.length_eq_zero_iff.1 h0)⟩
  · refine ⟨_, cap, h1, .inr ⟨g, rfl, hg, fun i s hi => ?_⟩⟩
    have := h.cells (g := g) (by rw [h1]; rfl) i (.string s) (by rw [List.getElem?_map, hi]; rfl)
    rw [Addr.add_mid, Nat.zero_add] at this
    exact this

theorem dv_form2 {w : World} {base e size n : Nat} {dv : Value} {xs : List Value} (h : w.ownsRow base e size dv n xs) : ∃ a c, dv = .slice a n c := by
  rcases h.2 with ⟨h1, h0⟩ | ⟨g, cap, cur, h1, _⟩
  · exact ⟨none, 0, by rw [h1, h0]⟩
  · exact ⟨_, cap, h1⟩

theorem ownsRow_base0 {w : World} {base e size n : Nat} {v : Value} {xs : List Value} (h : w.ownsRow base e size v n xs) : w.ownsRow 0 e size v n xs := ownsRow_le h (Nat.zero_le _)

/-- A cell of the list as the map tells it. -/
theorem cfnd_at {cs : List Cel} (hs : Srt (cs.map Cel.f)) {i : Nat} {c : Cel} (hi : cs[i]? = some c) : cfnd c.f.name cs = some c := by
  have hm : c ∈ cs := List.mem_of_getElem? hi
  cases hc : cfnd c.f.name cs with
  | none =>
    unfold cfnd at hc
    have := List.find?_eq_none.1 hc c hm
    simp at this
  | some x =>
    obtain ⟨h1, h2⟩ := cfnd_some hc
    rw [srt_inj hs x h1 c hm h2]

theorem other_elem_n {w : World} {b e n size : Nat} {v : Value} {xs : List Value} {cs : Array Value} {t : TypeId} {fr : Nat × Nat} (h : w.heap[b]? = some (.cells cs t fr)) (hown : w.ownsRow 0 e size v n xs) (ht : t ≠ e) : v.ownBlock ≠ some b := by
  intro hb
  rcases hown.2 with ⟨rfl, _⟩ | ⟨g, cap, cur, rfl, _, hg, _⟩
  · cases hb
  · have : g = b := Option.some.inj hb
    subst this
    rw [h] at hg
    simp only [Option.some.injEq, Obj.cells.injEq] at hg
    exact ht hg.2.1

theorem news_at {w : World} {l : List Value} {t : TypeId} : ∀ j u, l[j]? = some u → (w.alloc (.cells l.toArray t)).cell? ((⟨w.heap.size, 0, none⟩ : Addr).add j) = some u := by
  intro j u hj
  rw [Addr.add_mid, Nat.zero_add, cell_of_block (heap_alloc_new w (.cells l.toArray t)) j]
  simpa using hj

end Go.Proofs.YtjhiekijbcjohaaDoor
