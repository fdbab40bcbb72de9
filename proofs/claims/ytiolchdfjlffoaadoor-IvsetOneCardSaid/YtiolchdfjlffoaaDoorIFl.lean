/-
  Flags of 201 versions, as an array in memory. No condition.
-/
import Derived.Test.YtiolchdfjlffoaaDoorIS
namespace Go.Proofs.YtiolchdfjlffoaaDoor
open Go.RowKit Go.Lib Go.Joins

/-- An array's cells: whether each version from 0 to 200 is told of. -/
def flagV (g : Int → Bool) : Array Value := ((List.range 201).map fun k : Nat => Value.bool (g (k : Int))).toArray
theorem flagV_size (g : Int → Bool) : (flagV g).size = 201 := by
  unfold flagV
  rw [List.size_toArray, List.length_map, List.length_range]
theorem flagV_at (g : Int → Bool) {i : Nat} (h : i ≤ 200) : (flagV g)[i]? = some (.bool (g (i : Int))) := by
  unfold flagV
  rw [List.getElem?_toArray, List.getElem?_map, List.getElem?_range (by omega)]
  rfl
theorem flagV_set (g : Int → Bool) {i : Nat} : (flagV g).setIfInBounds i (.bool true) = flagV (fun v => g v || decide (v = (i : Int))) := by
  apply Array.ext
  · rw [Array.size_setIfInBounds, flagV_size, flagV_size]
  · intro k h1 h2
    rw [Array.size_setIfInBounds, flagV_size] at h1
    have e1 := flagV_at g (i := k) (by omega)
    have e2 := flagV_at (fun v => g v || decide (v = (i : Int))) (i := k) (by omega)
    rw [Array.getElem?_eq_getElem h2] at e2
    rw [Array.getElem?_eq_getElem (by rw [flagV_size]; exact h1)] at e1
    rw [Option.some.inj e2, Array.getElem_setIfInBounds (by rw [flagV_size]; exact h1)]
    split
    · rename_i h
      subst h
      simp
    · rename_i h
      rw [Option.some.inj e1, decide_eq_false (by omega : ¬ (k : Int) = (i : Int)), Bool.or_false]
theorem flagV_put (g : Int → Bool) {i : Nat} (b : Bool) : (flagV g).setIfInBounds i (.bool b) = flagV (fun v => if v = (i : Int) then b else g v) := by
  apply Array.ext
  · rw [Array.size_setIfInBounds, flagV_size, flagV_size]
  · intro k h1 h2
    rw [Array.size_setIfInBounds, flagV_size] at h1
    have e1 := flagV_at g (i := k) (by omega)
    have e2 := flagV_at (fun v => if v = (i : Int) then b else g v) (i := k) (by omega)
    rw [Array.getElem?_eq_getElem h2] at e2
    rw [Array.getElem?_eq_getElem (by rw [flagV_size]; exact h1)] at e1
    rw [Option.some.inj e2, Array.getElem_setIfInBounds (by rw [flagV_size]; exact h1)]
    split
    · rename_i h
      subst h
      rw [if_pos rfl]
    · rename_i h
      rw [Option.some.inj e1, if_neg (by omega : ¬ (k : Int) = (i : Int))]
theorem flagV_ext {g h : Int → Bool} (e : ∀ v, 0 ≤ v → v ≤ 200 → g v = h v) : flagV g = flagV h := by
  unfold flagV
  congr 1
  refine List.map_congr_left fun k hk => ?_
  have := List.mem_range.1 hk
  rw [e (k : Int) (by omega) (by omega)]
theorem flagV_one (g : Int → Bool) : (flagV g).all (·.oneCell') = true := by
  refine all_oneCell_toArray fun v hv => ?_
  obtain ⟨k, _, rfl⟩ := List.mem_map.1 hv
  rfl
theorem zero47 : Tryd.zeroCells47 = flagV (fun _ => false) := by kernel_rfl
theorem zero48 : Tryd.zeroCells48 = flagV (fun _ => false) := by kernel_rfl
theorem info47 : (Tryd.prog.info? 47).map (·.size) = some 201 := by kernel_rfl
theorem info48 : (Tryd.prog.info? 48).map (·.size) = some 201 := by kernel_rfl

/-- A block that holds flags. -/
def FlagAt (w : World) (b : Nat) (t : TypeId) (g : Int → Bool) : Prop := w.heap[b]? = some (.cells (flagV g) t (0, 0))
theorem FlagAt.below {w w' : World} {b : Nat} {t : TypeId} {g : Int → Bool} (h : FlagAt w b t g) (hb : Below w.heap.size w w') : FlagAt w' b t g := block_below hb h
theorem FlagAt.cell {w : World} {b : Nat} {t : TypeId} {g : Int → Bool} (h : FlagAt w b t g) {i : Nat} (hi : i ≤ 200) : w.cell? ⟨b, i, none⟩ = some (.bool (g (i : Int))) := (cell_of_block h i).trans (flagV_at g hi)
theorem FlagAt.frozen {w : World} {b : Nat} {t : TypeId} {g : Int → Bool} (h : FlagAt w b t g) (i : Nat) : w.frozen? ⟨b, i, none⟩ = false := frozen_of_row w b i _ t h
theorem FlagAt.set {w : World} {b : Nat} {t : TypeId} {g : Int → Bool} (h : FlagAt w b t g) (i : Nat) : FlagAt (w.setCell ⟨b, i, none⟩ (.bool true)) b t (fun v => g v || decide (v = (i : Int))) := by
  unfold FlagAt
  rw [heap_setCell_same w b i _ t _ h, flagV_set]
theorem FlagAt.put {w : World} {b : Nat} {t : TypeId} {g : Int → Bool} (h : FlagAt w b t g) (i : Nat) (x : Bool) : FlagAt (w.setCell ⟨b, i, none⟩ (.bool x)) b t (fun v => if v = (i : Int) then x else g v) := by
  unfold FlagAt
  rw [heap_setCell_same w b i _ t _ h, flagV_put]
theorem FlagAt.keep {w w' : World} {O : Nat → Prop} {b : Nat} {t : TypeId} {g : Int → Bool} (h : FlagAt w b t g) (hk : Keeps O w w') (hb : ¬ O b) : FlagAt w' b t g := block_keep h hk hb
theorem FlagAt.ext {w : World} {b : Nat} {t : TypeId} {g h : Int → Bool} (k : FlagAt w b t g) (e : ∀ v, 0 ≤ v → v ≤ 200 → g v = h v) : FlagAt w b t h := by
  unfold FlagAt at k ⊢
  rw [k, flagV_ext e]
theorem FlagAt.lt {w : World} {b : Nat} {t : TypeId} {g : Int → Bool} (h : FlagAt w b t g) : b < w.heap.size := lt_of_block h
end Go.Proofs.YtiolchdfjlffoaaDoor
