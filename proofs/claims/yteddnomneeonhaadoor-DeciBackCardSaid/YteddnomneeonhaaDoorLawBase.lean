/-
  What the laws' walks share: a variable's two cells behind a store to it, or to another. No condition.
-/
import Derived.Test.YteddnomneeonhaaDoorBase
import Derived.Lib.QuietBelow
import Derived.BigQuiet
namespace Go.Proofs.YteddnomneeonhaaDoor
open Go.RowKit

theorem own_alloc {b : Nat} {x y : Value} {w : World} (h : Own2 b x y w) (o : Obj) : Own2 b x y (w.alloc o) := h.below ((Below.refl _ _).alloc (Nat.le_refl _) _)
theorem own_new (w : World) (x y : Value) (t : TypeId) : Own2 w.heap.size x y (w.alloc (.cells #[x, y] t)) := ⟨by go_simp, by go_simp, by go_simp, by go_simp⟩
theorem own_set {c : Nat} {x y u v : Value} {w : World} (h : Own2 c x y w) : Own2 c u v ((w.setCell ⟨c, 0, none⟩ u).setCell ⟨c, 1, none⟩ v) := by
  obtain ⟨h0, h1, h2, h3⟩ := h
  exact ⟨by go_simp, by go_simp, by go_simp, by go_simp⟩
theorem own_other {b c : Nat} {x y u v x' y' : Value} {w : World} (h : Own2 b x y w) (hc : Own2 c x' y' w) (hne : b ≠ c) : Own2 b x y ((w.setCell ⟨c, 0, none⟩ u).setCell ⟨c, 1, none⟩ v) := by
  obtain ⟨h0, h1, h2, h3⟩ := h
  obtain ⟨g0, g1, g2, g3⟩ := hc
  exact ⟨by go_simp, by go_simp, by go_simp, by go_simp⟩

end Go.Proofs.YteddnomneeonhaaDoor
