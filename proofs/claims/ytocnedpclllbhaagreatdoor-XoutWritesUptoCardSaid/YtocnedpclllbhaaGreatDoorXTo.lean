/-
 Tokens in memory, at whatever place of a row; two rows of the same tokens are told to be the same by the reference. Condition: the slices lead to what they are said to.
-/
import Derived.Test.YtocnedpclllbhaaGreatDoorXTk
import Derived.KernelRfl
import Derived.Test.YtocnedpclllbhaaGreatDoorXTa
import Derived.Lib.QuietBelow
import Derived.BigQuiet
namespace Go.Proofs.YtocnedpclllbhaaGreatDoor
open Go.RowKit Go.Lib Go.Joins

/-- A row of bytes in a block of its own is a document. -/
theorem doc_of_cells {w : World} {b : Nat} {l : List UInt8} {c : Nat} (h : ∀ k, k < l.length → w.cell? ⟨b, 0 + k, none⟩ = some (.int .u8 (fs l k : Int))) (hc : l.length ≤ c) (hm : c ≤ maxLen) : DocAt w (some ⟨b, 0, none⟩) c l where
  row := .inr ⟨b, 0, rfl, h⟩
  nul := fun h => by cases h
  cap := hc
  most := hm

theorem doc_str (W : World) (l : List UInt8) (h : l.length ≤ 1000000) : DocAt (bytesWorld W 5 (strB l)) (some ⟨W.heap.size, 0, none⟩) (grownCap W (strB l).size 0 5) l :=
  doc_of_cells (fun k hk => by
    rw [Nat.zero_add, bytesWorld_cell W 5 (strB l) k (by rw [strB_size]; exact hk), strB_list]
    rfl) (Nat.le_trans (by rw [strB_size]; exact Nat.le_refl _) (grownCap_ge W _ _ _)) (grownCap_le_maxLen W _ _ _ (by rw [strB_size]; unfold maxLen; omega))

theorem cell_kept {w w' : World} {O : Nat → Prop} {b p : Nat} {v : Value} (h : w.cell? ⟨b, p, none⟩ = some v) (hk : Keeps O w w') (hb : ¬ O b) : w'.cell? ⟨b, p, none⟩ = some v :=
  (World.cell?_of_block (hk.block b (lt_of_cell h) hb)).trans h
theorem att_keep {w w' : World} {S O : Nat → Prop} {v : Value} {l : List (List UInt8 × List UInt8)} (h : AttIn w S v l) (hk : Keeps O w w') (hS : ∀ k, S k → ¬ O k) : AttIn w' S v l := by
  obtain ⟨a, c, h1, h2, h3, h4, h5⟩ := h
  refine ⟨a, c, h1, h2, h3, h4, ?_⟩
  rcases h5 with h5 | ⟨b, o, h6, h7, h8⟩
  · exact .inl h5
  · exact .inr ⟨b, o, h6, h7, fun i x hx => ⟨cell_kept (h8 i x hx).1 hk (hS b h7), cell_kept (h8 i x hx).2 hk (hS b h7)⟩⟩
theorem att_below {w w' : World} {S : Nat → Prop} {v : Value} {l : List (List UInt8 × List UInt8)} (h : AttIn w S v l) (hb : Below w.heap.size w w') : AttIn w' S v l := att_keep h (keeps_below hb Non) (fun _ _ h => h)
end Go.Proofs.YtocnedpclllbhaaGreatDoor
