/-
  From the second form's bound to the walks' facts: the lengths of the texts of a row, and the reference's text of it. Conditions: each theorem's own.
-/
import Derived.Test.YtgncdbclpokkhaaDoorOpen
import Derived.Test.YtgncdbclpokkhaaDoorRefText
namespace Go.Proofs.YtgncdbclpokkhaaDoor
open Go.ChangeShapes Go.WideShapes Go.ChangeAt Go.RowKit

/-- The bytes of the texts, all together. -/
def total (xs : List ByteArray) : Nat := Lib.lens (xs.map (·.data.toList))
theorem total_cons (x : ByteArray) (r : List ByteArray) : total (x :: r) = x.size + total r := by
  have e : x.data.toList.length = x.size := Array.length_toList
  simp only [total, Lib.lens, List.map_cons, List.sum_cons] at e ⊢
  omega
theorem total_append (l r : List ByteArray) : total (l ++ r) = total l + total r := by
  induction l with
  | nil => simp [total, Lib.lens]
  | cons x l ih => rw [List.cons_append, total_cons, total_cons, ih]; omega
theorem total_reverse (l : List ByteArray) : total l.reverse = total l := by
  induction l with
  | nil => rfl
  | cons x l ih =>
    rw [List.reverse_cons, total_append, ih, total_cons, total_cons]
    have : total [] = 0 := rfl
    omega
theorem size_le_total {x : ByteArray} {l : List ByteArray} (h : x ∈ l) : x.size ≤ total l := by
  induction l with
  | nil => cases h
  | cons y l ih =>
    rw [total_cons]
    cases List.mem_cons.1 h with
    | inl e => subst e; omega
    | inr e => have := ih e; omega

theorem bulk_append {H : Type} (l r : List (DataW H)) : Rows.uptoBulkAll (l ++ r) = Rows.uptoBulkAll l + Rows.uptoBulkAll r := by
  induction l with
  | nil => simp [Rows.uptoBulkAll]
  | cons x l ih => simp only [List.cons_append, Rows.uptoBulkAll, ih]; omega
theorem bulk_strs {H : Type} (l : List ByteArray) : Rows.uptoBulkAll (strs (H := H) l) = total l + l.length := by
  induction l with
  | nil => rfl
  | cons x l ih =>
    rw [total_cons, List.length_cons]
    have e : x.data.toList.length = x.size := Array.length_toList
    simp only [strs, List.map_cons, Rows.uptoBulkAll, Rows.uptoBulk] at ih ⊢
    omega
theorem bulk_bound {H : Type} {l : List (DataW H)} (hk : Rows.uptoSmall H l = true) : Rows.uptoBulkAll l ≤ 1048576 := of_decide_eq_true hk
theorem bulk_mem {H : Type} {d : DataW H} {l : List (DataW H)} (h : d ∈ l) : Rows.uptoBulk d ≤ Rows.uptoBulkAll l := by
  induction l with
  | nil => cases h
  | cons x r ih =>
    simp only [Rows.uptoBulkAll]
    cases List.mem_cons.1 h with
    | inl e => subst e; omega
    | inr e => have := ih e; omega
/-- A row of texts within data of small bulk. -/
theorem total_of_small {H : Type} {l : List (DataW H)} {ss rest : List ByteArray} (hk : Rows.uptoSmall H l = true) (h : DataW.slice (strs ss) (strs rest) ∈ l) : total ss ≤ 1048576 := by
  have h1 := bulk_bound hk
  have h2 := bulk_mem h
  simp only [Rows.uptoBulk] at h2
  rw [bulk_strs] at h2
  omega

theorem ref_eq (c a : Int) (xs : List ByteArray) : Lib.join (xs.reverse.map (·.data.toList) ++ [plainText c a]) [58, 32] = refOf c a xs := join_tails _ _
theorem ref_length (c a : Int) (xs : List ByteArray) (hc0 : -9223372036854775808 ≤ c) (hc1 : c ≤ 9223372036854775807) (ha0 : -9223372036854775808 ≤ a) (ha1 : a ≤ 9223372036854775807) : (refOf c a xs).length ≤ total xs + 2 * xs.length + 51 := by
  have h1 := plainText_length c a hc0 hc1 ha0 ha1
  have h2 : Lib.lens (xs.reverse.map (·.data.toList)) = total xs := total_reverse xs
  unfold refOf
  rw [List.length_append, tails_length, h2]
  simp only [List.length_map, List.length_reverse]
  omega

/-- The reference's text of a row of texts, in every later world. -/
theorem refs_of_cells {w : World} {b o len cap : Nat} {ss : List ByteArray} (hl : len ≤ ss.length) (hcell : ∀ j, j < ss.length → w.cell? ⟨b, o + j, none⟩ = some (.string (ss.getD j ByteArray.empty))) (h50 : len ≤ 50) (c a : Int)
    (hc : c ≠ 0) (hc0 : -9223372036854775808 ≤ c) (hc1 : c ≤ 9223372036854775807) (ha0 : -9223372036854775808 ≤ a) (ha1 : a ≤ 9223372036854775807) (ht : total (ss.take len) ≤ 1048576) (w' : World) (hb : Below w.heap.size w w') :
    Calls Tryd.prog 13 #[.int .i64 c, .int .i64 a, .slice (some ⟨b, o, none⟩) len cap] w' (Leaves1 (.string ⟨(refOf c a (ss.take len)).toArray⟩) w') := by
  by_cases h0 : len = 0
  · subst h0
    exact ref_text_none c a _ cap w' (beq_eq_false_iff_ne.2 hc) hc0 hc1 ha0 ha1
  · have hlen : (ss.take len).length = len := by simp; omega
    have hx : TextsAt w' b o (ss.take len) := by
      intro j x hj
      have hj2 : j < len := by have := (List.getElem?_eq_some_iff.1 hj).1; omega
      have hcl := hcell j (by omega)
      rw [hb.cell (p := ⟨b, o + j, none⟩) (lt_of_cell hcl), hcl]
      rw [List.getElem?_take, if_pos hj2] at hj
      simp [List.getD, hj]
    have := ref_text c a b o cap (ss.take len) w' (beq_eq_false_iff_ne.2 hc) hc0 hc1 ha0 ha1 hx (by omega) (fun x hx => by have := size_le_total hx; omega)
    rwa [hlen] at this
end Go.Proofs.YtgncdbclpokkhaaDoor
