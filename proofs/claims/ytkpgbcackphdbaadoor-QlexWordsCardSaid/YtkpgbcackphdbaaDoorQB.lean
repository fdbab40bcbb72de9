/-
  What the walks of expressions' tokens share: texts, a token's value, stores of a token into a block of the call's own. No condition.
-/
import Derived.Test.YtkpgbcackphdbaaDoorQR
import Derived.Test.YtkpgbcackphdbaaDoorQSh
import Derived.Test.YtkpgbcackphdbaaDoorKK
import Derived.Test.YtkpgbcackphdbaaDoorSErr
import Derived.OrdersHeld
import Derived.Deep.RegionHeld
import Derived.Deep.RegionHeld3
namespace Go.Proofs.YtkpgbcackphdbaaDoor
open Go.RowKit Go.Lib Go.Joins

theorem strB_size (x : List UInt8) : (strB x).size = x.length := by
  unfold strB ByteArray.size
  simp
theorem strB_list (x : List UInt8) : (strB x).data.toList = x := rfl
theorem strB_back (s : ByteArray) : strB s.data.toList = s := by
  apply ByteArray.ext
  rfl
theorem strB_app (a b : List UInt8) : strB a ++ strB b = strB (a ++ b) := by
  apply ByteArray.ext
  rw [ByteArray.data_append]
  simp [strB]
theorem extract_strB (s : ByteArray) (f i : Nat) : s.extract f i = strB ((s.data.toList.drop f).take (i - f)) := by
  apply ByteArray.ext
  apply Array.toList_inj.1
  rw [extract_data]
  rfl
theorem drop_strB (l : List UInt8) (k : Nat) : (strB l).extract k (strB l).size = strB (l.drop k) := by
  rw [extract_strB, strB_list, List.take_of_length_le (by rw [List.length_drop, strB_size]; omega)]
theorem take_strB (l : List UInt8) (k : Nat) : (strB l).extract 0 k = strB (l.take k) := by
  rw [extract_strB, strB_list, List.drop_zero, Nat.sub_zero]
/-- The library's bound for searches is laid. -/
def MaxLen (w : World) : Prop := ∃ m : Int, w.cell? ⟨8, 0, none⟩ = some (.int .i64 m)
theorem MaxLen.below {w w' : World} (h : MaxLen w) (hb : Below w.heap.size w w') : MaxLen w' := ⟨h.choose, cell_below hb h.choose_spec⟩
/-- A token's value. -/
def tokV (k at_ : Int) (t : ByteArray) : Value := .agg #[.int .i64 k, .int .i64 at_, .string t]
/-- What a reading of a token tells. -/
def rdV (r : Rd) : Value :=
  match r with
  | .ok (k, t, z) => .tuple #[.agg #[.int .i64 k, .int .i64 0, .string (strB t)], .int .i64 (z : Int), .int .i64 0]
  | .error c => .tuple #[.agg #[.int .i64 0, .int .i64 0, .string ⟨#[]⟩], .int .i64 0, .int .i64 c]
theorem store_three {w : World} {B n : Nat} {T : TypeId} {x y z : Value} (a b c : Value) (h : w.heap[B]? = some (.cells #[x, y, z] T (0, 0))) (hn : n ≤ B) :
    (((w.setCell ⟨B, 0, none⟩ a).setCell ⟨B, 1, none⟩ b).setCell ⟨B, 2, none⟩ c).heap[B]? = some (.cells #[a, b, c] T (0, 0)) ∧ Below n w (((w.setCell ⟨B, 0, none⟩ a).setCell ⟨B, 1, none⟩ b).setCell ⟨B, 2, none⟩ c) :=
  ⟨block_setCell (i := 2) (block_setCell (i := 1) (block_setCell (i := 0) h a) b) c, (((Below.refl _ _).setCell (p := ⟨B, 0, none⟩) hn _).setCell (p := ⟨B, 1, none⟩) hn _).setCell (p := ⟨B, 2, none⟩) hn _⟩
theorem three_cells {w : World} {B : Nat} {T : TypeId} {x y z : Value} (h : w.heap[B]? = some (.cells #[x, y, z] T (0, 0))) : w.cell? ⟨B, 0, none⟩ = some x ∧ w.cell? ⟨B, 1, none⟩ = some y ∧ w.cell? ⟨B, 2, none⟩ = some z :=
  ⟨(cell_of_block h 0).trans rfl, (cell_of_block h 1).trans rfl, (cell_of_block h 2).trans rfl⟩

end Go.Proofs.YtkpgbcackphdbaaDoor
