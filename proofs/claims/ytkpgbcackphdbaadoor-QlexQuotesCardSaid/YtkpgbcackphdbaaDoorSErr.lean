/-
  Package fault's New and Wrap, the error of a code and a place, wrapped once. No condition.
-/
import Derived.Test.YtkpgbcackphdbaaDoorKK
namespace Go.Proofs.YtkpgbcackphdbaaDoor
open Go.RowKit Go.Lib

/-- A plain error's value. -/
def plainV (c a : Int) : Value := .iface 47 (.agg #[.int .i64 c, .int .i64 a])
def segS : ByteArray := ⟨#[113, 117, 101, 114, 121]⟩
/-- The error of a code and a number, wrapped once; none, if the code is 0. -/
def ErrAt (B : Nat) (w : World) (c n : Int) (v : Value) : Prop :=
  (c = 0 ∧ v = .nilIface) ∨ (c ≠ 0 ∧ ∃ b, v = .iface 61 (.pointer (some ⟨b, 0, none⟩)) ∧ w.cell? ⟨b, 0, none⟩ = some (.string segS) ∧ w.cell? ⟨b, 1, none⟩ = some (plainV c n) ∧ B ≤ b)
theorem ErrAt.low {B B' : Nat} {w : World} {c n : Int} {v : Value} (h : ErrAt B w c n v) (hB : B' ≤ B) : ErrAt B' w c n v := by
  rcases h with h | ⟨h0, b, h1, h2, h3, h4⟩
  · exact .inl h
  · exact .inr ⟨h0, b, h1, h2, h3, Nat.le_trans hB h4⟩
theorem ErrAt.below {B : Nat} {w w' : World} {c n : Int} {v : Value} (h : ErrAt B w c n v) (hb : Below w.heap.size w w') : ErrAt B w' c n v := by
  rcases h with h | ⟨h0, b, h1, h2, h3, h4⟩
  · exact .inl h
  · exact .inr ⟨h0, b, h1, (hb.cell (p := ⟨b, 0, none⟩) (lt_of_cell h2)).trans h2, (hb.cell (p := ⟨b, 1, none⟩) (lt_of_cell h3)).trans h3, h4⟩

theorem new_ok (a : Int) (w : World) : Calls Tryd.prog 20 #[.int .i64 0, .int .i64 a] w fun e w' => e = .returned .nilIface ∧ w = w' := by
  go_enter Tryd.func20, Tryd.ntmps20
  go_wp2
  go_ret
  exact ⟨rfl, rfl⟩
theorem new_code (c a : Int) (w : World) (hc : (c == 0) = false) : Calls Tryd.prog 20 #[.int .i64 c, .int .i64 a] w fun e w' => e = .returned (plainV c a) ∧ w = w' := by
  go_enter Tryd.func20, Tryd.ntmps20
  go_wp2
  go_ret
  exact ⟨rfl, rfl⟩
theorem wrap_nil (s : ByteArray) (w : World) : Calls Tryd.prog 19 #[.string s, .nilIface] w fun e w' => e = .returned .nilIface ∧ w = w' := by
  go_enter Tryd.func19, Tryd.ntmps19
  go_wp2
  go_ret
  exact ⟨rfl, rfl⟩
theorem wrap_some (s : ByteArray) (T : TypeId) (v : Value) (w : World) : Calls Tryd.prog 19 #[.string s, .iface T v] w fun e w' =>
    e = .returned (.iface 61 (.pointer (some ⟨w.heap.size, 0, none⟩))) ∧ w.alloc (.cells #[.string s, .iface T v] 63) = w' := by
  go_enter Tryd.func19, Tryd.ntmps19
  go_wp2
  go_ret
  exact ⟨rfl, rfl⟩

end Go.Proofs.YtkpgbcackphdbaaDoor
