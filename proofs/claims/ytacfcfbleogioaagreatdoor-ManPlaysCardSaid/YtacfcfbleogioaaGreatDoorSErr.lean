/-
  Package fault's New and Wrap, and man's fail: the error of a code and a generation. No condition.
-/
import Derived.Test.YtacfcfbleogioaaGreatDoorBase
import Derived.Test.YtacfcfbleogioaaGreatDoorPureB
namespace Go.Proofs.YtacfcfbleogioaaGreatDoor
open Go.RowKit Go.Lib

/-- A plain error's value. -/
def plainV (c a : Int) : Value := .iface 108 (.agg #[.int .i64 c, .int .i64 a])
def segS : ByteArray := ⟨#[109, 97, 110, 105, 102, 101, 115, 116]⟩
/-- The error of a code and a number, wrapped once; none, if the code is 0. -/
def ErrAt (B : Nat) (w : World) (c n : Int) (v : Value) : Prop :=
  (c = 0 ∧ v = .nilIface) ∨ (c ≠ 0 ∧ ∃ b, v = .iface 157 (.pointer (some ⟨b, 0, none⟩)) ∧ w.cell? ⟨b, 0, none⟩ = some (.string segS) ∧ w.cell? ⟨b, 1, none⟩ = some (plainV c n) ∧ B ≤ b)
theorem ErrAt.low {B B' : Nat} {w : World} {c n : Int} {v : Value} (h : ErrAt B w c n v) (hB : B' ≤ B) : ErrAt B' w c n v := by
  rcases h with h | ⟨h0, b, h1, h2, h3, h4⟩
  · exact .inl h
  · exact .inr ⟨h0, b, h1, h2, h3, Nat.le_trans hB h4⟩
theorem ErrAt.below {B : Nat} {w w' : World} {c n : Int} {v : Value} (h : ErrAt B w c n v) (hb : Below w.heap.size w w') : ErrAt B w' c n v := by
  rcases h with h | ⟨h0, b, h1, h2, h3, h4⟩
  · exact .inl h
  · exact .inr ⟨h0, b, h1, (hb.cell (p := ⟨b, 0, none⟩) (lt_of_cell h2)).trans h2, (hb.cell (p := ⟨b, 1, none⟩) (lt_of_cell h3)).trans h3, h4⟩

theorem new_ok (a : Int) (w : World) : Calls Tryz.prog 96 #[.int .i64 0, .int .i64 a] w fun e w' => e = .returned .nilIface ∧ w = w' := by
  go_enter Tryz.func96, Tryz.ntmps96
  go_wp2
  go_ret
  exact ⟨rfl, rfl⟩
theorem new_code (c a : Int) (w : World) (hc : (c == 0) = false) : Calls Tryz.prog 96 #[.int .i64 c, .int .i64 a] w fun e w' => e = .returned (plainV c a) ∧ w = w' := by
  go_enter Tryz.func96, Tryz.ntmps96
  go_wp2
  go_ret
  exact ⟨rfl, rfl⟩
theorem wrap_nil (s : ByteArray) (w : World) : Calls Tryz.prog 95 #[.string s, .nilIface] w fun e w' => e = .returned .nilIface ∧ w = w' := by
  go_enter Tryz.func95, Tryz.ntmps95
  go_wp2
  go_ret
  exact ⟨rfl, rfl⟩
theorem wrap_some (s : ByteArray) (T : TypeId) (v : Value) (w : World) : Calls Tryz.prog 95 #[.string s, .iface T v] w fun e w' =>
    e = .returned (.iface 157 (.pointer (some ⟨w.heap.size, 0, none⟩))) ∧ w.alloc (.cells #[.string s, .iface T v] 159) = w' := by
  go_enter Tryz.func95, Tryz.ntmps95
  go_wp2
  go_ret
  exact ⟨rfl, rfl⟩

/-- What fail leaves. -/
def FailOut (c n : Int) (w : World) (e : Ending) (w' : World) : Prop := ∃ v, e = .returned v ∧ ErrAt w.heap.size w' c n v ∧ Below w.heap.size w w'
theorem fail_calls (c n : Int) (w : World) : Calls Tryz.prog 52 #[.int .i64 c, .int .i64 n] w (FailOut c n w) := by
  by_cases h : c = 0
  · subst h
    go_enter Tryz.func52, Tryz.ntmps52
    go_wp2_with fail
    refine (new_ok n w).mono ?_
    rintro e w' ⟨rfl, rfl⟩
    go_wp2_with fail
    refine (wrap_nil _ w).mono ?_
    rintro e w' ⟨rfl, rfl⟩
    go_wp2_with fail
    go_ret
    exact ⟨_, rfl, .inl ⟨rfl, rfl⟩, Below.refl _ _⟩
  · have hc : (c == 0) = false := by simpa using h
    go_enter Tryz.func52, Tryz.ntmps52
    go_wp2_with fail
    refine (new_code c n w hc).mono ?_
    rintro e w' ⟨rfl, rfl⟩
    unfold plainV
    go_wp2_with fail
    refine (wrap_some _ _ _ w).mono ?_
    rintro e w' ⟨rfl, rfl⟩
    go_wp2_with fail
    go_ret
    exact ⟨_, rfl, .inr ⟨h, _, rfl, by simp [segS], by simp [plainV], Nat.le_refl _⟩, (Below.refl _ _).alloc (Nat.le_refl _) _⟩

end Go.Proofs.YtacfcfbleogioaaGreatDoor
