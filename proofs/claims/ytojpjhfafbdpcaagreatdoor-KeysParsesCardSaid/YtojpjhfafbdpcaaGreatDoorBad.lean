/-
  The reference's Next at every place, and both functions Bad: the first place at which there is no rune. Conditions: the slice is shorter than 2 to the 62; the tables hold what their initialisers lay.
-/
import Derived.Test.YtojpjhfafbdpcaaGreatDoorPureNext
namespace Go.Proofs.YtojpjhfafbdpcaaGreatDoor
open Go.RowKit Go.Lib

set_option maxRecDepth 100000 in
set_option maxHeartbeats 1000000 in
theorem refNext_calls (a : Option Addr) (n c : Nat) (f : Nat → Nat) (i : Int) (w : World) (hr : Row8 w a n f) (hn : n ≤ 4611686018427387904) :
    Calls Tryz.prog 107 #[.slice a n c, .int .i64 i] w (Leaves (runeOf (nextZ f n i)) w) := by
  obtain ⟨hf, _, hrow⟩ := hr
  unfold nextZ
  by_cases h0 : i < 0
  · have hd : decide (i < 0) = true := decide_eq_true h0
    rw [if_pos (Or.inl h0)]
    go_enter Tryz.func107, Tryz.ntmps107
    go_wp2
    go_ret2
    exact ⟨rfl, Below.refl _ _⟩
  · have hd : decide (i < 0) = false := decide_eq_false h0
    by_cases h1 : (n : Int) ≤ i
    · have hd1 : decide (i ≥ (n : Int)) = true := decide_eq_true h1
      rw [if_pos (Or.inr h1)]
      go_enter Tryz.func107, Tryz.ntmps107
      go_wp2
      go_ret2
      exact ⟨rfl, Below.refl _ _⟩
    · rw [if_neg (by omega)]
      obtain ⟨k, rfl⟩ : ∃ k : Nat, i = (k : Int) := ⟨i.toNat, by omega⟩
      rcases hrow with h | ⟨b, o, rfl, hcell⟩
      · omega
      rw [Int.toNat_natCast, ← ref_is_nx f n k (by omega) hf]
      exact refNext_in b o c n k f w hf (by omega) (by omega) hcell

def badFrom (f : Nat → Nat) (N : Nat) : Nat → Nat → Int
  | 0, _ => -1
  | g + 1, p => if p < N then (if (nx f N p).2 = 0 then (p : Int) else badFrom f N g (p + (nx f N p).2)) else -1
def badZ (f : Nat → Nat) (N : Nat) : Int := badFrom f N N 0

theorem decodeN_width (n b0 b1 b2 b3 : Nat) : 1 ≤ (decodeN n b0 b1 b2 b3).2 ∧ (decodeN n b0 b1 b2 b3).2 ≤ 4 := by
  unfold decodeN
  repeat' split
  all_goals simp

theorem nx_width (f : Nat → Nat) (N p : Nat) : (nx f N p).2 ≤ 4 := by
  unfold nx
  have := decodeN_width (N - p) (f p) (f (p + 1)) (f (p + 2)) (f (p + 3))
  simp only
  split
  · omega
  · simp

theorem nextZ_at (f : Nat → Nat) (N p : Nat) (h : p < N) : nextZ f N p = nx f N p := by
  unfold nextZ
  rw [if_neg (by omega), Int.toNat_natCast]

end Go.Proofs.YtojpjhfafbdpcaaGreatDoor
