/-
  Plain facts on decimal numerals and joined texts, of no program. No condition beyond each theorem's own.
-/
import Derived.Lib.Join
import Derived.Lib.ItoaNum
namespace Go.Proofs.YtgncdbclpokkhaaDoor

/-- The digits of m; none for 0. -/
def digs (m : Nat) : List UInt8 := if m = 0 then [] else Lib.decDigits m
theorem digs_zero : digs 0 = [] := rfl
theorem digs_pos (m : Nat) (h : m ≠ 0) : digs m = digs (m / 10) ++ [UInt8.ofNat (48 + m % 10)] := by
  unfold digs
  rw [if_neg h, Lib.decDigits]
  by_cases h10 : m < 10
  · rw [dif_pos h10, if_pos (by omega), Nat.mod_eq_of_lt h10]; rfl
  · rw [dif_neg h10, if_neg (by omega)]
theorem digs_whole (m : Nat) (h : m ≠ 0) : digs m = Lib.decDigits m := by unfold digs; rw [if_neg h]

/-- Each text, and ": " behind it. -/
def tails (l : List (List UInt8)) : List UInt8 := (l.map (· ++ [58, 32])).flatten
theorem tails_append (l r : List (List UInt8)) : tails (l ++ r) = tails l ++ tails r := by simp [tails]
theorem join_tails (l : List (List UInt8)) (p : List UInt8) : Lib.join (l ++ [p]) [58, 32] = tails l ++ p := by
  induction l with
  | nil => simp [tails, Lib.join_one]
  | cons x r ih =>
    cases r with
    | nil => simp [tails, Lib.join_cons, Lib.joinTail]
    | cons y r =>
      have h : Lib.join (x :: (y :: r ++ [p])) [58, 32] = x ++ [58, 32] ++ Lib.join (y :: r ++ [p]) [58, 32] := by
        rw [Lib.join_cons, List.cons_append, Lib.join_cons]
        simp [Lib.joinTail]
      rw [List.cons_append, h, ih]
      simp [tails]
theorem tails_length (l : List (List UInt8)) : (tails l).length = Lib.lens l + 2 * l.length := by
  induction l with
  | nil => rfl
  | cons x r ih =>
    simp only [tails, Lib.lens, List.map_cons, List.flatten_cons, List.length_append, List.sum_cons, List.length_cons, List.length_nil] at ih ⊢
    omega
end Go.Proofs.YtgncdbclpokkhaaDoor
