/-
 The reference's Next: of the widths 1 to 4 the first at which the value's own bytes stand.
-/
import Derived.Test.YtjpkkflhcjjefaaGreatDoorDecode
import Derived.Test.YtjpkkflhcjjefaaGreatDoorShelf
import Derived.Deep.AppendLies
import Derived.Deep.QuietTactic
import Derived.BigQuiet
import Derived.Test.YtjpkkflhcjjefaaGreatDoorRefTabs
namespace Go.Proofs.YtjpkkflhcjjefaaGreatDoor
open Go.RowKit Go.Lib
def encN (m : Nat) : List Nat :=
 if 1114111 < m ∨ (55296 ≤ m ∧ m ≤ 57343) then []
 else if m < 128 then [m]
 else if m < 2048 then [192 + m / 64, 128 + m % 64]
 else if m < 65536 then [224 + m / 4096, 128 + m / 64 % 64, 128 + m % 64]
 else [240 + m / 262144, 128 + m / 4096 % 64, 128 + m / 64 % 64, 128 + m % 64]
def encL (r : Int) : List Nat := if r < 0 then [] else encN r.toNat
def nth (l : List Nat) (i : Nat) : Nat := l.getD i 0
theorem encL_lt (r : Int) : ∀ x ∈ encL r, x < 256 := by
 unfold encL encN
 repeat' split
 all_goals simp
 all_goals omega
theorem encL_cells (r : Int) (h : Lib.validRune r = true) : Lib.runeCells r = (encL r).map fun x : Nat => Value.int .u8 (x : Int) := by
 unfold Lib.validRune at h
 rw [decide_eq_true_eq] at h
 unfold Lib.runeCells Lib.encodeRuneZ encL encN
 obtain ⟨m, rfl⟩ : ∃ m : Nat, r = (m : Int) := ⟨r.toNat, by omega⟩
 rw [Int.toNat_natCast, if_neg (by omega : ¬ (m : Int) < 0)]
 repeat' split
 all_goals first
  | (exfalso; omega)
  | simp
theorem encL_len (r : Int) : (encL r).length ≤ 4 := by
 unfold encL encN
 repeat' split
 all_goals simp
def md (n : Nat) : Nat := if n = 2 then 32 else if n = 3 then 16 else if n = 4 then 8 else 256
def vAt (f : Nat → Nat) (p n : Nat) : Nat → Nat
 | 0 => 0
 | 1 => f p % md n
 | k + 2 => vAt f p n (k + 1) * 64 + f (p + (k + 1)) % 64
def sameTo (l : List Nat) (f : Nat → Nat) (p : Nat) : Nat → Bool
 | 0 => true
 | k + 1 => sameTo l f p k && (nth l k == f (p + k))
def fits (f : Nat → Nat) (p n : Nat) : Bool :=
 (encL (vAt f p n n)).length == n && inTab charsT (vAt f p n n) && sameTo (encL (vAt f p n n)) f p n
def refFrom (f : Nat → Nat) (N p : Nat) : Nat → Nat → Nat × Nat
 | 0, _ => (0, 0)
 | g + 1, n => if p + n ≤ N then (if fits f p n = true then (vAt f p n n, n) else refFrom f N p g (n + 1)) else (0, 0)
end Go.Proofs.YtjpkkflhcjjefaaGreatDoor
