/-
  The program's Encode, over the library's AppendRune; the reference's comparison of two rows of bytes. No condition.
-/
import Derived.Test.YtojpjhfafbdpcaaGreatDoorEnc
import Derived.Test.YtojpjhfafbdpcaaGreatDoorShelf
import Derived.Shelf.Utf8.AppendRunePlain
import Derived.Shelf.Unicode.ValidAny
import Derived.Deep.AppendLies
import Derived.Deep.QuietTactic
import Derived.BigQuiet
import Derived.Test.YtojpjhfafbdpcaaGreatDoorRefTabs
namespace Go.Proofs.YtojpjhfafbdpcaaGreatDoor
open Go.RowKit Go.Lib

theorem encL_valid (r : Int) : (encL r).length = 0 ↔ Lib.validRune r = false := by
  unfold encL encN Lib.validRune
  rw [decide_eq_false_iff_not]
  constructor
  · intro h
    repeat' split at h
    all_goals simp at h
    all_goals omega
  · intro h
    repeat' split
    all_goals simp
    all_goals omega

theorem encL_cells (r : Int) (h : Lib.validRune r = true) : Lib.runeCells r = (encL r).map fun x : Nat => Value.int .u8 (x : Int) := by
  unfold Lib.validRune at h
  rw [decide_eq_true_eq] at h
  unfold Lib.runeCells Lib.encodeRuneZ encL encN
  obtain ⟨m, rfl⟩ : ∃ m : Nat, r = (m : Int) := ⟨r.toNat, by omega⟩
  rw [Int.toNat_natCast, if_neg (by omega : ¬ (m : Int) < 0)]
  repeat' split
  all_goals first
    | (exfalso; omega)
    | simp

theorem encL_len (r : Int) : (encL r).length ≤ 4 := by
  unfold encL encN
  repeat' split
  all_goals simp

theorem row8_of_owns {w : World} {B : Nat} {v : Value} {l : List Nat} (hl : ∀ x ∈ l, x < 256) (hn : l.length ≤ 9223372036854775807) (h : w.ownsRow B 5 1 v l.length (l.map fun x : Nat => Value.int .u8 (x : Int))) :
    ∃ a c, v = .slice a l.length c ∧ l.length ≤ c ∧ c ≤ 9223372036854775807 ∧ Row8 w a l.length (nth l) := by
  obtain ⟨_, h⟩ := h
  rcases h with ⟨rfl, h0⟩ | ⟨g, cap, cur, rfl, _, hblk, hcap, hmax, _, htake⟩
  · exact ⟨none, 0, by rw [h0], by omega, by omega, nth_lt hl, hn, Or.inl h0⟩
  · refine ⟨_, cap, rfl, hcap, by unfold maxLen at hmax; omega, nth_lt hl, hn, Or.inr ⟨g, 0, rfl, fun i hi => ?_⟩⟩
    rw [Nat.mul_one] at htake
    have hx : cur.toList[i]? = some (.int .u8 ((nth l i : Nat) : Int)) := by
      have : (cur.toList.take l.length)[i]? = cur.toList[i]? := List.getElem?_take_of_lt hi
      rw [← this, htake]
      simp [nth, hi]
    rw [Nat.zero_add]
    simpa [World.cell?, hblk] using hx

end Go.Proofs.YtojpjhfafbdpcaaGreatDoor
