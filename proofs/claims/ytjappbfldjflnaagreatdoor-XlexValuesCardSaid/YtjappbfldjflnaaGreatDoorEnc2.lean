/-
  The program's Encode, over the library's AppendRune; the reference's comparison of two rows of bytes. No condition.
-/
import Derived.Test.YtjappbfldjflnaaGreatDoorEnc
import Derived.Test.YtjappbfldjflnaaGreatDoorShelf
import Derived.Deep.AppendLies
import Derived.Deep.QuietTactic
import Derived.BigQuiet
import Derived.Test.YtjappbfldjflnaaGreatDoorRefTabs
namespace Go.Proofs.YtjappbfldjflnaaGreatDoor
open Go.RowKit Go.Lib

theorem encL_valid (r : Int) : (encL r).length = 0 ↔ Lib.validRune r = false := by
  unfold encL encN Lib.validRune
  rw [decide_eq_false_iff_not]
  constructor
  · intro h
    repeat' split at h
    all_goals simp at h
    all_goals omega
  · intro h
    repeat' split
    all_goals simp
    all_goals omega

theorem encL_cells (r : Int) (h : Lib.validRune r = true) : Lib.runeCells r = (encL r).map fun x : Nat => Value.int .u8 (x : Int) := by
  unfold Lib.validRune at h
  rw [decide_eq_true_eq] at h
  unfold Lib.runeCells Lib.encodeRuneZ encL encN
  obtain ⟨m, rfl⟩ : ∃ m : Nat, r = (m : Int) := ⟨r.toNat, by omega⟩
  rw [Int.toNat_natCast, if_neg (by omega : ¬ (m : Int) < 0)]
  repeat' split
  all_goals first
    | (exfalso; omega)
    | simp

theorem encL_len (r : Int) : (encL r).length ≤ 4 := by
  unfold encL encN
  repeat' split
  all_goals simp

theorem row8_of_owns {w : World} {B : Nat} {v : Value} {l : List Nat} (hl : ∀ x ∈ l, x < 256) (hn : l.length ≤ 9223372036854775807) (h : w.ownsRow B 5 1 v l.length (l.map fun x : Nat => Value.int .u8 (x : Int))) :
    ∃ a c, v = .slice a l.length c ∧ l.length ≤ c ∧ c ≤ 9223372036854775807 ∧ Row8 w a l.length (nth l) := by
  obtain ⟨_, h⟩ := h
  rcases h with ⟨rfl, h0⟩ | ⟨g, cap, cur, rfl, _, hblk, hcap, hmax, _, htake⟩
  · exact ⟨none, 0, by rw [h0], by omega, by omega, nth_lt hl, hn, Or.inl h0⟩
  · refine ⟨_, cap, rfl, hcap, by unfold maxLen at hmax; omega, nth_lt hl, hn, Or.inr ⟨g, 0, rfl, fun i hi => ?_⟩⟩
    rw [Nat.mul_one] at htake
    have hx : cur.toList[i]? = some (.int .u8 ((nth l i : Nat) : Int)) := by
      have : (cur.toList.take l.length)[i]? = cur.toList[i]? := List.getElem?_take_of_lt hi
      rw [← this, htake]
      simp [nth, hi]
    rw [Nat.zero_add]
    simpa [World.cell?, hblk] using hx

set_option maxRecDepth 100000 in
set_option maxHeartbeats 1000000 in
theorem bytes_calls (a1 a2 : Option Addr) (c1 c2 n : Nat) (f : Nat → Nat) (w : World) (h1 : Row8 w a1 n f) (h2 : Row8 w a2 n f) :
    Calls Tryz.prog 14 #[.slice a1 n c1, .slice a2 n c2] w (Leaves (.bool true) w) := by
  obtain ⟨hf, hn, h1⟩ := h1
  obtain ⟨_, _, h2⟩ := h2
  have hne : ((n : Int) != (n : Int)) = false := by simp
  go_enter Tryz.func14, Tryz.ntmps14
  go_wp2
  go_loopg [5] n (fun g s wr => ∃ i : Nat, s = .int .i64 i ∧ g + i = n ∧ Below w.heap.size w wr)
  case atStart => exact ⟨0, rfl, rfl, Below.refl _ _⟩
  case round =>
    obtain ⟨i, rfl, hg, hb⟩ := hrel
    have HG := Lib.hid hg
    have HB := Lib.hid hb
    clear hg hb
    by_cases hlt : i < n
    · have hd : decide ((i : Int) < (n : Int)) = true := by simp; omega
      rcases h1 with h | ⟨b1, o1, rfl, hc1⟩
      · omega
      rcases h2 with h | ⟨b2, o2, rfl, hc2⟩
      · omega
      have k1 := cell_below HB.out (hc1 i hlt)
      have k2 := cell_below HB.out (hc2 i hlt)
      have hi0 : (i : Int) < (n : Int) := by omega
      have hne2 : (((f i : Nat) : Int) != ((f i : Nat) : Int)) = false := by simp
      clear hc1 hc2
      go_wp2
      go_quiet (fail)
      go_wp2
      go_roundg (gk - 1)
      case measure => have := HG.out; omega
      case rel => exact ⟨i + 1, by go_num, by have := HG.out; omega, below_drewNv HB.out _⟩
    · have hd : decide ((i : Int) < (n : Int)) = false := by simp; omega
      go_wp2
      go_ret
      exact ⟨rfl, HB.out⟩

end Go.Proofs.YtjappbfldjflnaaGreatDoor
