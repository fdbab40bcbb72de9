/-
  The bytes of a rune: the reference's Encode, and the program's over the library's AppendRune. No condition.
-/
import Derived.Test.YtkpgbcackphdbaaDoorDecode
namespace Go.Proofs.YtkpgbcackphdbaaDoor
open Go.RowKit Go.Lib

/-- A rune's bytes: none for a surrogate half and for what is out of range. -/
def encN (m : Nat) : List Nat :=
  if 1114111 < m ∨ (55296 ≤ m ∧ m ≤ 57343) then []
  else if m < 128 then [m]
  else if m < 2048 then [192 + m / 64, 128 + m % 64]
  else if m < 65536 then [224 + m / 4096, 128 + m / 64 % 64, 128 + m % 64]
  else [240 + m / 262144, 128 + m / 4096 % 64, 128 + m / 64 % 64, 128 + m % 64]
def encL (r : Int) : List Nat := if r < 0 then [] else encN r.toNat

def nth (l : List Nat) (i : Nat) : Nat := l.getD i 0

theorem encL_lt (r : Int) : ∀ x ∈ encL r, x < 256 := by
  unfold encL encN
  repeat' split
  all_goals simp
  all_goals omega

theorem nth_lt {l : List Nat} (h : ∀ x ∈ l, x < 256) (i : Nat) : nth l i < 256 := by
  unfold nth
  rw [List.getD_eq_getElem?_getD]
  cases hq : l[i]? with
  | none => simp
  | some x => exact h x (List.mem_of_getElem? hq)

/-- A call that returns a slice of the bytes l and makes new blocks alone. -/
def LeavesRow (l : List Nat) (w : World) (e : Ending) (w' : World) : Prop :=
  ∃ a c, e = .returned (.slice a l.length c) ∧ l.length ≤ c ∧ c ≤ 9223372036854775807 ∧ Row8 w' a l.length (nth l) ∧ Below w.heap.size w w'

theorem row8_new (w : World) (l : List Nat) (t : TypeId) (hl : ∀ x ∈ l, x < 256) (hn : l.length ≤ 9223372036854775807) (cs : Array Value) (hc : cs = (l.map fun x : Nat => Value.int .u8 (x : Int)).toArray) :
    Row8 (w.alloc (.cells cs t)) (some ⟨w.heap.size, 0, none⟩) l.length (nth l) := by
  refine ⟨nth_lt hl, hn, Or.inr ⟨_, _, rfl, fun i hi => ?_⟩⟩
  subst hc
  simp only [World.alloc, World.cell?, Array.getElem?_push_size, Nat.zero_add]
  simp [nth, hi]

set_option maxRecDepth 100000 in
set_option maxHeartbeats 1000000 in
theorem refEncode_calls (r : Int) (w : World) (hr0 : -2147483648 ≤ r) (hr : r ≤ 2147483647) : Calls Tryd.prog 34 #[.int .i32 r] w (LeavesRow (encL r) w) := by
  have hl := encL_lt r
  obtain ⟨l, hle⟩ : ∃ l, encL r = l := ⟨_, rfl⟩
  have HLE := Lib.hid hle
  rw [hle] at hl ⊢
  clear hle
  by_cases h0 : r < 0
  · have d0 : decide (r < 0) = true := decide_eq_true h0
    have : l = [] := by rw [← HLE.out]; unfold encL; rw [if_pos h0]
    subst this
    go_enter Tryd.func34, Tryd.ntmps34
    go_wp2
    all_goals go_ret
    all_goals exact ⟨none, 0, rfl, by simp, by simp, ⟨nth_lt hl, by simp, Or.inl rfl⟩, Below.refl _ _⟩
  · obtain ⟨m, rfl⟩ : ∃ m : Nat, r = (m : Int) := ⟨r.toNat, by omega⟩
    have d0 : decide ((m : Int) < 0) = false := decide_eq_false h0
    have hl2 : l = encN m := by rw [← HLE.out]; unfold encL; rw [if_neg h0, Int.toNat_natCast]
    unfold encN at hl2
    by_cases h1 : 1114111 < m
    · have d1 : decide ((m : Int) > 1114111) = true := by simp; omega
      rw [if_pos (Or.inl h1)] at hl2
      subst hl2
      go_enter Tryd.func34, Tryd.ntmps34
      go_wp2
      all_goals go_ret
      all_goals exact ⟨none, 0, rfl, by simp, by simp, ⟨nth_lt hl, by simp, Or.inl rfl⟩, Below.refl _ _⟩
    · have d1 : decide ((m : Int) > 1114111) = false := by simp; omega
      by_cases h2 : 55296 ≤ m ∧ m ≤ 57343
      · have d2 : decide ((m : Int) ≥ 55296) = true := by simp; omega
        have d3 : decide ((m : Int) ≤ 57343) = true := by simp; omega
        rw [if_pos (Or.inr h2)] at hl2
        subst hl2
        go_enter Tryd.func34, Tryd.ntmps34
        go_wp2
        all_goals go_ret
        all_goals exact ⟨none, 0, rfl, by simp, by simp, ⟨nth_lt hl, by simp, Or.inl rfl⟩, Below.refl _ _⟩
      · rw [if_neg (by omega)] at hl2
        rcases (show (decide ((m : Int) ≥ 55296) = true ∧ decide ((m : Int) ≤ 57343) = false) ∨ decide ((m : Int) ≥ 55296) = false from by simp only [decide_eq_true_eq, decide_eq_false_iff_not]; omega) with ⟨d2, d3⟩ | d2
        all_goals
          by_cases h3 : m < 128
          · have d4 : decide ((m : Int) < 128) = true := by simp; omega
            rw [if_pos h3] at hl2
            subst hl2
            go_enter Tryd.func34, Tryd.ntmps34
            go_wp2
            go_ret
            exact ⟨_, _, rfl, by simp, by simp, row8_new w _ _ hl (by simp) _ (by simp), (Below.refl _ _).alloc (Nat.le_refl _) _⟩
          · have d4 : decide ((m : Int) < 128) = false := by simp; omega
            rw [if_neg h3] at hl2
            by_cases h4 : m < 2048
            · have d5 : decide ((m : Int) < 2048) = true := by simp; omega
              rw [if_pos h4] at hl2
              subst hl2
              go_enter Tryd.func34, Tryd.ntmps34
              go_wp2
              go_ret
              exact ⟨_, _, rfl, by simp, by simp, row8_new w _ _ hl (by simp) _ (by simp), (Below.refl _ _).alloc (Nat.le_refl _) _⟩
            · have d5 : decide ((m : Int) < 2048) = false := by simp; omega
              rw [if_neg h4] at hl2
              by_cases h5 : m < 65536
              · have d6 : decide ((m : Int) < 65536) = true := by simp; omega
                rw [if_pos h5] at hl2
                subst hl2
                go_enter Tryd.func34, Tryd.ntmps34
                go_wp2
                go_ret
                exact ⟨_, _, rfl, by simp, by simp, row8_new w _ _ hl (by simp) _ (by simp), (Below.refl _ _).alloc (Nat.le_refl _) _⟩
              · have d6 : decide ((m : Int) < 65536) = false := by simp; omega
                rw [if_neg h5] at hl2
                subst hl2
                go_enter Tryd.func34, Tryd.ntmps34
                go_wp2
                go_ret
                exact ⟨_, _, rfl, by simp, by simp, row8_new w _ _ hl (by simp) _ (by simp), (Below.refl _ _).alloc (Nat.le_refl _) _⟩

end Go.Proofs.YtkpgbcackphdbaaDoor
