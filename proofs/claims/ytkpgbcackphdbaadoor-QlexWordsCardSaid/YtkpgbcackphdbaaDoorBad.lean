/-
  The reference's Next at every place, and both functions Bad: the first place at which there is no rune. Conditions: the slice is shorter than 2 to the 62; the tables hold what their initialisers lay.
-/
import Derived.Test.YtkpgbcackphdbaaDoorPureNext
namespace Go.Proofs.YtkpgbcackphdbaaDoor
open Go.RowKit Go.Lib

set_option maxRecDepth 100000 in
set_option maxHeartbeats 1000000 in
theorem refNext_calls (a : Option Addr) (n c : Nat) (f : Nat → Nat) (i : Int) (w : World) (hr : Row8 w a n f) (hn : n ≤ 4611686018427387904) :
    Calls Tryd.prog 18 #[.slice a n c, .int .i64 i] w (Leaves (runeOf (nextZ f n i)) w) := by
  obtain ⟨hf, _, hrow⟩ := hr
  unfold nextZ
  by_cases h0 : i < 0
  · have hd : decide (i < 0) = true := decide_eq_true h0
    rw [if_pos (Or.inl h0)]
    go_enter Tryd.func18, Tryd.ntmps18
    go_wp2
    go_ret2
    exact ⟨rfl, Below.refl _ _⟩
  · have hd : decide (i < 0) = false := decide_eq_false h0
    by_cases h1 : (n : Int) ≤ i
    · have hd1 : decide (i ≥ (n : Int)) = true := decide_eq_true h1
      rw [if_pos (Or.inr h1)]
      go_enter Tryd.func18, Tryd.ntmps18
      go_wp2
      go_ret2
      exact ⟨rfl, Below.refl _ _⟩
    · rw [if_neg (by omega)]
      obtain ⟨k, rfl⟩ : ∃ k : Nat, i = (k : Int) := ⟨i.toNat, by omega⟩
      rcases hrow with h | ⟨b, o, rfl, hcell⟩
      · omega
      rw [Int.toNat_natCast, ← ref_is_nx f n k (by omega) hf]
      exact refNext_in b o c n k f w hf (by omega) (by omega) hcell

def badFrom (f : Nat → Nat) (N : Nat) : Nat → Nat → Int
  | 0, _ => -1
  | g + 1, p => if p < N then (if (nx f N p).2 = 0 then (p : Int) else badFrom f N g (p + (nx f N p).2)) else -1
def badZ (f : Nat → Nat) (N : Nat) : Int := badFrom f N N 0

theorem decodeN_width (n b0 b1 b2 b3 : Nat) : 1 ≤ (decodeN n b0 b1 b2 b3).2 ∧ (decodeN n b0 b1 b2 b3).2 ≤ 4 := by
  unfold decodeN
  repeat' split
  all_goals simp

theorem nx_width (f : Nat → Nat) (N p : Nat) : (nx f N p).2 ≤ 4 := by
  unfold nx
  have := decodeN_width (N - p) (f p) (f (p + 1)) (f (p + 2)) (f (p + 3))
  simp only
  split
  · omega
  · simp

theorem nextZ_at (f : Nat → Nat) (N p : Nat) (h : p < N) : nextZ f N p = nx f N p := by
  unfold nextZ
  rw [if_neg (by omega), Int.toNat_natCast]

set_option maxRecDepth 100000 in
set_option maxHeartbeats 1000000 in
theorem bad_calls (a : Option Addr) (n c : Nat) (f : Nat → Nat) (w : World) (hL : Laid w) (hc : n ≤ c) (hc2 : c ≤ 9223372036854775807) (hr : Row8 w a n f) (hn : n ≤ 4611686018427387904) :
    Calls Tryd.prog 13 #[.slice a n c] w (Leaves (.int .i64 (badZ f n)) w) := by
  have HROW := Lib.hid hr
  obtain ⟨q, hq⟩ : ∃ q, badZ f n = q := ⟨_, rfl⟩
  rw [hq]
  have HQ := Lib.hid hq
  clear hq hr
  go_enter Tryd.func13, Tryd.ntmps13
  go_wp2
  go_loopg [3] n (fun g s wr => ∃ p : Nat, s = .int .i64 p ∧ n ≤ g + p ∧ p ≤ n + 4 ∧ badFrom f n g p = q ∧ Below w.heap.size w wr)
  case atStart => exact ⟨0, rfl, by omega, by omega, HQ.out, Below.refl _ _⟩
  case round =>
    obtain ⟨p, rfl, hg, hp4, hbad, hb⟩ := hrel
    have HG := Lib.hid hg
    have HBAD := Lib.hid hbad
    have HB := Lib.hid hb
    clear hg hbad hb HQ
    by_cases hlt : p < n
    · have hd : decide ((p : Int) < (n : Int)) = true := by simp; omega
      obtain ⟨g', rfl⟩ : ∃ g', gk = g' + 1 := ⟨gk - 1, by have := HG.out; omega⟩
      have hw := nx_width f n p
      obtain ⟨⟨r, z⟩, hrz⟩ : ∃ d, nx f n p = d := ⟨_, rfl⟩
      have hn1 : nextZ f n (p : Int) = (r, z) := by rw [nextZ_at f n p hlt, hrz]
      have hb2 : (if z = 0 then (p : Int) else badFrom f n g' (p + z)) = q := by
        have := HBAD.out
        rw [badFrom, if_pos hlt, hrz] at this
        exact this
      rw [hrz] at hw
      have HN1 := Lib.hid hn1
      have HB2 := Lib.hid hb2
      have HW := Lib.hid hw
      clear hn1 hb2 hrz hw HBAD
      go_wp2_with fail
      refine (next_calls a n c f (p : Int) wr (hL.below HB.out) (Row8.below HROW.out HB.out) hc hc2).mono ?_
      rintro e w2 ⟨rfl, hb3⟩
      have HB3 := Lib.hid hb3
      clear hb3
      rw [HN1.out]
      unfold runeOf
      by_cases hz : z = 0
      · have hz2 : ((z : Int) == 0) = true := by rw [beq_iff_eq]; omega
        go_wp2
        go_ret
        refine ⟨?_, below_then HB.out HB3.out⟩
        have := HB2.out
        rw [if_pos hz] at this
        rw [← this]
        rfl
      · have hz2 : ((z : Int) == 0) = false := by rw [beq_eq_false_iff_ne]; omega
        have hw4 : z ≤ 4 := HW.out
        go_wp2
        go_roundg g'
        case measure => omega
        case rel =>
          refine ⟨p + z, by go_num, by have := HG.out; omega, by omega, ?_, below_then HB.out HB3.out⟩
          have := HB2.out
          rw [if_neg hz] at this
          exact this
    · have hd : decide ((p : Int) < (n : Int)) = false := by simp; omega
      go_wp2
      go_ret
      refine ⟨?_, HB.out⟩
      have := HBAD.out
      cases gk with
      | zero => rw [badFrom] at this; rw [← this]; rfl
      | succ g => rw [badFrom, if_neg hlt] at this; rw [← this]; rfl

set_option maxRecDepth 100000 in
set_option maxHeartbeats 1000000 in
theorem refBad_calls (a : Option Addr) (n c : Nat) (f : Nat → Nat) (w : World) (hr : Row8 w a n f) (hn : n ≤ 4611686018427387904) :
    Calls Tryd.prog 10 #[.slice a n c] w (Leaves (.int .i64 (badZ f n)) w) := by
  have HROW := Lib.hid hr
  obtain ⟨q, hq⟩ : ∃ q, badZ f n = q := ⟨_, rfl⟩
  rw [hq]
  have HQ := Lib.hid hq
  clear hq hr
  go_enter Tryd.func10, Tryd.ntmps10
  go_wp2
  go_loopg [3] n (fun g s wr => ∃ p : Nat, s = .int .i64 p ∧ n ≤ g + p ∧ p ≤ n + 4 ∧ badFrom f n g p = q ∧ Below w.heap.size w wr)
  case atStart => exact ⟨0, rfl, by omega, by omega, HQ.out, Below.refl _ _⟩
  case round =>
    obtain ⟨p, rfl, hg, hp4, hbad, hb⟩ := hrel
    have HG := Lib.hid hg
    have HBAD := Lib.hid hbad
    have HB := Lib.hid hb
    clear hg hbad hb HQ
    by_cases hlt : p < n
    · have hd : decide ((p : Int) < (n : Int)) = true := by simp; omega
      obtain ⟨g', rfl⟩ : ∃ g', gk = g' + 1 := ⟨gk - 1, by have := HG.out; omega⟩
      have hw := nx_width f n p
      obtain ⟨⟨r, z⟩, hrz⟩ : ∃ d, nx f n p = d := ⟨_, rfl⟩
      have hn1 : nextZ f n (p : Int) = (r, z) := by rw [nextZ_at f n p hlt, hrz]
      have hb2 : (if z = 0 then (p : Int) else badFrom f n g' (p + z)) = q := by
        have := HBAD.out
        rw [badFrom, if_pos hlt, hrz] at this
        exact this
      rw [hrz] at hw
      have HN1 := Lib.hid hn1
      have HB2 := Lib.hid hb2
      have HW := Lib.hid hw
      clear hn1 hb2 hrz hw HBAD
      go_wp2_with fail
      refine (refNext_calls a n c f (p : Int) wr (Row8.below HROW.out HB.out) hn).mono ?_
      rintro e w2 ⟨rfl, hb3⟩
      have HB3 := Lib.hid hb3
      clear hb3
      rw [HN1.out]
      unfold runeOf
      by_cases hz : z = 0
      · have hz2 : ((z : Int) == 0) = true := by rw [beq_iff_eq]; omega
        go_wp2
        go_ret
        refine ⟨?_, below_then HB.out HB3.out⟩
        have := HB2.out
        rw [if_pos hz] at this
        rw [← this]
        rfl
      · have hz2 : ((z : Int) == 0) = false := by rw [beq_eq_false_iff_ne]; omega
        have hw4 : z ≤ 4 := HW.out
        go_wp2
        go_roundg g'
        case measure => omega
        case rel =>
          refine ⟨p + z, by go_num, by have := HG.out; omega, by omega, ?_, below_then HB.out HB3.out⟩
          have := HB2.out
          rw [if_neg hz] at this
          exact this
    · have hd : decide ((p : Int) < (n : Int)) = false := by simp; omega
      go_wp2
      go_ret
      refine ⟨?_, HB.out⟩
      have := HBAD.out
      cases gk with
      | zero => rw [badFrom] at this; rw [← this]; rfl
      | succ g => rw [badFrom, if_neg hlt] at this; rw [← this]; rfl

end Go.Proofs.YtkpgbcackphdbaaDoor
