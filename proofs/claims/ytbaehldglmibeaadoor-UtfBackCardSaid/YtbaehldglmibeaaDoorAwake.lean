/-
  The statements' own fixed answers hold: 'awake' returns true. Conditions: the tables hold what their initialisers lay; the library's length variable holds an integer.
-/
import Derived.Test.YtbaehldglmibeaaDoorName
import Derived.Test.YtbaehldglmibeaaDoorLines
import Derived.Test.YtbaehldglmibeaaDoorBad
namespace Go.Proofs.YtbaehldglmibeaaDoor
open Go.RowKit Go.Lib

theorem next_fixed : nextZ (nth [195, 169]) 2 0 = (233, 2) := by kernel_rfl
theorem name_fixed : nameP [97, 45, 98] = true := by kernel_rfl
theorem name_fixed2 : nameP [45, 97] = false := by kernel_rfl
theorem lines_fixed : eols [97, 13, 10, 98, 13, 99] = [97, 10, 98, 10, 99] := by kernel_rfl

set_option maxRecDepth 100000 in
set_option maxHeartbeats 2000000 in
theorem awake_calls (w : World) (hL : Laid w) (hM : MaxLen w) : Calls Tryd.prog 8 #[] w (Leaves (.bool true) w) := by
  have HL := Lib.hid hL
  have HM := Lib.hid hM
  clear hL hM
  go_enter Tryd.func8, Tryd.ntmps8
  go_wp2_with fail
  have hb1 : Below w.heap.size w (w.alloc (.cells #[.int .u8 195, .int .u8 169] 5)) := (Below.refl _ _).alloc (Nat.le_refl _) _
  refine (next_calls _ 2 2 (nth [195, 169]) 0 _ (HL.out.below hb1) (row8_new w [195, 169] 5 (by simp) (by simp) _ rfl) (by omega) (by omega)).mono ?_
  rintro e w2 ⟨rfl, hb2⟩
  have HB2 := Lib.hid (below_then hb1 hb2)
  clear hb1 hb2
  rw [next_fixed]
  unfold runeOf
  go_wp2_with fail
  refine (name_calls ⟨#[97, 45, 98]⟩ _ (by decide) (HL.out.below HB2.out)).mono ?_
  rintro e w3 ⟨rfl, hb3⟩
  have HB3 := Lib.hid (below_then HB2.out hb3)
  clear hb3
  rw [show nameP (⟨#[97, 45, 98]⟩ : ByteArray).data.toList = true from name_fixed]
  go_wp2_with fail
  refine (name_calls ⟨#[45, 97]⟩ _ (by decide) (HL.out.below HB3.out)).mono ?_
  rintro e w4 ⟨rfl, hb4⟩
  have HB4 := Lib.hid (below_then HB3.out hb4)
  clear hb4
  rw [show nameP (⟨#[45, 97]⟩ : ByteArray).data.toList = false from name_fixed2]
  go_wp2_with fail
  refine (lines_calls ⟨#[97, 13, 10, 98, 13, 99]⟩ _ (by decide) (HM.out.below HB4.out)).mono ?_
  rintro e w5 ⟨rfl, hb5⟩
  have HB5 := Lib.hid (below_then HB4.out hb5)
  clear hb5
  rw [show eols (⟨#[97, 13, 10, 98, 13, 99]⟩ : ByteArray).data.toList = [97, 10, 98, 10, 99] from lines_fixed]
  go_wp2
  go_ret
  exact ⟨rfl, HB5.out⟩

set_option maxRecDepth 100000 in
set_option maxHeartbeats 2000000 in
theorem law_next (a : Option Addr) (n c : Nat) (f : Nat → Nat) (i : Int) (w : World) (hL : Laid w) (hM : MaxLen w) (hr : Row8 w a n f) (hc : n ≤ c) (hc2 : c ≤ 9223372036854775807) :
    Calls Tryd.prog 3 #[.slice a n c, .int .i64 i] w (Leaves (.bool true) w) := by
  have HL := Lib.hid hL
  have HM := Lib.hid hM
  have HR := Lib.hid hr
  have hn := hr.2.1
  clear hL hM hr
  go_enter Tryd.func3, Tryd.ntmps3
  go_wp2_with fail
  refine (awake_calls w HL.out HM.out).mono ?_
  rintro e w1 ⟨rfl, hb1⟩
  have HB1 := Lib.hid hb1
  clear hb1
  by_cases hbig : 16384 < n
  · have hd : decide ((n : Int) > 16384) = true := by simp; omega
    go_wp2
    go_ret
    exact ⟨rfl, HB1.out⟩
  · have hd : decide ((n : Int) > 16384) = false := by simp; omega
    obtain ⟨⟨r, z⟩, hrz⟩ : ∃ d, nextZ f n i = d := ⟨_, rfl⟩
    have HRZ := Lib.hid hrz
    have hrr : ((r : Int) == (r : Int)) = true := by simp
    have hzz : ((z : Int) == (z : Int)) = true := by simp
    obtain ⟨q, hq⟩ : ∃ q, badZ f n = q := ⟨_, rfl⟩
    have HQ := Lib.hid hq
    have hqq : (q == q) = true := by simp
    clear hrz hq
    go_wp2_with fail
    refine (next_calls a n c f i w1 (HL.out.below HB1.out) (HR.out.below HB1.out) hc hc2).mono ?_
    rintro e w2 ⟨rfl, hb2⟩
    have HB2 := Lib.hid (below_then HB1.out hb2)
    clear hb2
    rw [HRZ.out]
    unfold runeOf
    go_wp2_with fail
    refine (refNext_calls a n c f i w2 (HR.out.below HB2.out) (by omega)).mono ?_
    rintro e w3 ⟨rfl, hb3⟩
    have HB3 := Lib.hid (below_then HB2.out hb3)
    clear hb3
    rw [HRZ.out]
    unfold runeOf
    go_wp2_with fail
    refine (bad_calls a n c f w3 (HL.out.below HB3.out) hc hc2 (HR.out.below HB3.out) (by omega)).mono ?_
    rintro e w4 ⟨rfl, hb4⟩
    have HB4 := Lib.hid (below_then HB3.out hb4)
    clear hb4
    rw [HQ.out]
    go_wp2_with fail
    refine (refBad_calls a n c f w4 (HR.out.below HB4.out) (by omega)).mono ?_
    rintro e w5 ⟨rfl, hb5⟩
    have HB5 := Lib.hid (below_then HB4.out hb5)
    clear hb5
    rw [HQ.out]
    go_wp2
    go_ret
    exact ⟨rfl, HB5.out⟩

end Go.Proofs.YtbaehldglmibeaaDoor
