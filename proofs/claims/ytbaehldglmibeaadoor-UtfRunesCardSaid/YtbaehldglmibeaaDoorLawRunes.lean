/-
  The walk of the law UtfRunes at every rune. Conditions: the tables hold what their initialisers lay; the library's length variable holds an integer.
-/
import Derived.Test.YtbaehldglmibeaaDoorAwake
namespace Go.Proofs.YtbaehldglmibeaaDoor
open Go.RowKit Go.Lib

set_option maxRecDepth 100000 in
set_option maxHeartbeats 2000000 in
theorem law_runes (r : Int) (w : World) (hr0 : -2147483648 ≤ r) (hr : r ≤ 2147483647) (hL : Laid w) (hM : MaxLen w) : Calls Tryd.prog 4 #[.int .i32 r] w (Leaves (.bool true) w) := by
  have HL := Lib.hid hL
  have HM := Lib.hid hM
  clear hL hM
  obtain ⟨x1, h1⟩ : ∃ x, inTab charsT r = x := ⟨_, rfl⟩
  obtain ⟨x2, h2⟩ : ∃ x, blankB r = x := ⟨_, rfl⟩
  obtain ⟨x3, h3⟩ : ∃ x, inTab firstsT r = x := ⟨_, rfl⟩
  obtain ⟨x4, h4⟩ : ∃ x, (inTab furtherT r || inTab firstsT r) = x := ⟨_, rfl⟩
  have H1 := Lib.hid h1
  have H2 := Lib.hid h2
  have H3 := Lib.hid h3
  have H4 := Lib.hid h4
  have e1 : (x1 == x1) = true := by simp
  have e2 : (x2 == x2) = true := by simp
  have e3 : (x3 == x3) = true := by simp
  have e4 : (x4 == x4) = true := by simp
  clear h1 h2 h3 h4
  go_enter Tryd.func4, Tryd.ntmps4
  go_wp2_with fail
  refine (awake_calls w HL.out HM.out).mono ?_
  rintro e w1 ⟨rfl, hb1⟩
  have HB1 := Lib.hid hb1
  clear hb1
  go_wp2_with fail
  refine (chars_calls r w1 (HL.out.below HB1.out).2.1).mono ?_
  rintro e w2 ⟨rfl, hb2⟩
  have HB2 := Lib.hid (below_then HB1.out hb2)
  clear hb2
  rw [H1.out]
  go_wp2_with fail
  refine (refChar_calls r w2).mono ?_
  rintro e w2b ⟨rfl, rfl⟩
  rw [H1.out]
  go_wp2_with fail
  refine (blank_calls r w2b).mono ?_
  rintro e w2c ⟨rfl, rfl⟩
  rw [H2.out]
  go_wp2_with fail
  refine (refBlank_calls r w2c).mono ?_
  rintro e w2d ⟨rfl, rfl⟩
  rw [H2.out]
  go_wp2_with fail
  refine (firsts_calls r w2d (HL.out.below HB2.out).2.2.1).mono ?_
  rintro e w3 ⟨rfl, hb3⟩
  have HB3 := Lib.hid (below_then HB2.out hb3)
  clear hb3
  rw [H3.out]
  go_wp2_with fail
  refine (refBegins_calls r w3).mono ?_
  rintro e w3b ⟨rfl, rfl⟩
  rw [H3.out]
  go_wp2_with fail
  refine (further_calls r w3b (HL.out.below HB3.out).2.2.2 (HL.out.below HB3.out).2.2.1).mono ?_
  rintro e w4 ⟨rfl, hb4⟩
  have HB4 := Lib.hid (below_then HB3.out hb4)
  clear hb4
  rw [H4.out]
  go_wp2_with fail
  refine (refGoesOn_calls r w4).mono ?_
  rintro e w4b ⟨rfl, rfl⟩
  rw [H4.out]
  go_wp2_with fail
  refine (encode_calls r w4b hr0 hr).mono ?_
  rintro e w5 ⟨a5, c5, rfl, hc5, hm5, hrow5, hb5⟩
  have HB5 := Lib.hid (below_then HB4.out hb5)
  have HR5 := Lib.hid hrow5
  clear hb5 hrow5
  go_wp2_with fail
  refine (refEncode_calls r w5 hr0 hr).mono ?_
  rintro e w6 ⟨a6, c6, rfl, hc6, hm6, hrow6, hb6⟩
  have HB6 := Lib.hid (below_then HB5.out hb6)
  have HR6 := Lib.hid hrow6
  have HR5b := Lib.hid (HR5.out.below hb6)
  clear hb6 hrow6
  go_wp2_with fail
  refine (bytes_calls a5 a6 c5 c6 (encL r).length (nth (encL r)) w6 HR5b.out HR6.out).mono ?_
  rintro e w7 ⟨rfl, hb7⟩
  have HB7 := Lib.hid (below_then HB6.out hb7)
  clear hb7
  go_wp2
  go_ret
  exact ⟨rfl, HB7.out⟩

end Go.Proofs.YtbaehldglmibeaaDoor
