/-
 Blanks; the reference's answers on what XML has, and on what a name may begin and go on with. No condition.
-/
import Derived.Test.YtocnedpclllbhaaGreatDoorBase
namespace Go.Proofs.YtocnedpclllbhaaGreatDoor
open Go.RowKit

def blankB (r : Int) : Bool := r == 9 || r == 10 || r == 13 || r == 32

/-- A call that returns one value; the world is as it was. -/
def Stays (v : Value) (w : World) (e : Ending) (w' : World) : Prop := e = .returned v ∧ w' = w

theorem blank_calls (r : Int) (w : World) : Calls Tryz.prog 45 #[.int .i32 r] w (Stays (.bool (blankB r)) w) := by
  unfold blankB
  cases h9 : (r == 9) with
  | true =>
    go_enter Tryz.func45, Tryz.ntmps45
    go_wp2
    go_ret
    exact ⟨rfl, rfl⟩
  | false => cases h10 : (r == 10) with
    | true =>
      go_enter Tryz.func45, Tryz.ntmps45
      go_wp2
      go_ret
      exact ⟨rfl, rfl⟩
    | false => cases h13 : (r == 13) with
      | true =>
        go_enter Tryz.func45, Tryz.ntmps45
        go_wp2
        go_ret
        exact ⟨rfl, rfl⟩
      | false => cases h32 : (r == 32) with
        | true =>
          go_enter Tryz.func45, Tryz.ntmps45
          go_wp2
          go_ret
          exact ⟨rfl, rfl⟩
        | false =>
          go_enter Tryz.func45, Tryz.ntmps45
          go_wp2
          go_ret
          exact ⟨rfl, rfl⟩

theorem refBlank_calls (r : Int) (w : World) : Calls Tryz.prog 28 #[.int .i32 r] w (Stays (.bool (blankB r)) w) := by
  unfold blankB
  cases h9 : (r == 9) with
  | true =>
    go_enter Tryz.func28, Tryz.ntmps28
    go_wp2
    go_ret
    exact ⟨rfl, rfl⟩
  | false => cases h10 : (r == 10) with
    | true =>
      go_enter Tryz.func28, Tryz.ntmps28
      go_wp2
      go_ret
      exact ⟨rfl, rfl⟩
    | false => cases h13 : (r == 13) with
      | true =>
        go_enter Tryz.func28, Tryz.ntmps28
        go_wp2
        go_ret
        exact ⟨rfl, rfl⟩
      | false =>
        go_enter Tryz.func28, Tryz.ntmps28
        go_wp2
        go_ret
        exact ⟨rfl, rfl⟩

theorem in_calls (r a b : Int) (w : World) : Calls Tryz.prog 68 #[.int .i32 r, .int .i32 a, .int .i32 b] w (Stays (.bool (inPair r (a, b))) w) := by
  unfold inPair
  cases h1 : decide (a ≤ r) with
  | true =>
    go_enter Tryz.func68, Tryz.ntmps68
    go_wp2
    go_ret
    exact ⟨by simp, rfl⟩
  | false =>
    go_enter Tryz.func68, Tryz.ntmps68
    go_wp2
    go_ret
    exact ⟨by simp, rfl⟩

theorem inPair_one (r a : Int) : inPair r (a, a) = (r == a) := by
  unfold inPair
  rw [Bool.eq_iff_iff]
  simp
  omega

theorem inPair_two (r a : Int) : inPair r (a, a + 1) = (r == a || r == a + 1) := by
  unfold inPair
  rw [Bool.eq_iff_iff]
  simp
  omega

set_option maxRecDepth 100000 in
set_option maxHeartbeats 4000000 in
theorem refBegins_calls (r : Int) (w : World) : Calls Tryz.prog 48 #[.int .i32 r] w (Stays (.bool (inTab firstsT r)) w) := by
  go_enter Tryz.func48, Tryz.ntmps48
  go_wp2_with fail
  refine (in_calls r 65 90 _).mono ?_
  rintro e w0 ⟨rfl, rfl⟩
  obtain ⟨b0, h0⟩ : ∃ b, inPair r (65, 90) = b := ⟨_, rfl⟩
  rw [h0]
  have H0 := Lib.hid h0
  clear h0
  cases b0 with
  | true =>
    go_wp2
    go_ret
    exact ⟨by simp [inTab, firstsT, List.any_cons, inPair_one, H0.out], rfl⟩
  | false =>
  skip
  obtain ⟨b1, h1⟩ : ∃ b, (r == 95) = b := ⟨_, rfl⟩
  cases b1 with
  | true =>
    go_wp2
    go_ret
    exact ⟨by simp [inTab, firstsT, List.any_cons, inPair_one, H0.out, h1], rfl⟩
  | false =>
  skip
  go_wp2_with fail
  refine (in_calls r 97 122 _).mono ?_
  rintro e w2 ⟨rfl, rfl⟩
  obtain ⟨b2, h2⟩ : ∃ b, inPair r (97, 122) = b := ⟨_, rfl⟩
  rw [h2]
  have H2 := Lib.hid h2
  clear h2
  cases b2 with
  | true =>
    go_wp2
    go_ret
    exact ⟨by simp [inTab, firstsT, List.any_cons, inPair_one, H0.out, h1, H2.out], rfl⟩
  | false =>
  skip
  go_wp2_with fail
  refine (in_calls r 192 214 _).mono ?_
  rintro e w3 ⟨rfl, rfl⟩
  obtain ⟨b3, h3⟩ : ∃ b, inPair r (192, 214) = b := ⟨_, rfl⟩
  rw [h3]
  have H3 := Lib.hid h3
  clear h3
  cases b3 with
  | true =>
    go_wp2
    go_ret
    exact ⟨by simp [inTab, firstsT, List.any_cons, inPair_one, H0.out, h1, H2.out, H3.out], rfl⟩
  | false =>
  skip
  go_wp2_with fail
  refine (in_calls r 216 246 _).mono ?_
  rintro e w4 ⟨rfl, rfl⟩
  obtain ⟨b4, h4⟩ : ∃ b, inPair r (216, 246) = b := ⟨_, rfl⟩
  rw [h4]
  have H4 := Lib.hid h4
  clear h4
  cases b4 with
  | true =>
    go_wp2
    go_ret
    exact ⟨by simp [inTab, firstsT, List.any_cons, inPair_one, H0.out, h1, H2.out, H3.out, H4.out], rfl⟩
  | false =>
  skip
  go_wp2_with fail
  refine (in_calls r 248 767 _).mono ?_
  rintro e w5 ⟨rfl, rfl⟩
  obtain ⟨b5, h5⟩ : ∃ b, inPair r (248, 767) = b := ⟨_, rfl⟩
  rw [h5]
  have H5 := Lib.hid h5
  clear h5
  cases b5 with
  | true =>
    go_wp2
    go_ret
    exact ⟨by simp [inTab, firstsT, List.any_cons, inPair_one, H0.out, h1, H2.out, H3.out, H4.out, H5.out], rfl⟩
  | false =>
  skip
  go_wp2_with fail
  refine (in_calls r 880 893 _).mono ?_
  rintro e w6 ⟨rfl, rfl⟩
  obtain ⟨b6, h6⟩ : ∃ b, inPair r (880, 893) = b := ⟨_, rfl⟩
  rw [h6]
  have H6 := Lib.hid h6
  clear h6
  cases b6 with
  | true =>
    go_wp2
    go_ret
    exact ⟨by simp [inTab, firstsT, List.any_cons, inPair_one, H0.out, h1, H2.out, H3.out, H4.out, H5.out, H6.out], rfl⟩
  | false =>
  skip
  go_wp2_with fail
  refine (in_calls r 895 8191 _).mono ?_
  rintro e w7 ⟨rfl, rfl⟩
  obtain ⟨b7, h7⟩ : ∃ b, inPair r (895, 8191) = b := ⟨_, rfl⟩
  rw [h7]
  have H7 := Lib.hid h7
  clear h7
  cases b7 with
  | true =>
    go_wp2
    go_ret
    exact ⟨by simp [inTab, firstsT, List.any_cons, inPair_one, H0.out, h1, H2.out, H3.out, H4.out, H5.out, H6.out, H7.out], rfl⟩
  | false =>
  skip
  go_wp2_with fail
  refine (in_calls r 8204 8205 _).mono ?_
  rintro e w8 ⟨rfl, rfl⟩
  obtain ⟨b8, h8⟩ : ∃ b, inPair r (8204, 8205) = b := ⟨_, rfl⟩
  rw [h8]
  have H8 := Lib.hid h8
  clear h8
  cases b8 with
  | true =>
    go_wp2
    go_ret
    exact ⟨by simp [inTab, firstsT, List.any_cons, inPair_one, H0.out, h1, H2.out, H3.out, H4.out, H5.out, H6.out, H7.out, H8.out], rfl⟩
  | false =>
  skip
  go_wp2_with fail
  refine (in_calls r 8304 8591 _).mono ?_
  rintro e w9 ⟨rfl, rfl⟩
  obtain ⟨b9, h9⟩ : ∃ b, inPair r (8304, 8591) = b := ⟨_, rfl⟩
  rw [h9]
  have H9 := Lib.hid h9
  clear h9
  cases b9 with
  | true =>
    go_wp2
    go_ret
    exact ⟨by simp [inTab, firstsT, List.any_cons, inPair_one, H0.out, h1, H2.out, H3.out, H4.out, H5.out, H6.out, H7.out, H8.out, H9.out], rfl⟩
  | false =>
  skip
  go_wp2_with fail
  refine (in_calls r 11264 12271 _).mono ?_
  rintro e w10 ⟨rfl, rfl⟩
  obtain ⟨b10, h10⟩ : ∃ b, inPair r (11264, 12271) = b := ⟨_, rfl⟩
  rw [h10]
  have H10 := Lib.hid h10
  clear h10
  cases b10 with
  | true =>
    go_wp2
    go_ret
    exact ⟨by simp [inTab, firstsT, List.any_cons, inPair_one, H0.out, h1, H2.out, H3.out, H4.out, H5.out, H6.out, H7.out, H8.out, H9.out, H10.out], rfl⟩
  | false =>
  skip
  go_wp2_with fail
  refine (in_calls r 12289 55295 _).mono ?_
  rintro e w11 ⟨rfl, rfl⟩
  obtain ⟨b11, h11⟩ : ∃ b, inPair r (12289, 55295) = b := ⟨_, rfl⟩
  rw [h11]
  have H11 := Lib.hid h11
  clear h11
  cases b11 with
  | true =>
    go_wp2
    go_ret
    exact ⟨by simp [inTab, firstsT, List.any_cons, inPair_one, H0.out, h1, H2.out, H3.out, H4.out, H5.out, H6.out, H7.out, H8.out, H9.out, H10.out, H11.out], rfl⟩
  | false =>
  skip
  go_wp2_with fail
  refine (in_calls r 63744 64975 _).mono ?_
  rintro e w12 ⟨rfl, rfl⟩
  obtain ⟨b12, h12⟩ : ∃ b, inPair r (63744, 64975) = b := ⟨_, rfl⟩
  rw [h12]
  have H12 := Lib.hid h12
  clear h12
  cases b12 with
  | true =>
    go_wp2
    go_ret
    exact ⟨by simp [inTab, firstsT, List.any_cons, inPair_one, H0.out, h1, H2.out, H3.out, H4.out, H5.out, H6.out, H7.out, H8.out, H9.out, H10.out, H11.out, H12.out], rfl⟩
  | false =>
  skip
  go_wp2_with fail
  refine (in_calls r 65008 65533 _).mono ?_
  rintro e w13 ⟨rfl, rfl⟩
  obtain ⟨b13, h13⟩ : ∃ b, inPair r (65008, 65533) = b := ⟨_, rfl⟩
  rw [h13]
  have H13 := Lib.hid h13
  clear h13
  cases b13 with
  | true =>
    go_wp2
    go_ret
    exact ⟨by simp [inTab, firstsT, List.any_cons, inPair_one, H0.out, h1, H2.out, H3.out, H4.out, H5.out, H6.out, H7.out, H8.out, H9.out, H10.out, H11.out, H12.out, H13.out], rfl⟩
  | false =>
  skip
  go_wp2_with fail
  refine (in_calls r 65536 983039 _).mono ?_
  rintro e w14 ⟨rfl, rfl⟩
  obtain ⟨b14, h14⟩ : ∃ b, inPair r (65536, 983039) = b := ⟨_, rfl⟩
  rw [h14]
  have H14 := Lib.hid h14
  clear h14
  cases b14 with
  | true =>
    go_wp2
    go_ret
    exact ⟨by simp [inTab, firstsT, List.any_cons, inPair_one, H0.out, h1, H2.out, H3.out, H4.out, H5.out, H6.out, H7.out, H8.out, H9.out, H10.out, H11.out, H12.out, H13.out, H14.out], rfl⟩
  | false =>
  skip
  go_wp2
  go_ret
  exact ⟨by simp [inTab, firstsT, List.any_cons, inPair_one, H0.out, h1, H2.out, H3.out, H4.out, H5.out, H6.out, H7.out, H8.out, H9.out, H10.out, H11.out, H12.out, H13.out, H14.out], rfl⟩

theorem further_two (r : Int) : inTab furtherT r = ((r == 45 || r == 46) || inPair r (48, 57) || r == 183 || inPair r (768, 879) || (r == 8255 || r == 8256)) := by
  simp only [inTab, furtherT, List.any_cons, List.any_nil, Bool.or_false, inPair_one, show inPair r (45, 46) = (r == 45 || r == 46) from inPair_two r 45, show inPair r (8255, 8256) = (r == 8255 || r == 8256) from inPair_two r 8255, Bool.or_assoc]

set_option maxRecDepth 100000 in
set_option maxHeartbeats 4000000 in
theorem refGoesOn_calls (r : Int) (w : World) : Calls Tryz.prog 49 #[.int .i32 r] w (Stays (.bool (inTab furtherT r || inTab firstsT r)) w) := by
  go_enter Tryz.func49, Tryz.ntmps49
  go_wp2_with fail
  refine (refBegins_calls r _).mono ?_
  rintro e w0 ⟨rfl, rfl⟩
  obtain ⟨b0, h0⟩ : ∃ b, inTab firstsT r = b := ⟨_, rfl⟩
  rw [h0]
  have H0 := Lib.hid h0
  clear h0
  cases b0 with
  | true =>
    go_wp2
    go_ret
    exact ⟨by simp [further_two, H0.out], rfl⟩
  | false =>
  skip
  obtain ⟨b1, h1⟩ : ∃ b, (r == 45) = b := ⟨_, rfl⟩
  cases b1 with
  | true =>
    go_wp2
    go_ret
    exact ⟨by simp [further_two, H0.out, h1], rfl⟩
  | false =>
  skip
  obtain ⟨b2, h2⟩ : ∃ b, (r == 46) = b := ⟨_, rfl⟩
  cases b2 with
  | true =>
    go_wp2
    go_ret
    exact ⟨by simp [further_two, H0.out, h1, h2], rfl⟩
  | false =>
  skip
  go_wp2_with fail
  refine (in_calls r 48 57 _).mono ?_
  rintro e w3 ⟨rfl, rfl⟩
  obtain ⟨b3, h3⟩ : ∃ b, inPair r (48, 57) = b := ⟨_, rfl⟩
  rw [h3]
  have H3 := Lib.hid h3
  clear h3
  cases b3 with
  | true =>
    go_wp2
    go_ret
    exact ⟨by simp [further_two, H0.out, h1, h2, H3.out], rfl⟩
  | false =>
  skip
  obtain ⟨b4, h4⟩ : ∃ b, (r == 183) = b := ⟨_, rfl⟩
  cases b4 with
  | true =>
    go_wp2
    go_ret
    exact ⟨by simp [further_two, H0.out, h1, h2, H3.out, h4], rfl⟩
  | false =>
  skip
  go_wp2_with fail
  refine (in_calls r 768 879 _).mono ?_
  rintro e w5 ⟨rfl, rfl⟩
  obtain ⟨b5, h5⟩ : ∃ b, inPair r (768, 879) = b := ⟨_, rfl⟩
  rw [h5]
  have H5 := Lib.hid h5
  clear h5
  cases b5 with
  | true =>
    go_wp2
    go_ret
    exact ⟨by simp [further_two, H0.out, h1, h2, H3.out, h4, H5.out], rfl⟩
  | false =>
  skip
  obtain ⟨b6, h6⟩ : ∃ b, (r == 8255) = b := ⟨_, rfl⟩
  cases b6 with
  | true =>
    go_wp2
    go_ret
    exact ⟨by simp [further_two, H0.out, h1, h2, H3.out, h4, H5.out, h6], rfl⟩
  | false =>
  skip
  obtain ⟨b7, h7⟩ : ∃ b, (r == 8256) = b := ⟨_, rfl⟩
  cases b7 with
  | true =>
    go_wp2
    go_ret
    exact ⟨by simp [further_two, H0.out, h1, h2, H3.out, h4, H5.out, h6, h7], rfl⟩
  | false =>
  skip
  go_wp2
  go_ret
  exact ⟨by simp [further_two, H0.out, h1, h2, H3.out, h4, H5.out, h6, h7], rfl⟩

theorem chars_two (r : Int) : inTab charsT r = ((r == 9 || r == 10) || r == 13 || inPair r (32, 55295) || inPair r (57344, 65533) || inPair r (65536, 1114111)) := by
  simp only [inTab, charsT, List.any_cons, List.any_nil, Bool.or_false, inPair_one, show inPair r (9, 10) = (r == 9 || r == 10) from inPair_two r 9, Bool.or_assoc]

set_option maxRecDepth 100000 in
set_option maxHeartbeats 4000000 in
theorem refChar_calls (r : Int) (w : World) : Calls Tryz.prog 67 #[.int .i32 r] w (Stays (.bool (inTab charsT r)) w) := by
  rw [chars_two]
  unfold inPair
  cases h9 : (r == 9) with
  | true => go_enter Tryz.func67, Tryz.ntmps67; go_wp2; go_ret; exact ⟨rfl, rfl⟩
  | false => cases h10 : (r == 10) with
    | true => go_enter Tryz.func67, Tryz.ntmps67; go_wp2; go_ret; exact ⟨rfl, rfl⟩
    | false => cases h13 : (r == 13) with
      | true => go_enter Tryz.func67, Tryz.ntmps67; go_wp2; go_ret; exact ⟨rfl, rfl⟩
      | false =>
        rcases (show (decide (r ≥ 32) = true ∧ decide (r ≤ 55295) = true) ∨ (decide (r ≥ 32) = true ∧ decide (r ≤ 55295) = false ∧ decide (r ≥ 57344) = true ∧ decide (r ≤ 65533) = true) ∨ (decide (r ≥ 32) = true ∧ decide (r ≤ 55295) = false ∧ decide (r ≥ 57344) = true ∧ decide (r ≤ 65533) = false ∧ decide (r ≥ 65536) = true) ∨ (decide (r ≥ 32) = true ∧ decide (r ≤ 55295) = false ∧ decide (r ≥ 57344) = true ∧ decide (r ≤ 65533) = false ∧ decide (r ≥ 65536) = false) ∨ (decide (r ≥ 32) = true ∧ decide (r ≤ 55295) = false ∧ decide (r ≥ 57344) = false ∧ decide (r ≥ 65536) = false) ∨ (decide (r ≥ 32) = false ∧ decide (r ≥ 57344) = false ∧ decide (r ≥ 65536) = false) from by simp only [decide_eq_true_eq, decide_eq_false_iff_not]; omega) with ⟨d1, d2⟩ | ⟨d1, d2, d3, d4⟩ | ⟨d1, d2, d3, d4, d5⟩ | ⟨d1, d2, d3, d4, d5⟩ | ⟨d1, d2, d3, d4⟩ | ⟨d1, d2, d3⟩
        all_goals
          go_enter Tryz.func67, Tryz.ntmps67
          go_wp2
          go_ret
          refine ⟨?_, rfl⟩
          show Ending.returned (Value.bool _) = Ending.returned (Value.bool _)
          congr 2
          simp only [decide_eq_true_eq, decide_eq_false_iff_not] at *
          rw [Bool.eq_iff_iff]
          simp
          omega

end Go.Proofs.YtocnedpclllbhaaGreatDoor
