/-
 Texts.
-/
import Derived.Test.YtjpkkflhcjjefaaGreatDoorWQ
namespace Go.Proofs.YtjpkkflhcjjefaaGreatDoor
open Go.RowKit Go.Lib
set_option maxHeartbeats 32000000
theorem nth_lt {l : List Nat} (h : ∀ x ∈ l, x < 256) (i : Nat) : nth l i < 256 := by
 unfold nth
 rw [List.getD_eq_getElem?_getD]
 cases hq : l[i]? with
 | none => simp
 | some x => exact h x (List.mem_of_getElem? hq)
def LeavesRow (l : List Nat) (w : World) (e : Ending) (w' : World) : Prop :=
 ∃ a c, e = .returned (.slice a l.length c) ∧ l.length ≤ c ∧ c ≤ 9223372036854775807 ∧ Row8 w' a l.length (nth l) ∧ Below w.heap.size w w'
theorem row8_new (w : World) (l : List Nat) (t : TypeId) (hl : ∀ x ∈ l, x < 256) (hn : l.length ≤ 9223372036854775807) (cs : Array Value) (hc : cs = (l.map fun x : Nat => Value.int .u8 (x : Int)).toArray) :
  Row8 (w.alloc (.cells cs t)) (some ⟨w.heap.size, 0, none⟩) l.length (nth l) := by
 refine ⟨nth_lt hl, hn, Or.inr ⟨_, _, rfl, fun i hi => ?_⟩⟩
 subst hc
 simp only [World.alloc, World.cell?, Array.getElem?_push_size, Nat.zero_add]
 simp [nth, hi]
set_option maxRecDepth 100000 in
theorem refEncode_calls (r : Int) (w : World) (hr0 : -2147483648 ≤ r) (hr : r ≤ 2147483647) : Calls Tryz.prog 89 #[.int .i32 r] w (LeavesRow (encL r) w) := by
 have hl := encL_lt r
 obtain ⟨l, hle⟩ : ∃ l, encL r = l := ⟨_, rfl⟩
 have HLE := hid hle
 rw [hle] at hl ⊢
 clear hle
 by_cases h0 : r < 0
 ·have d0 : decide (r < 0) = true := decide_eq_true h0
  have : l = [] := by rw [← HLE.out]; unfold encL; rw [if_pos h0]
  subst this
  go_enter Tryz.func89, Tryz.ntmps89
  go_wp2
  all_goals go_ret
  all_goals exact ⟨none, 0, rfl, by simp, by simp, ⟨nth_lt hl, by simp, Or.inl rfl⟩, Below.refl _ _⟩
 ·obtain ⟨m, rfl⟩ : ∃ m : Nat, r = (m : Int) := ⟨r.toNat, by omega⟩
  have d0 : decide ((m : Int) < 0) = false := decide_eq_false h0
  have hl2 : l = encN m := by rw [← HLE.out]; unfold encL; rw [if_neg h0, Int.toNat_natCast]
  unfold encN at hl2
  by_cases h1 : 1114111 < m
  ·have d1 : decide ((m : Int) > 1114111) = true := by simp; omega
   rw [if_pos (Or.inl h1)] at hl2
   subst hl2
   go_enter Tryz.func89, Tryz.ntmps89
   go_wp2
   all_goals go_ret
   all_goals exact ⟨none, 0, rfl, by simp, by simp, ⟨nth_lt hl, by simp, Or.inl rfl⟩, Below.refl _ _⟩
  ·have d1 : decide ((m : Int) > 1114111) = false := by simp; omega
   by_cases h2 : 55296 ≤ m ∧ m ≤ 57343
   ·have d2 : decide ((m : Int) ≥ 55296) = true := by simp; omega
    have d3 : decide ((m : Int) ≤ 57343) = true := by simp; omega
    rw [if_pos (Or.inr h2)] at hl2
    subst hl2
    go_enter Tryz.func89, Tryz.ntmps89
    go_wp2
    all_goals go_ret
    all_goals exact ⟨none, 0, rfl, by simp, by simp, ⟨nth_lt hl, by simp, Or.inl rfl⟩, Below.refl _ _⟩
   ·rw [if_neg (by omega)] at hl2
    rcases (show (decide ((m : Int) ≥ 55296) = true ∧ decide ((m : Int) ≤ 57343) = false) ∨ decide ((m : Int) ≥ 55296) = false from by simp only [decide_eq_true_eq, decide_eq_false_iff_not]; omega) with ⟨d2, d3⟩ | d2
    all_goals
     by_cases h3 : m < 128
     ·have d4 : decide ((m : Int) < 128) = true := by simp; omega
      rw [if_pos h3] at hl2
      subst hl2
      go_enter Tryz.func89, Tryz.ntmps89
      go_wp2
      go_ret
      exact ⟨_, _, rfl, by simp, by simp, row8_new w _ _ hl (by simp) _ (by simp), (Below.refl _ _).alloc (Nat.le_refl _) _⟩
     ·have d4 : decide ((m : Int) < 128) = false := by simp; omega
      rw [if_neg h3] at hl2
      by_cases h4 : m < 2048
      ·have d5 : decide ((m : Int) < 2048) = true := by simp; omega
       rw [if_pos h4] at hl2
       subst hl2
       go_enter Tryz.func89, Tryz.ntmps89
       go_wp2
       go_ret
       exact ⟨_, _, rfl, by simp, by simp, row8_new w _ _ hl (by simp) _ (by simp), (Below.refl _ _).alloc (Nat.le_refl _) _⟩
      ·have d5 : decide ((m : Int) < 2048) = false := by simp; omega
       rw [if_neg h4] at hl2
       by_cases h5 : m < 65536
       ·have d6 : decide ((m : Int) < 65536) = true := by simp; omega
        rw [if_pos h5] at hl2
        subst hl2
        go_enter Tryz.func89, Tryz.ntmps89
        go_wp2
        go_ret
        exact ⟨_, _, rfl, by simp, by simp, row8_new w _ _ hl (by simp) _ (by simp), (Below.refl _ _).alloc (Nat.le_refl _) _⟩
       ·have d6 : decide ((m : Int) < 65536) = false := by simp; omega
        rw [if_neg h5] at hl2
        subst hl2
        go_enter Tryz.func89, Tryz.ntmps89
        go_wp2
        go_ret
        exact ⟨_, _, rfl, by simp, by simp, row8_new w _ _ hl (by simp) _ (by simp), (Below.refl _ _).alloc (Nat.le_refl _) _⟩
theorem in_calls (r a b : Int) (w : World) : Calls Tryz.prog 91 #[.int .i32 r, .int .i32 a, .int .i32 b] w (Stays (.bool (inPair r (a, b))) w) := by
 unfold inPair
 cases h1 : decide (a ≤ r) with
 | true =>
  go_enter Tryz.func91, Tryz.ntmps91
  go_wp2
  go_ret
  exact ⟨by simp, rfl⟩
 | false =>
  go_enter Tryz.func91, Tryz.ntmps91
  go_wp2
  go_ret
  exact ⟨by simp, rfl⟩
theorem inPair_one (r a : Int) : inPair r (a, a) = (r == a) := by
 unfold inPair
 rw [Bool.eq_iff_iff]
 simp
 omega
theorem inPair_two (r a : Int) : inPair r (a, a + 1) = (r == a || r == a + 1) := by
 unfold inPair
 rw [Bool.eq_iff_iff]
 simp
 omega
set_option maxRecDepth 100000 in
theorem refBegins_calls (r : Int) (w : World) : Calls Tryz.prog 63 #[.int .i32 r] w (Stays (.bool (inTab firstsT r)) w) := by
 go_enter Tryz.func63, Tryz.ntmps63
 go_wp2_with fail
 refine (in_calls r 65 90 _).mono ?_
 rintro e w0 ⟨rfl, rfl⟩
 obtain ⟨b0, h0⟩ : ∃ b, inPair r (65, 90) = b := ⟨_, rfl⟩
 rw [h0]
 have H0 := Lib.hid h0
 clear h0
 cases b0 with
 | true =>
  go_wp2
  go_ret
  exact ⟨by simp [inTab, firstsT, List.any_cons, inPair_one, H0.out], rfl⟩
 | false =>
 skip
 obtain ⟨b1, h1⟩ : ∃ b, (r == 95) = b := ⟨_, rfl⟩
 cases b1 with
 | true =>
  go_wp2
  go_ret
  exact ⟨by simp [inTab, firstsT, List.any_cons, inPair_one, H0.out, h1], rfl⟩
 | false =>
 skip
 go_wp2_with fail
 refine (in_calls r 97 122 _).mono ?_
 rintro e w2 ⟨rfl, rfl⟩
 obtain ⟨b2, h2⟩ : ∃ b, inPair r (97, 122) = b := ⟨_, rfl⟩
 rw [h2]
 have H2 := Lib.hid h2
 clear h2
 cases b2 with
 | true =>
  go_wp2
  go_ret
  exact ⟨by simp [inTab, firstsT, List.any_cons, inPair_one, H0.out, h1, H2.out], rfl⟩
 | false =>
 skip
 go_wp2_with fail
 refine (in_calls r 192 214 _).mono ?_
 rintro e w3 ⟨rfl, rfl⟩
 obtain ⟨b3, h3⟩ : ∃ b, inPair r (192, 214) = b := ⟨_, rfl⟩
 rw [h3]
 have H3 := Lib.hid h3
 clear h3
 cases b3 with
 | true =>
  go_wp2
  go_ret
  exact ⟨by simp [inTab, firstsT, List.any_cons, inPair_one, H0.out, h1, H2.out, H3.out], rfl⟩
 | false =>
 skip
 go_wp2_with fail
 refine (in_calls r 216 246 _).mono ?_
 rintro e w4 ⟨rfl, rfl⟩
 obtain ⟨b4, h4⟩ : ∃ b, inPair r (216, 246) = b := ⟨_, rfl⟩
 rw [h4]
 have H4 := Lib.hid h4
 clear h4
 cases b4 with
 | true =>
  go_wp2
  go_ret
  exact ⟨by simp [inTab, firstsT, List.any_cons, inPair_one, H0.out, h1, H2.out, H3.out, H4.out], rfl⟩
 | false =>
 skip
 go_wp2_with fail
 refine (in_calls r 248 767 _).mono ?_
 rintro e w5 ⟨rfl, rfl⟩
 obtain ⟨b5, h5⟩ : ∃ b, inPair r (248, 767) = b := ⟨_, rfl⟩
 rw [h5]
 have H5 := Lib.hid h5
 clear h5
 cases b5 with
 | true =>
  go_wp2
  go_ret
  exact ⟨by simp [inTab, firstsT, List.any_cons, inPair_one, H0.out, h1, H2.out, H3.out, H4.out, H5.out], rfl⟩
 | false =>
 skip
 go_wp2_with fail
 refine (in_calls r 880 893 _).mono ?_
 rintro e w6 ⟨rfl, rfl⟩
 obtain ⟨b6, h6⟩ : ∃ b, inPair r (880, 893) = b := ⟨_, rfl⟩
 rw [h6]
 have H6 := Lib.hid h6
 clear h6
 cases b6 with
 | true =>
  go_wp2
  go_ret
  exact ⟨by simp [inTab, firstsT, List.any_cons, inPair_one, H0.out, h1, H2.out, H3.out, H4.out, H5.out, H6.out], rfl⟩
 | false =>
 skip
 go_wp2_with fail
 refine (in_calls r 895 8191 _).mono ?_
 rintro e w7 ⟨rfl, rfl⟩
 obtain ⟨b7, h7⟩ : ∃ b, inPair r (895, 8191) = b := ⟨_, rfl⟩
 rw [h7]
 have H7 := Lib.hid h7
 clear h7
 cases b7 with
 | true =>
  go_wp2
  go_ret
  exact ⟨by simp [inTab, firstsT, List.any_cons, inPair_one, H0.out, h1, H2.out, H3.out, H4.out, H5.out, H6.out, H7.out], rfl⟩
 | false =>
 skip
 go_wp2_with fail
 refine (in_calls r 8204 8205 _).mono ?_
 rintro e w8 ⟨rfl, rfl⟩
 obtain ⟨b8, h8⟩ : ∃ b, inPair r (8204, 8205) = b := ⟨_, rfl⟩
 rw [h8]
 have H8 := Lib.hid h8
 clear h8
 cases b8 with
 | true =>
  go_wp2
  go_ret
  exact ⟨by simp [inTab, firstsT, List.any_cons, inPair_one, H0.out, h1, H2.out, H3.out, H4.out, H5.out, H6.out, H7.out, H8.out], rfl⟩
 | false =>
 skip
 go_wp2_with fail
 refine (in_calls r 8304 8591 _).mono ?_
 rintro e w9 ⟨rfl, rfl⟩
 obtain ⟨b9, h9⟩ : ∃ b, inPair r (8304, 8591) = b := ⟨_, rfl⟩
 rw [h9]
 have H9 := Lib.hid h9
 clear h9
 cases b9 with
 | true =>
  go_wp2
  go_ret
  exact ⟨by simp [inTab, firstsT, List.any_cons, inPair_one, H0.out, h1, H2.out, H3.out, H4.out, H5.out, H6.out, H7.out, H8.out, H9.out], rfl⟩
 | false =>
 skip
 go_wp2_with fail
 refine (in_calls r 11264 12271 _).mono ?_
 rintro e w10 ⟨rfl, rfl⟩
 obtain ⟨b10, h10⟩ : ∃ b, inPair r (11264, 12271) = b := ⟨_, rfl⟩
 rw [h10]
 have H10 := Lib.hid h10
 clear h10
 cases b10 with
 | true =>
  go_wp2
  go_ret
  exact ⟨by simp [inTab, firstsT, List.any_cons, inPair_one, H0.out, h1, H2.out, H3.out, H4.out, H5.out, H6.out, H7.out, H8.out, H9.out, H10.out], rfl⟩
 | false =>
 skip
 go_wp2_with fail
 refine (in_calls r 12289 55295 _).mono ?_
 rintro e w11 ⟨rfl, rfl⟩
 obtain ⟨b11, h11⟩ : ∃ b, inPair r (12289, 55295) = b := ⟨_, rfl⟩
 rw [h11]
 have H11 := Lib.hid h11
 clear h11
 cases b11 with
 | true =>
  go_wp2
  go_ret
  exact ⟨by simp [inTab, firstsT, List.any_cons, inPair_one, H0.out, h1, H2.out, H3.out, H4.out, H5.out, H6.out, H7.out, H8.out, H9.out, H10.out, H11.out], rfl⟩
 | false =>
 skip
 go_wp2_with fail
 refine (in_calls r 63744 64975 _).mono ?_
 rintro e w12 ⟨rfl, rfl⟩
 obtain ⟨b12, h12⟩ : ∃ b, inPair r (63744, 64975) = b := ⟨_, rfl⟩
 rw [h12]
 have H12 := Lib.hid h12
 clear h12
 cases b12 with
 | true =>
  go_wp2
  go_ret
  exact ⟨by simp [inTab, firstsT, List.any_cons, inPair_one, H0.out, h1, H2.out, H3.out, H4.out, H5.out, H6.out, H7.out, H8.out, H9.out, H10.out, H11.out, H12.out], rfl⟩
 | false =>
 skip
 go_wp2_with fail
 refine (in_calls r 65008 65533 _).mono ?_
 rintro e w13 ⟨rfl, rfl⟩
 obtain ⟨b13, h13⟩ : ∃ b, inPair r (65008, 65533) = b := ⟨_, rfl⟩
 rw [h13]
 have H13 := Lib.hid h13
 clear h13
 cases b13 with
 | true =>
  go_wp2
  go_ret
  exact ⟨by simp [inTab, firstsT, List.any_cons, inPair_one, H0.out, h1, H2.out, H3.out, H4.out, H5.out, H6.out, H7.out, H8.out, H9.out, H10.out, H11.out, H12.out, H13.out], rfl⟩
 | false =>
 skip
 go_wp2_with fail
 refine (in_calls r 65536 983039 _).mono ?_
 rintro e w14 ⟨rfl, rfl⟩
 obtain ⟨b14, h14⟩ : ∃ b, inPair r (65536, 983039) = b := ⟨_, rfl⟩
 rw [h14]
 have H14 := Lib.hid h14
 clear h14
 cases b14 with
 | true =>
  go_wp2
  go_ret
  exact ⟨by simp [inTab, firstsT, List.any_cons, inPair_one, H0.out, h1, H2.out, H3.out, H4.out, H5.out, H6.out, H7.out, H8.out, H9.out, H10.out, H11.out, H12.out, H13.out, H14.out], rfl⟩
 | false =>
 skip
 go_wp2
 go_ret
 exact ⟨by simp [inTab, firstsT, List.any_cons, inPair_one, H0.out, h1, H2.out, H3.out, H4.out, H5.out, H6.out, H7.out, H8.out, H9.out, H10.out, H11.out, H12.out, H13.out, H14.out], rfl⟩
theorem further_two (r : Int) : inTab furtherT r = ((r == 45 || r == 46) || inPair r (48, 57) || r == 183 || inPair r (768, 879) || (r == 8255 || r == 8256)) := by
 simp only [inTab, furtherT, List.any_cons, List.any_nil, Bool.or_false, inPair_one, show inPair r (45, 46) = (r == 45 || r == 46) from inPair_two r 45, show inPair r (8255, 8256) = (r == 8255 || r == 8256) from inPair_two r 8255, Bool.or_assoc]
set_option maxRecDepth 100000 in
theorem refGoesOn_calls (r : Int) (w : World) : Calls Tryz.prog 64 #[.int .i32 r] w (Stays (.bool (inTab furtherT r || inTab firstsT r)) w) := by
 go_enter Tryz.func64, Tryz.ntmps64
 go_wp2_with fail
 refine (refBegins_calls r _).mono ?_
 rintro e w0 ⟨rfl, rfl⟩
 obtain ⟨b0, h0⟩ : ∃ b, inTab firstsT r = b := ⟨_, rfl⟩
 rw [h0]
 have H0 := Lib.hid h0
 clear h0
 cases b0 with
 | true =>
  go_wp2
  go_ret
  exact ⟨by simp [further_two, H0.out], rfl⟩
 | false =>
 skip
 obtain ⟨b1, h1⟩ : ∃ b, (r == 45) = b := ⟨_, rfl⟩
 cases b1 with
 | true =>
  go_wp2
  go_ret
  exact ⟨by simp [further_two, H0.out, h1], rfl⟩
 | false =>
 skip
 obtain ⟨b2, h2⟩ : ∃ b, (r == 46) = b := ⟨_, rfl⟩
 cases b2 with
 | true =>
  go_wp2
  go_ret
  exact ⟨by simp [further_two, H0.out, h1, h2], rfl⟩
 | false =>
 skip
 go_wp2_with fail
 refine (in_calls r 48 57 _).mono ?_
 rintro e w3 ⟨rfl, rfl⟩
 obtain ⟨b3, h3⟩ : ∃ b, inPair r (48, 57) = b := ⟨_, rfl⟩
 rw [h3]
 have H3 := Lib.hid h3
 clear h3
 cases b3 with
 | true =>
  go_wp2
  go_ret
  exact ⟨by simp [further_two, H0.out, h1, h2, H3.out], rfl⟩
 | false =>
 skip
 obtain ⟨b4, h4⟩ : ∃ b, (r == 183) = b := ⟨_, rfl⟩
 cases b4 with
 | true =>
  go_wp2
  go_ret
  exact ⟨by simp [further_two, H0.out, h1, h2, H3.out, h4], rfl⟩
 | false =>
 skip
 go_wp2_with fail
 refine (in_calls r 768 879 _).mono ?_
 rintro e w5 ⟨rfl, rfl⟩
 obtain ⟨b5, h5⟩ : ∃ b, inPair r (768, 879) = b := ⟨_, rfl⟩
 rw [h5]
 have H5 := Lib.hid h5
 clear h5
 cases b5 with
 | true =>
  go_wp2
  go_ret
  exact ⟨by simp [further_two, H0.out, h1, h2, H3.out, h4, H5.out], rfl⟩
 | false =>
 skip
 obtain ⟨b6, h6⟩ : ∃ b, (r == 8255) = b := ⟨_, rfl⟩
 cases b6 with
 | true =>
  go_wp2
  go_ret
  exact ⟨by simp [further_two, H0.out, h1, h2, H3.out, h4, H5.out, h6], rfl⟩
 | false =>
 skip
 obtain ⟨b7, h7⟩ : ∃ b, (r == 8256) = b := ⟨_, rfl⟩
 cases b7 with
 | true =>
  go_wp2
  go_ret
  exact ⟨by simp [further_two, H0.out, h1, h2, H3.out, h4, H5.out, h6, h7], rfl⟩
 | false =>
 skip
 go_wp2
 go_ret
 exact ⟨by simp [further_two, H0.out, h1, h2, H3.out, h4, H5.out, h6, h7], rfl⟩
theorem chars_two (r : Int) : inTab charsT r = ((r == 9 || r == 10) || r == 13 || inPair r (32, 55295) || inPair r (57344, 65533) || inPair r (65536, 1114111)) := by
 simp only [inTab, charsT, List.any_cons, List.any_nil, Bool.or_false, inPair_one, show inPair r (9, 10) = (r == 9 || r == 10) from inPair_two r 9, Bool.or_assoc]
set_option maxRecDepth 100000 in
theorem refChar_calls (r : Int) (w : World) : Calls Tryz.prog 90 #[.int .i32 r] w (Stays (.bool (inTab charsT r)) w) := by
 rw [chars_two]
 unfold inPair
 cases h9 : (r == 9) with
 | true => go_enter Tryz.func90, Tryz.ntmps90; go_wp2; go_ret; exact ⟨rfl, rfl⟩
 | false => cases h10 : (r == 10) with
  | true => go_enter Tryz.func90, Tryz.ntmps90; go_wp2; go_ret; exact ⟨rfl, rfl⟩
  | false => cases h13 : (r == 13) with
   | true => go_enter Tryz.func90, Tryz.ntmps90; go_wp2; go_ret; exact ⟨rfl, rfl⟩
   | false =>
    rcases (show (decide (r ≥ 32) = true ∧ decide (r ≤ 55295) = true) ∨ (decide (r ≥ 32) = true ∧ decide (r ≤ 55295) = false ∧ decide (r ≥ 57344) = true ∧ decide (r ≤ 65533) = true) ∨ (decide (r ≥ 32) = true ∧ decide (r ≤ 55295) = false ∧ decide (r ≥ 57344) = true ∧ decide (r ≤ 65533) = false ∧ decide (r ≥ 65536) = true) ∨ (decide (r ≥ 32) = true ∧ decide (r ≤ 55295) = false ∧ decide (r ≥ 57344) = true ∧ decide (r ≤ 65533) = false ∧ decide (r ≥ 65536) = false) ∨ (decide (r ≥ 32) = true ∧ decide (r ≤ 55295) = false ∧ decide (r ≥ 57344) = false ∧ decide (r ≥ 65536) = false) ∨ (decide (r ≥ 32) = false ∧ decide (r ≥ 57344) = false ∧ decide (r ≥ 65536) = false) from by simp only [decide_eq_true_eq, decide_eq_false_iff_not]; omega) with ⟨d1, d2⟩ | ⟨d1, d2, d3, d4⟩ | ⟨d1, d2, d3, d4, d5⟩ | ⟨d1, d2, d3, d4, d5⟩ | ⟨d1, d2, d3, d4⟩ | ⟨d1, d2, d3⟩
    all_goals
     go_enter Tryz.func90, Tryz.ntmps90
     go_wp2
     go_ret
     refine ⟨?_, rfl⟩
     show Ending.returned (Value.bool _) = Ending.returned (Value.bool _)
     congr 2
     simp only [decide_eq_true_eq, decide_eq_false_iff_not] at *
     rw [Bool.eq_iff_iff]
     simp
     omega
theorem vAt_lt (f : Nat → Nat) (p n : Nat) : ∀ k, vAt f p n (k + 1) < 256 * 64 ^ k
 | 0 => by
  have : md n ≤ 256 := by unfold md; (repeat' split) <;> omega
  have h0 : 0 < md n := by unfold md; (repeat' split) <;> omega
  have := Nat.mod_lt (f p) h0
  simp only [vAt]
  omega
 | k + 1 => by
  have ih := vAt_lt f p n k
  have := Nat.mod_lt (f (p + (k + 1))) (show 0 < 64 by omega)
  simp only [vAt, Nat.pow_succ] at *
  omega
theorem vAt_small {f : Nat → Nat} {p n k : Nat} (hk : k ≤ 4) : vAt f p n k < 67108864 := by
 rcases (show k = 0 ∨ k = 1 ∨ k = 2 ∨ k = 3 ∨ k = 4 from by omega) with rfl | rfl | rfl | rfl | rfl
 ·simp [vAt]
 ·exact Nat.lt_of_lt_of_le (vAt_lt f p n 0) (by decide)
 ·exact Nat.lt_of_lt_of_le (vAt_lt f p n 1) (by decide)
 ·exact Nat.lt_of_lt_of_le (vAt_lt f p n 2) (by decide)
 ·exact Nat.lt_of_lt_of_le (vAt_lt f p n 3) (by decide)
theorem natBeq (x y : Nat) : ((x : Int) == (y : Int)) = (x == y) := by
 rw [Bool.eq_iff_iff, beq_iff_eq, beq_iff_eq]
 omega
set_option maxRecDepth 100000 in
theorem refNext_in (b o c N k : Nat) (f : Nat → Nat) (w : World) (hf : ∀ i, f i < 256) (hN : N ≤ 9223372036854775800) (hk : k < N) (hcell : ∀ i, i < N → w.cell? ⟨b, o + i, none⟩ = some (.int .u8 (f i))) :
  Calls Tryz.prog 61 #[.slice (some ⟨b, o, none⟩) N c, .int .i64 k] w (Leaves (runeOf (refFrom f N k 4 1)) w) := by
 have hd0 : decide ((k : Int) < 0) = false := by simp
 have hd1 : decide ((k : Int) ≥ (N : Int)) = false := by simp; omega
 have hd1b : decide (N ≤ k) = false := by simp; omega
 obtain ⟨q, hq⟩ : ∃ q, refFrom f N k 4 1 = q := ⟨_, rfl⟩
 rw [hq]
 have HQ := hid hq
 have HC := hid hcell
 have HF := hid hf
 clear hq hcell hf
 go_enter Tryz.func61, Tryz.ntmps61
 go_wp2
 go_loopg [6] 4 (fun g s wr => ∃ n : Nat, s = .int .i64 n ∧ 1 ≤ n ∧ g + n = 5 ∧ Below w.heap.size w wr ∧ refFrom f N k g n = q)
 case atStart => exact ⟨1, rfl, Nat.le_refl _, rfl, Below.refl _ _, HQ.out⟩
 case round =>
  obtain ⟨n, rfl, hn1, hg, hb, hr⟩ := hrel
  have HG := hid hg
  have HB := hid hb
  have HR := hid hr
  clear hg hb hr HQ
  by_cases hn4 : n ≤ 4
  ·have hd2 : decide ((n : Int) ≤ 4) = true := by simp; omega
   obtain ⟨g', rfl⟩ : ∃ g', gk = g' + 1 := ⟨gk - 1, by have := HG.out; omega⟩
   by_cases hend : k + n ≤ N
   ·have hd3 : decide ((k : Int) + (n : Int) ≤ (N : Int)) = true := by simp; omega
    have k0 := cell_below HB.out (HC.out k hk)
    have l0 := HF.out k
    have hkN : (k : Int) < (N : Int) := by omega
    rcases (show n = 1 ∨ n = 2 ∨ n = 3 ∨ n = 4 from by omega) with h | h | h | h
    all_goals
     have e2 : ((n : Int) == 2) = decide (n = 2) := by rw [Bool.eq_iff_iff]; simp; omega
     have e3 : ((n : Int) == 3) = decide (n = 3) := by rw [Bool.eq_iff_iff]; simp; omega
     have e4 : ((n : Int) == 4) = decide (n = 4) := by rw [Bool.eq_iff_iff]; simp; omega
     simp only [h, Nat.reduceEqDiff, decide_true, decide_false] at e2 e3 e4
     go_wp2
     go_loopg [7, 8] n (fun g2 v s wr2 => ∃ j : Nat, v = .int .i64 (vAt f k n j) ∧ s = .int .i64 j ∧ 1 ≤ j ∧ j ≤ n ∧ g2 + j = n + 1 ∧ wr2 = wr)
     case atStart => exact ⟨1, by simp [vAt, md, h]; try omega, rfl, Nat.le_refl _, hn1, rfl, rfl⟩
     case round =>
      obtain ⟨j, rfl, rfl, hj1, hjn0, hg2, rfl⟩ := hrel
      have HG2 := hid hg2
      clear hg2
      have hvs := vAt_small (f := f) (p := k) (n := n) (k := j) (by omega)
      by_cases hjn : j < n
      ·have hdj : decide ((j : Int) < (n : Int)) = true := by simp; omega
       have kj := cell_below HB.out (HC.out (k + j) (by omega))
       have lj := HF.out (k + j)
       have hkj : (k : Int) + (j : Int) < (N : Int) := by omega
       obtain ⟨v, hv⟩ : ∃ v, vAt f k n j = v := ⟨_, rfl⟩
       rw [hv] at hvs ⊢
       have HV := hid hv
       clear hv
       first
        | (exfalso; omega)
        | (go_wp2
           go_roundg (gk - 1)
           case measure => have := HG2.out; omega
           case rel => exact ⟨j + 1, by have := HV.out; obtain ⟨j', rfl⟩ : ∃ j', j = j' + 1 := ⟨j - 1, by omega⟩; simp [vAt, this], by go_num, by omega, by omega, by have := HG2.out; omega, rfl⟩)
      ·have hdj : decide ((j : Int) < (n : Int)) = false := by simp; omega
       have hjn2 : j = n := by omega
       subst hjn2
       obtain ⟨v, hv⟩ : ∃ v, vAt f k j j = v := ⟨_, rfl⟩
       obtain ⟨l, hl⟩ : ∃ l, encL v = l := ⟨_, rfl⟩
       have HFT : Hid ((l.length == j && inTab charsT v && sameTo l f k j) = fits f k j) := by
        refine hid ?_
        rw [← hl, ← hv]
        rfl
       have hRR : (if fits f k j = true then (v, j) else refFrom f N k g' (j + 1)) = q := by
        have := HR.out
        rw [refFrom, if_pos hend, hv] at this
        exact this
       have HRR := hid hRR
       have hl4 := encL_len (v : Int)
       rw [hv] at hvs ⊢
       have HV := hid hv
       clear hv hRR
       go_wp2_with fail
       refine (refEncode_calls (v : Int) _ (by omega) (by omega)).mono ?_
       rintro e w2 ⟨a, cc, rfl, hlc, hcc, hrow, hb2⟩
       rw [hl] at hl4 hlc hrow ⊢
       have HL := hid hl
       have HB2 := hid hb2
       have HROW := hid hrow
       clear hl hb2 hrow
       have next : Hid (fits f k j = false → refFrom f N k g' (j + 1) = q) := hid fun h0 => by
        have := HRR.out
        rw [if_neg (by rw [h0]; exact Bool.false_ne_true)] at this
        exact this
       by_cases hlen : l.length = j
       ·have hdl : ((l.length : Int) != (j : Int)) = false := by simp [hlen]
        go_wp2_with fail
        refine (refChar_calls (v : Int) _).mono ?_
        rintro e w3 ⟨rfl, rfl⟩
        obtain ⟨x, hx⟩ : ∃ x, inTab charsT (v : Int) = x := ⟨_, rfl⟩
        rw [hx]
        have HX := hid hx
        clear hx
        cases x with
        | false =>
         go_wp2
         go_roundg g'
         case measure => omega
         case rel => exact ⟨j + 1, by go_num, by omega, by have := HG.out; omega, below_then HB.out HB2.out, next.out (by rw [← HFT.out, HX.out]; simp)⟩
        | true =>
         go_wp2
         go_loopg [10, 11] j (fun g3 sm s wr3 => ∃ i : Nat, sm = .bool (sameTo l f k i) ∧ s = .int .i64 i ∧ g3 + i = j ∧ Below w.heap.size w wr3 ∧ Below w3.heap.size w3 wr3)
         case atStart => exact ⟨0, rfl, rfl, rfl, below_then HB.out HB2.out, Below.refl _ _⟩
         case round =>
          obtain ⟨i, rfl, rfl, hg3, hb3, hb4⟩ := hrel
          have HG3 := hid hg3
          have HB3 := hid hb3
          have HB4 := hid hb4
          clear hg3 hb3 hb4
          by_cases hij : i < j
          ·have hdi : decide ((i : Int) < (j : Int)) = true := by simp; omega
           obtain ⟨y, hy⟩ : ∃ y, sameTo l f k i = y := ⟨_, rfl⟩
           rw [hy]
           have HY := hid hy
           clear hy
           cases y with
           | true =>
            obtain ⟨hfl, _, hrw⟩ := HROW.out
            rcases hrw with h0 | ⟨eb, eo, rfl, hec⟩
            ·omega
            have ke := cell_below HB4.out (hec i (by omega))
            have le := hfl i
            have ki := cell_below HB3.out (HC.out (k + i) (by omega))
            have li := HF.out (k + i)
            have hki : (k : Int) + (i : Int) < (N : Int) := by omega
            have hil : (i : Int) < (l.length : Int) := by omega
            clear hfl hec
            go_wp2
            go_quiet (fail)
            go_wp2
            go_roundg (gk - 1)
            case measure => have := HG3.out; omega
            case rel => exact ⟨i + 1, by rw [sameTo, HY.out, Bool.true_and, natBeq], by go_num, by have := HG3.out; omega, below_drewNv HB3.out _, below_drewNv HB4.out _⟩
           | false =>
            go_wp2
            go_quiet (fail)
            go_wp2
            go_roundg (gk - 1)
            case measure => have := HG3.out; omega
            case rel => exact ⟨i + 1, by rw [sameTo, HY.out, Bool.false_and], by go_num, by have := HG3.out; omega, below_drewNv HB3.out _, below_drewNv HB4.out _⟩
          ·have hdi : decide ((i : Int) < (j : Int)) = false := by simp; omega
           have hii : i = j := by have := HG3.out; omega
           subst hii
           obtain ⟨y, hy⟩ : ∃ y, sameTo l f k i = y := ⟨_, rfl⟩
           rw [hy]
           have HY := hid hy
           clear hy
           cases y with
           | true =>
            go_wp2
            go_ret2
            refine ⟨?_, HB3.out⟩
            have := HRR.out
            rw [if_pos (by rw [← HFT.out, HX.out, HY.out]; simp [hlen])] at this
            rw [← this]
            simp only [runeOf]
            rw [h]
            rfl
           | false =>
            go_wp2
            go_roundg g'
            case measure => omega
            case rel => exact ⟨i + 1, by go_num, by omega, by have := HG.out; omega, HB3.out, next.out (by rw [← HFT.out, HY.out]; simp)⟩
       ·have hdl : ((l.length : Int) != (j : Int)) = true := by simp; omega
        go_wp2
        go_roundg g'
        case measure => omega
        case rel => exact ⟨j + 1, by go_num, by omega, by have := HG.out; omega, below_then HB.out HB2.out, next.out (by rw [← HFT.out]; simp [hlen])⟩
   ·have hd3 : decide ((k : Int) + (n : Int) ≤ (N : Int)) = false := by simp; omega
    go_wp2
    go_ret2
    refine ⟨?_, HB.out⟩
    have := HR.out
    rw [refFrom, if_neg hend] at this
    rw [← this]
    rfl
  ·have hd2 : decide ((n : Int) ≤ 4) = false := by simp; omega
   have : gk = 0 := by have := HG.out; omega
   subst this
   go_wp2
   go_ret2
   refine ⟨?_, HB.out⟩
   have := HR.out
   rw [refFrom] at this
   rw [← this]
   rfl
set_option maxRecDepth 100000 in
theorem refNext_calls (a : Option Addr) (n c : Nat) (f : Nat → Nat) (i : Int) (w : World) (hr : Row8 w a n f) (hn : n ≤ 4611686018427387904) :
  Calls Tryz.prog 61 #[.slice a n c, .int .i64 i] w (Leaves (runeOf (nextZ f n i)) w) := by
 obtain ⟨hf, _, hrow⟩ := hr
 unfold nextZ
 by_cases h0 : i < 0
 ·have hd : decide (i < 0) = true := decide_eq_true h0
  rw [if_pos (Or.inl h0)]
  go_enter Tryz.func61, Tryz.ntmps61
  go_wp2
  go_ret2
  exact ⟨rfl, Below.refl _ _⟩
 ·have hd : decide (i < 0) = false := decide_eq_false h0
  by_cases h1 : (n : Int) ≤ i
  ·have hd1 : decide (i ≥ (n : Int)) = true := decide_eq_true h1
   rw [if_pos (Or.inr h1)]
   go_enter Tryz.func61, Tryz.ntmps61
   go_wp2
   go_ret2
   exact ⟨rfl, Below.refl _ _⟩
  ·rw [if_neg (by omega)]
   obtain ⟨k, rfl⟩ : ∃ k : Nat, i = (k : Int) := ⟨i.toNat, by omega⟩
   rcases hrow with h | ⟨b, o, rfl, hcell⟩
   ·omega
   rw [Int.toNat_natCast, ← ref_is_nx f n k (by omega) hf]
   exact refNext_in b o c n k f w hf (by omega) (by omega) hcell
set_option maxRecDepth 100000 in
theorem refBad_calls (a : Option Addr) (n c : Nat) (f : Nat → Nat) (w : World) (hr : Row8 w a n f) (hn : n ≤ 4611686018427387904) :
  Calls Tryz.prog 30 #[.slice a n c] w (Leaves (.int .i64 (badZ f n)) w) := by
 have HROW := hid hr
 obtain ⟨q, hq⟩ : ∃ q, badZ f n = q := ⟨_, rfl⟩
 rw [hq]
 have HQ := hid hq
 clear hq hr
 go_enter Tryz.func30, Tryz.ntmps30
 go_wp2
 go_loopg [3] n (fun g s wr => ∃ p : Nat, s = .int .i64 p ∧ n ≤ g + p ∧ p ≤ n + 4 ∧ badFrom f n g p = q ∧ Below w.heap.size w wr)
 case atStart => exact ⟨0, rfl, by omega, by omega, HQ.out, Below.refl _ _⟩
 case round =>
  obtain ⟨p, rfl, hg, hp4, hbad, hb⟩ := hrel
  have HG := hid hg
  have HBAD := hid hbad
  have HB := hid hb
  clear hg hbad hb HQ
  by_cases hlt : p < n
  ·have hd : decide ((p : Int) < (n : Int)) = true := by simp; omega
   obtain ⟨g', rfl⟩ : ∃ g', gk = g' + 1 := ⟨gk - 1, by have := HG.out; omega⟩
   have hw := nx_width f n p
   obtain ⟨⟨r, z⟩, hrz⟩ : ∃ d, nx f n p = d := ⟨_, rfl⟩
   have hn1 : nextZ f n (p : Int) = (r, z) := by rw [nextZ_at f n p hlt, hrz]
   have hb2 : (if z = 0 then (p : Int) else badFrom f n g' (p + z)) = q := by
    have := HBAD.out
    rw [badFrom, if_pos hlt, hrz] at this
    exact this
   rw [hrz] at hw
   have HN1 := hid hn1
   have HB2 := hid hb2
   have HW := hid hw
   clear hn1 hb2 hrz hw HBAD
   go_wp2_with fail
   refine (refNext_calls a n c f (p : Int) wr (Row8.below HROW.out HB.out) hn).mono ?_
   rintro e w2 ⟨rfl, hb3⟩
   have HB3 := hid hb3
   clear hb3
   rw [HN1.out]
   unfold runeOf
   by_cases hz : z = 0
   ·have hz2 : ((z : Int) == 0) = true := by rw [beq_iff_eq]; omega
    go_wp2
    go_ret
    refine ⟨?_, below_then HB.out HB3.out⟩
    have := HB2.out
    rw [if_pos hz] at this
    rw [← this]
    rfl
   ·have hz2 : ((z : Int) == 0) = false := by rw [beq_eq_false_iff_ne]; omega
    have hw4 : z ≤ 4 := HW.out
    go_wp2
    go_roundg g'
    case measure => omega
    case rel =>
     refine ⟨p + z, by go_num, by have := HG.out; omega, by omega, ?_, below_then HB.out HB3.out⟩
     have := HB2.out
     rw [if_neg hz] at this
     exact this
  ·have hd : decide ((p : Int) < (n : Int)) = false := by simp; omega
   go_wp2
   go_ret
   refine ⟨?_, HB.out⟩
   have := HBAD.out
   cases gk with
   | zero => rw [badFrom] at this; rw [← this]; rfl
   | succ g => rw [badFrom, if_neg hlt] at this; rw [← this]; rfl
def cellsR (l : List Nat) : List Value := l.map fun x : Nat => Value.int .i32 (x : Int)
def RowR (w : World) (a : Option Addr) (l : List Nat) : Prop := l = [] ∨ ∃ b o, a = some ⟨b, o, none⟩ ∧ ∀ (i x : Nat), l[i]? = some x → w.cell? ⟨b, o + i, none⟩ = some (.int .i32 (x : Int))
def RunesOut (q : Option (List Nat)) (w : World) (e : Ending) (w' : World) : Prop :=
 Below w.heap.size w w' ∧ ((q = none ∧ e = .returned (.tuple #[.slice none 0 0, .bool false])) ∨
  ∃ l a c, q = some l ∧ l.length ≤ 4294967296 ∧ e = .returned (.tuple #[.slice a l.length c, .bool true]) ∧ RowR w' a l)
theorem info21 : (Tryz.prog.info? 21).map (fun i => (i.zero, i.size, i.bytes)) = some (some (.int .i32 0), 1, 4) := by kernel_rfl
theorem under33 : Tryz.prog.underlying 104 = some (.slice 21) := by kernel_rfl
theorem rowR_of_owns {w : World} {B : Nat} {v : Value} {l : List Nat} (h : w.ownsRow B 21 1 v l.length (cellsR l)) : ∃ a c, v = .slice a l.length c ∧ RowR w a l := by
 rcases h.2 with ⟨h1, h0⟩ | ⟨g, cap, cur, h1, hg, hgb, hcap, hcm, hcur, htk⟩
 ·exact ⟨none, 0, by rw [h1, h0], Or.inl (List.length_eq_zero_iff.1 h0)⟩
 ·refine ⟨_, cap, h1, Or.inr ⟨g, 0, rfl, fun i x hx => ?_⟩⟩
  have := h.cells (g := g) (by rw [h1]; rfl) i (.int .i32 x) (by rw [cellsR, List.getElem?_map, hx]; rfl)
  rwa [Addr.add_mid] at this
set_option maxRecDepth 100000 in
theorem runes_calls (s : ByteArray) (w : World) (hs : s.size ≤ 1073741824) : Calls Tryz.prog 62 #[.string s] w (RunesOut (runesFrom (fs s.data.toList) s.size s.size 0) w) := by
 obtain ⟨i0, hi, hj0, hj1, hj2⟩ := info_parts info21
 have hconv := Lib.run_convert_string_bytes (P := Tryz.prog) w 9 43 5 s Tryz.underlying9 Tryz.underlying43 Tryz.underlying5
 have hb0 := bytesWorld_below w s
 have hrow : Row8 (bytesWorld w 5 s) (some ⟨w.heap.size, 0, none⟩) s.size (fs s.data.toList) :=
  ⟨fs_lt _, by omega, Or.inr ⟨_, _, rfl, fun i hi => by rw [Nat.zero_add]; exact bytesWorld_cell w 5 s i hi⟩⟩
 obtain ⟨W1, hW1⟩ : ∃ W1, bytesWorld w 5 s = W1 := ⟨_, rfl⟩
 obtain ⟨cap, hcap⟩ : ∃ cap, grownCap w s.size 0 5 = cap := ⟨_, rfl⟩
 rw [hW1] at hconv hb0 hrow
 rw [hcap] at hconv
 obtain ⟨q, hq⟩ : ∃ q, runesFrom (fs s.data.toList) s.size s.size 0 = q := ⟨_, rfl⟩
 rw [hq]
 have HQ := hid hq
 have HB0 := hid hb0
 have HROW := hid hrow
 have hBW1 := hb0.size
 clear hq hb0 hrow hW1 hcap
 go_enter Tryz.func62, Tryz.ntmps62
 go_wp2
 go_loopg [5, 6] s.size (fun g v k wr => ∃ (p : Nat) (acc : List Nat), k = .int .i64 p ∧ s.size ≤ g + p ∧ p ≤ s.size + 4 ∧ acc.length ≤ p ∧ (runesFrom (fs s.data.toList) s.size g p).map (acc ++ ·) = q ∧ wr.ownsRow W1.heap.size 21 1 v acc.length (cellsR acc) ∧ Below W1.heap.size W1 wr)
 case atStart => exact ⟨0, [], rfl, by omega, by omega, Nat.le_refl _, by rw [HQ.out]; cases q <;> rfl, World.ownsRow_nil _ _ _ _, Below.refl _ _⟩
 case round =>
  obtain ⟨p, acc, rfl, hg, hp4, hal, hacc, hown, hb2⟩ := hrel
  have HG := hid hg
  have HACC := hid hacc
  have HB2 := hid hb2
  have hBw : W1.heap.size ≤ wr.heap.size := hb2.size
  clear hg hacc hb2 HQ
  by_cases hlt : p < s.size
  ·have hd : decide ((p : Int) < (s.size : Int)) = true := by simp; omega
   obtain ⟨g', rfl⟩ : ∃ g', gk = g' + 1 := ⟨gk - 1, by have := HG.out; omega⟩
   have hw := nx_width (fs s.data.toList) s.size p
   obtain ⟨⟨r, z⟩, hrz⟩ : ∃ d, nx (fs s.data.toList) s.size p = d := ⟨_, rfl⟩
   have hn1 : nextZ (fs s.data.toList) s.size (p : Int) = (r, z) := by rw [nextZ_at _ _ _ hlt, hrz]
   have hst : ((if z = 0 then none else (runesFrom (fs s.data.toList) s.size g' (p + z)).map (r :: ·)).map (acc ++ ·)) = q := by
    have := HACC.out
    rw [runesFrom, if_pos hlt, hrz] at this
    exact this
   rw [hrz] at hw
   have hz4 : z ≤ 4 := hw
   have HN1 := hid hn1
   have HST := hid hst
   clear hn1 hst hrz hw HACC
   have hownH := hid hown
   clear hown
   go_wp2_with fail
   refine (refNext_calls _ s.size cap (fs s.data.toList) (p : Int) wr (HROW.out.below HB2.out) (by omega)).mono ?_
   rintro e w2 ⟨rfl, hb3⟩
   have hown : w2.ownsRow W1.heap.size 21 1 u5 acc.length (cellsR acc) := hownH.out.kept (row := none) ⟨hb3.os, hb3.tape, hb3.output, hb3.size, fun k hk _ => hb3.block k hk⟩ (by cases u5.ownBlock <;> simp)
   have hBw2 : W1.heap.size ≤ w2.heap.size := Nat.le_trans hBw hb3.size
   have HB4 := hid (below_then HB2.out hb3)
   clear hb3 hownH hBw
   rw [HN1.out]
   unfold runeOf
   by_cases hz : z = 0
   ·have hz2 : ((z : Int) == 0) = true := by rw [beq_iff_eq]; omega
    clear hown
    go_wp2
    go_ret2
    refine ⟨below_then HB0.out HB4.out, Or.inl ⟨?_, rfl⟩⟩
    have := HST.out
    rw [if_pos hz] at this
    exact this.symm
   ·have hz2 : ((z : Int) == 0) = false := by rw [beq_eq_false_iff_ne]; omega
    go_wp2_with (at_builtin; refine wpList_append_own _ rfl (.tmp 23) (.tmp 25) 104 rfl W1.heap.size 21 i0 (.int .i32 0) 1 4 under33 hi hj0 hj1 hj2 rfl (by decide) _ _ _ rfl (hown.alloc _) ⟨w2.heap.size, 0, none⟩ 1 1 [.int .i32 (r : Int)] rfl rfl ?c1 ?c2 ?c3 ?c4 ?c5 ?_)
    case c1 => exact cell_one_new _ _ _
    case c2 => intro u hu; obtain rfl := List.mem_singleton.1 hu; rfl
    case c3 => unfold maxLen; omega
    case c4 => omega
    case c5 => simp; omega
    intro t' w3 hown1 hgrow _
    have hb1 : Below W1.heap.size W1 w3 := (HB4.out.alloc hBw2 _).grown hgrow (by simp; omega) (fun k hk => (hown.lt k hk).1)
    have hown2 : w3.ownsRow W1.heap.size 21 1 t' (acc ++ [r]).length (cellsR (acc ++ [r])) := by simpa [cellsR] using hown1
    have HB5 := hid hb1
    have HO := hid hown2
    clear hown hown1 hown2 hgrow hb1 hBw2
    go_wp2
    go_roundg g'
    case measure => omega
    case rel =>
     refine ⟨p + z, acc ++ [r], by go_num, by have := HG.out; omega, by omega, by simp; omega, ?_, HO.out, HB5.out⟩
     have := HST.out
     rw [if_neg hz] at this
     rw [← this]
     cases runesFrom (fs s.data.toList) s.size g' (p + z) <;> simp
  ·have hd : decide ((p : Int) < (s.size : Int)) = false := by simp; omega
   obtain ⟨a, c, rfl, hrr⟩ := rowR_of_owns hown
   have HRR := hid hrr
   clear hown hrr
   go_wp2
   go_ret2
   refine ⟨below_then HB0.out HB2.out, Or.inr ⟨acc, a, c, ?_, by omega, rfl, HRR.out⟩⟩
   have := HACC.out
   cases gk with
   | zero => rw [runesFrom] at this; rw [← this]; simp
   | succ g => rw [runesFrom, if_neg hlt] at this; rw [← this]; simp
set_option maxRecDepth 100000 in
theorem refName_calls (s : ByteArray) (w : World) (hs : s.size ≤ 1073741824) : Calls Tryz.prog 32 #[.string s] w (Leaves (.bool (nameR (runesFrom (fs s.data.toList) s.size s.size 0))) w) := by
 have R := runes_calls s w hs
 obtain ⟨q, hq⟩ : ∃ q, runesFrom (fs s.data.toList) s.size s.size 0 = q := ⟨_, rfl⟩
 rw [hq] at R ⊢
 have HR := hid R
 clear hq R
 go_enter Tryz.func32, Tryz.ntmps32
 go_wp2_with fail
 refine HR.out.mono ?_
 rintro e w1 ⟨hb, h⟩
 have HB := hid hb
 clear hb HR
 rcases h with ⟨rfl, rfl⟩ | ⟨l, a, c, rfl, hll, rfl, hrow⟩
 ·go_wp2
  go_ret
  exact ⟨rfl, HB.out⟩
 ·cases l with
  | nil =>
   go_wp2
   go_ret
   exact ⟨rfl, HB.out⟩
  | cons r t =>
   rcases hrow with h | ⟨b, o, rfl, hc⟩
   ·cases h
   have hne : (((r :: t).length : Int) == 0) = false := by
    rw [beq_eq_false_iff_ne]
    simp only [List.length_cons]
    omega
   have hn0 : (0 : Int) < ((r :: t).length : Int) := by simp only [List.length_cons]; omega
   have c0 : w1.cell? ⟨b, o, none⟩ = some (.int .i32 (r : Int)) := by have := hc 0 r rfl; rwa [Nat.add_zero] at this
   have HC := hid hc
   clear hc
   obtain ⟨l, hl⟩ : ∃ l, r :: t = l := ⟨_, rfl⟩
   have HN : Hid (nameR (some (r :: t)) = (beginsB r && l.all fun x => goesB (x : Int))) := hid (by rw [← hl]; rfl)
   obtain ⟨q, hq⟩ : ∃ q, nameR (some (r :: t)) = q := ⟨_, rfl⟩
   rw [hq] at HN
   have HNQ := hid hq
   rw [hl] at hne hn0 HC hll ⊢
   clear hl hq
   go_wp2_with fail
   refine (refBegins_calls (r : Int) _).mono ?_
   rintro e w2 ⟨rfl, rfl⟩
   obtain ⟨x, hx⟩ : ∃ x, inTab firstsT (r : Int) = x := ⟨_, rfl⟩
   rw [hx]
   have HX : Hid (beginsB r = x) := hid hx
   clear hx
   cases x with
   | false =>
    go_wp2
    go_ret
    exact ⟨by rw [HNQ.out, HN.out, HX.out]; rfl, HB.out⟩
   | true =>
    have HQ : Hid (q = l.all fun x => goesB (x : Int)) := hid (by rw [HN.out, HX.out]; rfl)
    go_wp2
    go_loopg [5] l.length (fun g v wr => ∃ i : Nat, v = .int .i64 i ∧ g + i = l.length ∧ (q = (l.drop i).all fun x => goesB (x : Int)) ∧ wr = w2)
    case atStart => exact ⟨0, rfl, rfl, by rw [List.drop_zero]; exact HQ.out, rfl⟩
    case round =>
     obtain ⟨i, rfl, hg, hqi, rfl⟩ := hrel
     have HG := hid hg
     have HQI := hid hqi
     clear hg hqi HQ
     by_cases hlt : i < l.length
     ·have hd : decide ((i : Int) < (l.length : Int)) = true := by simp; omega
      have hii : (i : Int) < (l.length : Int) := by omega
      obtain ⟨y, hy⟩ : ∃ y, l.drop i = y :: l.drop (i + 1) := ⟨_, List.drop_eq_getElem_cons hlt⟩
      have hyi : l[i]? = some y := by
       have := congrArg (·[0]?) hy
       simpa [List.getElem?_drop] using this
      have ci := HC.out i y hyi
      have HY := hid hy
      clear hy hyi
      go_wp2_with fail
      refine (refGoesOn_calls (y : Int) _).mono ?_
      rintro e w3 ⟨rfl, rfl⟩
      obtain ⟨z, hz⟩ : ∃ z, (inTab furtherT (y : Int) || inTab firstsT (y : Int)) = z := ⟨_, rfl⟩
      rw [hz]
      have HZ : Hid (goesB y = z) := hid hz
      clear hz
      cases z with
      | false =>
       go_wp2
       go_ret
       exact ⟨by rw [HNQ.out, HQI.out, HY.out, List.all_cons, HZ.out]; rfl, HB.out⟩
      | true =>
       go_wp2
       go_roundg (gk - 1)
       case measure => have := HG.out; omega
       case rel => exact ⟨i + 1, by go_num, by have := HG.out; omega, by rw [HQI.out, HY.out, List.all_cons, HZ.out, Bool.true_and], rfl⟩
     ·have hd : decide ((i : Int) < (l.length : Int)) = false := by simp; omega
      go_wp2
      go_ret
      exact ⟨by rw [HNQ.out, HQI.out, List.drop_eq_nil_of_le (by omega)]; rfl, HB.out⟩
end Go.Proofs.YtjpkkflhcjjefaaGreatDoor
