/-
  What every law asks first: the fixed answers of sets; whether rows of spans are few. Condition: the library's table of powers of ten and its two errors are laid.
-/
import Derived.Test.YtiolchdfjlffoaaDoorIZ
import Derived.Test.YtiolchdfjlffoaaDoorIQt
import Derived.Test.YtiolchdfjlffoaaDoorIQ
namespace Go.Proofs.YtiolchdfjlffoaaDoor
open Go.RowKit Go.Lib Go.Joins

theorem str_eq (l m : List UInt8) : ((strB l).toList == m) = (l == m) := by
  rw [Go.Lib.toList_data, strB_list]
theorem aw_of : setF (inI [3, 1, 2, 5]) = [(1, 3), (5, 5)] := by kernel_rfl
theorem aw_put : putS witK [(1, 5)] [(2, 3)] = [(1, 1), (4, 5)] := by kernel_rfl
theorem aw_i1 : Lib.itoa 1 = [49] := by rw [itoa_digN (by decide) (by decide)]; rfl
theorem aw_i3 : Lib.itoa 3 = [51] := by rw [itoa_digN (by decide) (by decide)]; rfl
theorem aw_i4 : Lib.itoa 4 = [52] := by rw [itoa_digN (by decide) (by decide)]; rfl
theorem aw_i5 : Lib.itoa 5 = [53] := by rw [itoa_digN (by decide) (by decide)]; rfl
theorem aw_t1 : textS [(1, 3), (5, 5)] = [49, 45, 51, 44, 53] := by
  have h : mayS [(1, 3), (5, 5)] = true := by kernel_rfl
  unfold textS
  rw [if_pos h, bodyT, joinT, joinT, spanT, spanT]
  dsimp only
  rw [aw_i1, aw_i3, aw_i5]
  rfl
theorem aw_t2 : textS [(1, 1), (4, 5)] = [49, 44, 52, 45, 53] := by
  have h : mayS [(1, 1), (4, 5)] = true := by kernel_rfl
  unfold textS
  rw [if_pos h, bodyT, joinT, joinT, spanT, spanT]
  dsimp only
  rw [aw_i1, aw_i4, aw_i5]
  rfl
theorem aw_parse : progP [49, 45, 50, 44, 51] = none := by
  have h1 : pieces 44 [49, 45, 50, 44, 51] = [[49, 45, 50], [51]] := by kernel_rfl
  have h2 : progSp [49, 45, 50] = some (1, 2) := by
    unfold progSp
    rw [show ([49, 45, 50] : List UInt8) = [49] ++ 45 :: [50] from rfl, cut_at (by decide)]
    kernel_rfl
  have h3 : progSp [51] = some (3, 3) := by
    unfold progSp
    rw [cut_no (by decide)]
    kernel_rfl
  have h4 : mayS [(1, 2), (3, 3)] = false := by kernel_rfl
  unfold progP
  rw [if_neg (by decide), h1, progL, h2]
  dsimp only
  rw [progL, h3]
  dsimp only
  rw [progL]
  show (if textS [(1, 2), (3, 3)] = [49, 45, 50, 44, 51] then some [(1, 2), (3, 3)] else none) = none
  unfold textS
  rw [h4, if_neg Bool.false_ne_true, if_neg (by decide)]
/-- One span in a literal. -/
theorem one_in (w : World) (f t : Int) : SpIn (w.alloc (.cells #[.int .i64 f, .int .i64 t] 44)) (.slice (some ⟨w.heap.size, 0, none⟩) 1 1) [(f, t)] := by
  have hk := heap_alloc_new w (.cells #[.int .i64 f, .int .i64 t] 44)
  refine ⟨_, 1, rfl, Nat.le_refl _, by unfold maxLen; omega, fun e => (by cases e), .inr ⟨_, 0, rfl, fun i x hx => ?_⟩⟩
  cases i with
  | zero =>
    obtain rfl : (f, t) = x := by simpa using hx
    exact ⟨(cell_of_block hk 0).trans rfl, (cell_of_block hk 1).trans rfl⟩
  | succ i => simp at hx
theorem four_in (w : World) (a b c d : Int) : IntIn (w.alloc (.cells #[.int .i64 a, .int .i64 b, .int .i64 c, .int .i64 d] 3)) (.slice (some ⟨w.heap.size, 0, none⟩) 4 4) [a, b, c, d] := by
  have hk := heap_alloc_new w (.cells #[.int .i64 a, .int .i64 b, .int .i64 c, .int .i64 d] 3)
  refine ⟨_, 4, rfl, Nat.le_refl _, by unfold maxLen; omega, fun e => (by cases e), .inr ⟨_, 0, rfl, fun i x hx => ?_⟩⟩
  match i, hx with
  | 0, hx => obtain rfl : a = x := by simpa using hx
             exact (cell_of_block hk 0).trans rfl
  | 1, hx => obtain rfl : b = x := by simpa using hx
             exact (cell_of_block hk 1).trans rfl
  | 2, hx => obtain rfl : c = x := by simpa using hx
             exact (cell_of_block hk 2).trans rfl
  | 3, hx => obtain rfl : d = x := by simpa using hx
             exact (cell_of_block hk 3).trans rfl
  | i + 4, hx => simp at hx

set_option maxRecDepth 100000 in
set_option maxHeartbeats 8000000 in
theorem awake_calls (w : World) (hE : IEnv w) : Calls Tryd.prog 8 #[] w (Leaves (.bool true) w) := by
  obtain ⟨W1, hW1⟩ : ∃ W1, w.alloc (.cells #[.int .i64 3, .int .i64 1, .int .i64 2, .int .i64 5] 3) = W1 := ⟨_, rfl⟩
  have hB1 : Below w.heap.size w W1 := by rw [← hW1]; exact (Below.refl _ _).alloc (Nat.le_refl _) _
  have HO := of_calls (four_in w 3 1 2 5)
  rw [hW1, aw_of] at HO
  have HO := Lib.hid HO
  have HB1 := Lib.hid hB1
  have HW1 := Lib.hid hW1
  have HE := Lib.hid hE
  clear hW1 hB1 hE
  unfold SetOut at HO
  go_enter Tryd.func8, Tryd.ntmps8
  go_wp2_with fail
  rw [HW1.out]
  with_reducible refine HO.out.mono ?_
  rintro e w2 ⟨v2, rfl, hin2, hb2⟩
  obtain ⟨a2, c2, rfl, _⟩ := hin2.form
  have HB2 := Lib.hid (below_then HB1.out hb2)
  have HI2 : Hid (SpIn w2 (.slice a2 2 c2) [(1, 3), (5, 5)]) := Lib.hid hin2
  have HPA := parse_calls [49, 45, 50, 44, 51] w2 (by decide) (HE.out.below HB2.out)
  unfold ParseOut at HPA
  rw [aw_parse, show strB [49, 45, 50, 44, 51] = ⟨#[49, 45, 50, 44, 51]⟩ from rfl] at HPA
  have HPA := Lib.hid HPA
  clear hin2 hb2 HO
  go_wp2_with fail
  with_reducible refine HPA.out.mono ?_
  rintro e w3 ⟨v3, ok, rfl, hb3, ⟨s, hs, _, _⟩ | ⟨_, rfl, rfl⟩⟩
  · cases hs
  have HB3 := Lib.hid (below_then HB2.out hb3)
  have HI3 := Lib.hid (HI2.out.below hb3)
  have HT1 := text_calls HI3.out (HE.out.tab.below HB3.out)
  rw [aw_t1] at HT1
  have hs1 := str_eq [49, 45, 51, 44, 53] [49, 45, 51, 44, 53]
  rw [beq_self_eq_true] at hs1
  obtain ⟨T1, hT1⟩ : ∃ T, strB [49, 45, 51, 44, 53] = T := ⟨_, rfl⟩
  rw [hT1] at HT1 hs1
  have HT1 := Lib.hid HT1
  clear hb3 HPA hT1
  go_wp2_with fail
  with_reducible refine HT1.out.mono ?_
  rintro e w4 ⟨rfl, hb4⟩
  have HB4 := Lib.hid (below_then HB3.out hb4)
  obtain ⟨W5, hW5⟩ : ∃ W5, w4.alloc (.cells #[.int .i64 1, .int .i64 5] 44) = W5 := ⟨_, rfl⟩
  have ha := one_in w4 1 5
  rw [hW5] at ha
  have hb5 : Below w4.heap.size w4 W5 := by rw [← hW5]; exact (Below.refl _ _).alloc (Nat.le_refl _) _
  obtain ⟨W6, hW6⟩ : ∃ W6, W5.alloc (.cells #[.int .i64 2, .int .i64 3] 44) = W6 := ⟨_, rfl⟩
  have hbb := one_in W5 2 3
  rw [hW6] at hbb
  have hb6 : Below W5.heap.size W5 W6 := by rw [← hW6]; exact (Below.refl _ _).alloc (Nat.le_refl _) _
  have HWI := without_calls (ha.below hb6) hbb
  rw [aw_put] at HWI
  unfold SetOut at HWI
  have HWI := Lib.hid HWI
  have HB6 := Lib.hid (below_then (below_then HB4.out hb5) hb6)
  have HW5 := Lib.hid hW5
  have HW6 := Lib.hid hW6
  clear hb4 HT1 ha hbb hb5 hb6 hW5 hW6
  go_wp2_with (first | rw [HW5.out] | rw [HW6.out])
  with_reducible refine HWI.out.mono ?_
  rintro e w7 ⟨v7, rfl, hin7, hb7⟩
  obtain ⟨a7, c7, rfl, _⟩ := hin7.form
  have HB7 := Lib.hid (below_then HB6.out hb7)
  have HI7 : Hid (SpIn w7 (.slice a7 2 c7) [(1, 1), (4, 5)]) := Lib.hid hin7
  have HT2 := text_calls HI7.out (HE.out.tab.below HB7.out)
  rw [aw_t2] at HT2
  have hs2 := str_eq [49, 44, 52, 45, 53] [49, 44, 52, 45, 53]
  rw [beq_self_eq_true] at hs2
  obtain ⟨T2, hT2⟩ : ∃ T, strB [49, 44, 52, 45, 53] = T := ⟨_, rfl⟩
  rw [hT2] at HT2 hs2
  have HT2 := Lib.hid HT2
  clear hin7 hb7 HWI hT2
  go_wp2_with fail
  with_reducible refine HT2.out.mono ?_
  rintro e w8 ⟨rfl, hb8⟩
  have HB8 := Lib.hid (below_then HB7.out hb8)
  clear hb8 HT2
  go_wp2_with fail
  go_ret
  exact ⟨rfl, HB8.out⟩

/-- Whether rows are such as are gone through. -/
theorem small_calls (a b : Option Addr) (n m c d : Nat) (w : World) (hn : n ≤ 9223372036854775807) (hm : m ≤ 9223372036854775807) : Calls Tryd.prog 9 #[.slice a n c, .slice b m d] w (Says (.bool (decide (n ≤ 300) && decide (m ≤ 300))) w) := by
  by_cases h1 : n ≤ 300
  · have h1' : (n : Int) ≤ 300 := by omega
    by_cases h2 : m ≤ 300
    · have h2' : (m : Int) ≤ 300 := by omega
      rw [decide_eq_true h1, decide_eq_true h2]
      go_enter Tryd.func9, Tryd.ntmps9
      go_wp2_with fail
      go_ret
      exact ⟨rfl, rfl⟩
    · have h2' : ¬ (m : Int) ≤ 300 := by omega
      rw [decide_eq_true h1, decide_eq_false h2]
      go_enter Tryd.func9, Tryd.ntmps9
      go_wp2_with fail
      go_ret
      exact ⟨rfl, rfl⟩
  · have h1' : ¬ (n : Int) ≤ 300 := by omega
    rw [decide_eq_false h1]
    go_enter Tryd.func9, Tryd.ntmps9
    go_wp2_with fail
    go_ret
    exact ⟨rfl, rfl⟩
end Go.Proofs.YtiolchdfjlffoaaDoor
