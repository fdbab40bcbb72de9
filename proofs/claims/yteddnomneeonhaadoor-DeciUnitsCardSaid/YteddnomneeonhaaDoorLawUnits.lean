/-
  The law of DeciUnits: once a number is it, and it by 1; it and 0 is it; twice the other sign is it; it less itself is 0. Condition: the library's tables hold what their initialisers lay.
-/
import Derived.Test.YteddnomneeonhaaDoorAwake
import Derived.Test.YteddnomneeonhaaDoorLawBase
import Derived.Test.YteddnomneeonhaaDoorRefNum
namespace Go.Proofs.YteddnomneeonhaaDoor
open Go.RowKit Go.Lib Go.Sort

set_option maxRecDepth 100000 in
set_option maxHeartbeats 4000000 in
theorem units_odd (a : Num) (w : World) (hL : Laid w) (hq : oddN a = true) : Calls Tryd.prog 8 #[numV a] w (Leaves (.bool true) w) := by
  have HL := Lib.hid hL
  obtain ⟨na, va⟩ := a
  have HM : Hid (numC (mulP ⟨na, va⟩ ⟨false, 1000000⟩) = .tuple #[.agg #[.bool true, .int .i64 0], .int .i64 0]) := Lib.hid (by rw [show mulP ⟨na, va⟩ ⟨false, 1000000⟩ = _ from odd_mulP (odd_left hq)]; rfl)
  have HD : Hid (numC (divP ⟨na, va⟩ ⟨false, 1000000⟩) = .tuple #[.agg #[.bool true, .int .i64 0], .int .i64 0]) := Lib.hid (by rw [show divP ⟨na, va⟩ ⟨false, 1000000⟩ = _ from odd_divP (odd_left hq)]; rfl)
  have HP : Hid (numC (addP ⟨na, va⟩ ⟨false, 0⟩) = .tuple #[.agg #[.bool true, .int .i64 0], .int .i64 0]) := Lib.hid (by rw [show addP ⟨na, va⟩ ⟨false, 0⟩ = _ from odd_add (odd_left hq)]; rfl)
  have HS : Hid (numC (subP ⟨na, va⟩ ⟨na, va⟩) = .tuple #[.agg #[.bool true, .int .i64 0], .int .i64 0]) := Lib.hid (by rw [show subP ⟨na, va⟩ ⟨na, va⟩ = _ from odd_subP (odd_left hq)]; rfl)
  have HQ := Lib.hid hq
  unfold numV
  clear hL hq
  go_enter Tryd.func8, Tryd.ntmps8
  go_wp2_with fail
  have hB0 : RowKit.Below w.heap.size w (w.alloc (.cells #[.bool na, .int .i64 va] 23)) := ((Below.refl _ w).alloc (Nat.le_refl _) _)
  have oa : Own2 (w.heap.size) (.bool na) (.int .i64 va) (w.alloc (.cells #[.bool na, .int .i64 va] 23)) := ⟨by go_simp, by go_simp, by go_simp, by go_simp⟩
  generalize (w.alloc (.cells #[.bool na, .int .i64 va] 23)) = W0 at hB0 oa ⊢
  have HOa0 := Lib.hid oa
  have HB0 := Lib.hid hB0
  clear hB0 oa
  refine (awake_calls W0 (HL.out.below HB0.out)).mono ?_
  rintro e w1 ⟨rfl, hb⟩
  have HB1 := Lib.hid (below_then HB0.out hb)
  have HOa1 := Lib.hid (HOa0.out.below hb)
  clear hb
  have cal := HOa1.out.lt
  obtain ⟨ca0, ca1, caf, cag⟩ := HOa1.out
  go_wp2_with fail
  clear ca0 ca1 caf cag cal
  have hB2 : RowKit.Below w.heap.size w (w1.alloc (.cells #[.bool false, .int .i64 1000000] 23)) := HB1.out.alloc HB1.out.size _
  have oa : Own2 (w.heap.size) (.bool na) (.int .i64 va) (w1.alloc (.cells #[.bool false, .int .i64 1000000] 23)) := own_alloc HOa1.out _
  have oo : Own2 (w1.heap.size) (.bool false) (.int .i64 1000000) (w1.alloc (.cells #[.bool false, .int .i64 1000000] 23)) := own_new _ _ _ _
  have lao := HOa1.out.lt
  generalize (w1.alloc (.cells #[.bool false, .int .i64 1000000] 23)) = W2 at hB2 oa oo ⊢
  have HOa2 := Lib.hid oa
  have HOo2 := Lib.hid oo
  have HB2 := Lib.hid hB2
  clear hB2 oa oo
  refine (mul_calls ⟨na, va⟩ ⟨false, 1000000⟩ _).mono ?_
  rintro e w3 ⟨rfl, hb⟩
  rw [HM.out]
  have HB3 := Lib.hid (below_then HB2.out hb)
  have HOa3 := Lib.hid (HOa2.out.below hb)
  have HOo3 := Lib.hid (HOo2.out.below hb)
  clear hb
  have cal := HOa3.out.lt
  obtain ⟨ca0, ca1, caf, cag⟩ := HOa3.out
  have col := HOo3.out.lt
  obtain ⟨co0, co1, cof, cog⟩ := HOo3.out
  go_wp2_with fail
  clear ca0 ca1 caf cag cal
  clear co0 co1 cof cog col
  have hB4 : RowKit.Below w.heap.size w (w3.alloc (.cells #[.bool true, .int .i64 0] 23)) := HB3.out.alloc HB3.out.size _
  have oa : Own2 (w.heap.size) (.bool na) (.int .i64 va) (w3.alloc (.cells #[.bool true, .int .i64 0] 23)) := own_alloc HOa3.out _
  have oo : Own2 (w1.heap.size) (.bool false) (.int .i64 1000000) (w3.alloc (.cells #[.bool true, .int .i64 0] 23)) := own_alloc HOo3.out _
  have ob : Own2 (w3.heap.size) (.bool true) (.int .i64 0) (w3.alloc (.cells #[.bool true, .int .i64 0] 23)) := own_new _ _ _ _
  have lab := HOa3.out.lt
  have lob := HOo3.out.lt
  generalize (w3.alloc (.cells #[.bool true, .int .i64 0] 23)) = W4 at hB4 oa oo ob ⊢
  have HOa4 := Lib.hid oa
  have HOo4 := Lib.hid oo
  have HOb4 := Lib.hid ob
  have HB4 := Lib.hid hB4
  clear hB4 oa oo ob
  refine (divN_calls ⟨na, va⟩ ⟨false, 1000000⟩ _).mono ?_
  rintro e w5 ⟨rfl, hb⟩
  rw [HD.out]
  have HB5 := Lib.hid (below_then HB4.out hb)
  have HOa5 := Lib.hid (HOa4.out.below hb)
  have HOo5 := Lib.hid (HOo4.out.below hb)
  have HOb5 := Lib.hid (HOb4.out.below hb)
  clear hb
  have cal := HOa5.out.lt
  obtain ⟨ca0, ca1, caf, cag⟩ := HOa5.out
  have col := HOo5.out.lt
  obtain ⟨co0, co1, cof, cog⟩ := HOo5.out
  have cbl := HOb5.out.lt
  obtain ⟨cb0, cb1, cbf, cbg⟩ := HOb5.out
  go_wp2_with fail
  clear ca0 ca1 caf cag cal
  clear co0 co1 cof cog col
  clear cb0 cb1 cbf cbg cbl
  have hB6 : RowKit.Below w.heap.size w (w5.alloc (.cells #[.bool true, .int .i64 0] 23)) := HB5.out.alloc HB5.out.size _
  have oa : Own2 (w.heap.size) (.bool na) (.int .i64 va) (w5.alloc (.cells #[.bool true, .int .i64 0] 23)) := own_alloc HOa5.out _
  have oo : Own2 (w1.heap.size) (.bool false) (.int .i64 1000000) (w5.alloc (.cells #[.bool true, .int .i64 0] 23)) := own_alloc HOo5.out _
  have ob : Own2 (w3.heap.size) (.bool true) (.int .i64 0) (w5.alloc (.cells #[.bool true, .int .i64 0] 23)) := own_alloc HOb5.out _
  have oc : Own2 (w5.heap.size) (.bool true) (.int .i64 0) (w5.alloc (.cells #[.bool true, .int .i64 0] 23)) := own_new _ _ _ _
  have lac := HOa5.out.lt
  have loc := HOo5.out.lt
  have lbc := HOb5.out.lt
  generalize (w5.alloc (.cells #[.bool true, .int .i64 0] 23)) = W6 at hB6 oa oo ob oc ⊢
  have HOa6 := Lib.hid oa
  have HOo6 := Lib.hid oo
  have HOb6 := Lib.hid ob
  have HOc6 := Lib.hid oc
  have HB6 := Lib.hid hB6
  clear hB6 oa oo ob oc
  refine (add_calls ⟨na, va⟩ ⟨false, 0⟩ _).mono ?_
  rintro e w7 ⟨rfl, hb⟩
  rw [HP.out]
  have HB7 := Lib.hid (below_then HB6.out hb)
  have HOa7 := Lib.hid (HOa6.out.below hb)
  have HOo7 := Lib.hid (HOo6.out.below hb)
  have HOb7 := Lib.hid (HOb6.out.below hb)
  have HOc7 := Lib.hid (HOc6.out.below hb)
  clear hb
  have cal := HOa7.out.lt
  obtain ⟨ca0, ca1, caf, cag⟩ := HOa7.out
  have col := HOo7.out.lt
  obtain ⟨co0, co1, cof, cog⟩ := HOo7.out
  have cbl := HOb7.out.lt
  obtain ⟨cb0, cb1, cbf, cbg⟩ := HOb7.out
  have ccl := HOc7.out.lt
  obtain ⟨cc0, cc1, ccf, ccg⟩ := HOc7.out
  go_wp2_with fail
  clear ca0 ca1 caf cag cal
  clear co0 co1 cof cog col
  clear cb0 cb1 cbf cbg cbl
  clear cc0 cc1 ccf ccg ccl
  have hB8 : RowKit.Below w.heap.size w (w7.alloc (.cells #[.bool true, .int .i64 0] 23)) := HB7.out.alloc HB7.out.size _
  have oa : Own2 (w.heap.size) (.bool na) (.int .i64 va) (w7.alloc (.cells #[.bool true, .int .i64 0] 23)) := own_alloc HOa7.out _
  have oo : Own2 (w1.heap.size) (.bool false) (.int .i64 1000000) (w7.alloc (.cells #[.bool true, .int .i64 0] 23)) := own_alloc HOo7.out _
  have ob : Own2 (w3.heap.size) (.bool true) (.int .i64 0) (w7.alloc (.cells #[.bool true, .int .i64 0] 23)) := own_alloc HOb7.out _
  have oc : Own2 (w5.heap.size) (.bool true) (.int .i64 0) (w7.alloc (.cells #[.bool true, .int .i64 0] 23)) := own_alloc HOc7.out _
  have od : Own2 (w7.heap.size) (.bool true) (.int .i64 0) (w7.alloc (.cells #[.bool true, .int .i64 0] 23)) := own_new _ _ _ _
  have lad := HOa7.out.lt
  have lod := HOo7.out.lt
  have lbd := HOb7.out.lt
  have lcd := HOc7.out.lt
  generalize (w7.alloc (.cells #[.bool true, .int .i64 0] 23)) = W8 at hB8 oa oo ob oc od ⊢
  have HOa8 := Lib.hid oa
  have HOo8 := Lib.hid oo
  have HOb8 := Lib.hid ob
  have HOc8 := Lib.hid oc
  have HOd8 := Lib.hid od
  have HB8 := Lib.hid hB8
  clear hB8 oa oo ob oc od
  refine (sub_calls ⟨na, va⟩ ⟨na, va⟩ _).mono ?_
  rintro e w9 ⟨rfl, hb⟩
  rw [HS.out]
  have HB9 := Lib.hid (below_then HB8.out hb)
  have HOa9 := Lib.hid (HOa8.out.below hb)
  have HOo9 := Lib.hid (HOo8.out.below hb)
  have HOb9 := Lib.hid (HOb8.out.below hb)
  have HOc9 := Lib.hid (HOc8.out.below hb)
  have HOd9 := Lib.hid (HOd8.out.below hb)
  clear hb
  have cal := HOa9.out.lt
  obtain ⟨ca0, ca1, caf, cag⟩ := HOa9.out
  have col := HOo9.out.lt
  obtain ⟨co0, co1, cof, cog⟩ := HOo9.out
  have cbl := HOb9.out.lt
  obtain ⟨cb0, cb1, cbf, cbg⟩ := HOb9.out
  have ccl := HOc9.out.lt
  obtain ⟨cc0, cc1, ccf, ccg⟩ := HOc9.out
  have cdl := HOd9.out.lt
  obtain ⟨cd0, cd1, cdf, cdg⟩ := HOd9.out
  go_wp2_with fail
  clear ca0 ca1 caf cag cal
  clear co0 co1 cof cog col
  clear cb0 cb1 cbf cbg cbl
  clear cc0 cc1 ccf ccg ccl
  clear cd0 cd1 cdf cdg cdl
  have hB10 : RowKit.Below w.heap.size w (w9.alloc (.cells #[.bool true, .int .i64 0] 23)) := HB9.out.alloc HB9.out.size _
  have oa : Own2 (w.heap.size) (.bool na) (.int .i64 va) (w9.alloc (.cells #[.bool true, .int .i64 0] 23)) := own_alloc HOa9.out _
  have oo : Own2 (w1.heap.size) (.bool false) (.int .i64 1000000) (w9.alloc (.cells #[.bool true, .int .i64 0] 23)) := own_alloc HOo9.out _
  have ob : Own2 (w3.heap.size) (.bool true) (.int .i64 0) (w9.alloc (.cells #[.bool true, .int .i64 0] 23)) := own_alloc HOb9.out _
  have oc : Own2 (w5.heap.size) (.bool true) (.int .i64 0) (w9.alloc (.cells #[.bool true, .int .i64 0] 23)) := own_alloc HOc9.out _
  have od : Own2 (w7.heap.size) (.bool true) (.int .i64 0) (w9.alloc (.cells #[.bool true, .int .i64 0] 23)) := own_alloc HOd9.out _
  have oz : Own2 (w9.heap.size) (.bool true) (.int .i64 0) (w9.alloc (.cells #[.bool true, .int .i64 0] 23)) := own_new _ _ _ _
  have laz := HOa9.out.lt
  have loz := HOo9.out.lt
  have lbz := HOb9.out.lt
  have lcz := HOc9.out.lt
  have ldz := HOd9.out.lt
  generalize (w9.alloc (.cells #[.bool true, .int .i64 0] 23)) = W10 at hB10 oa oo ob oc od oz ⊢
  have HOa10 := Lib.hid oa
  have HOo10 := Lib.hid oo
  have HOb10 := Lib.hid ob
  have HOc10 := Lib.hid oc
  have HOd10 := Lib.hid od
  have HOz10 := Lib.hid oz
  have HB10 := Lib.hid hB10
  clear hB10 oa oo ob oc od oz
  refine (refOdd_calls ⟨na, va⟩ _).mono ?_
  rintro e w11 ⟨rfl, hb⟩
  rw [HQ.out]
  have HB11 := Lib.hid (below_then HB10.out hb)
  have HOa11 := Lib.hid (HOa10.out.below hb)
  have HOo11 := Lib.hid (HOo10.out.below hb)
  have HOb11 := Lib.hid (HOb10.out.below hb)
  have HOc11 := Lib.hid (HOc10.out.below hb)
  have HOd11 := Lib.hid (HOd10.out.below hb)
  have HOz11 := Lib.hid (HOz10.out.below hb)
  clear hb
  have cal := HOa11.out.lt
  obtain ⟨ca0, ca1, caf, cag⟩ := HOa11.out
  have col := HOo11.out.lt
  obtain ⟨co0, co1, cof, cog⟩ := HOo11.out
  have cbl := HOb11.out.lt
  obtain ⟨cb0, cb1, cbf, cbg⟩ := HOb11.out
  have ccl := HOc11.out.lt
  obtain ⟨cc0, cc1, ccf, ccg⟩ := HOc11.out
  have cdl := HOd11.out.lt
  obtain ⟨cd0, cd1, cdf, cdg⟩ := HOd11.out
  have czl := HOz11.out.lt
  obtain ⟨cz0, cz1, czf, czg⟩ := HOz11.out
  go_wp2
  go_ret
  exact ⟨rfl, HB11.out⟩

set_option maxRecDepth 100000 in
set_option maxHeartbeats 4000000 in
theorem units_known (a : Num) (w : World) (hL : Laid w) (hq : oddN a = false) : Calls Tryd.prog 8 #[numV a] w (Leaves (.bool true) w) := by
  have HL := Lib.hid hL
  obtain ⟨na, va⟩ := a
  obtain rfl : na = false := (oddN_false.1 hq).1
  obtain ⟨g1, g1'⟩ := (oddN_false.1 hq).2
  simp only at g1 g1'
  have HM : Hid (numC (mulP ⟨false, va⟩ ⟨false, 1000000⟩) = .tuple #[.agg #[.bool false, .int .i64 va], .int .i64 0]) := Lib.hid (by rw [show mulP ⟨false, va⟩ ⟨false, 1000000⟩ = _ from mul_one hq]; rfl)
  have HD : Hid (numC (divP ⟨false, va⟩ ⟨false, 1000000⟩) = .tuple #[.agg #[.bool false, .int .i64 va], .int .i64 0]) := Lib.hid (by rw [show divP ⟨false, va⟩ ⟨false, 1000000⟩ = _ from div_one hq]; rfl)
  have HP : Hid (numC (addP ⟨false, va⟩ ⟨false, 0⟩) = .tuple #[.agg #[.bool false, .int .i64 va], .int .i64 0]) := Lib.hid (by rw [show addP ⟨false, va⟩ ⟨false, 0⟩ = _ from add_zero hq]; rfl)
  have HS : Hid (numC (subP ⟨false, va⟩ ⟨false, va⟩) = .tuple #[.agg #[.bool false, .int .i64 0], .int .i64 0]) := Lib.hid (by rw [show subP ⟨false, va⟩ ⟨false, va⟩ = _ from sub_self hq]; rfl)
  have hn1 : negP ⟨false, va⟩ = ⟨false, -va⟩ := by unfold negP; rw [hq]; rfl
  have hn2 : negP ⟨false, -va⟩ = ⟨false, va⟩ := by have h := neg_neg hq; rwa [hn1] at h
  have HN1 : Hid (∀ W, Calls Tryd.prog 33 #[.agg #[.bool false, .int .i64 va]] W (Leaves (.agg #[.bool false, .int .i64 (-va)]) W)) := Lib.hid fun W => by
    have h := neg_calls ⟨false, va⟩ W
    rw [hn1] at h
    exact h
  have HN2 : Hid (∀ W, Calls Tryd.prog 33 #[.agg #[.bool false, .int .i64 (-va)]] W (Leaves (.agg #[.bool false, .int .i64 va]) W)) := Lib.hid fun W => by
    have h := neg_calls ⟨false, -va⟩ W
    rw [hn2] at h
    exact h
  clear hn1 hn2
  have HQ := Lib.hid hq
  unfold numV
  clear hL hq
  go_enter Tryd.func8, Tryd.ntmps8
  go_wp2_with fail
  have hB0 : RowKit.Below w.heap.size w (w.alloc (.cells #[.bool false, .int .i64 va] 23)) := ((Below.refl _ w).alloc (Nat.le_refl _) _)
  have oa : Own2 (w.heap.size) (.bool false) (.int .i64 va) (w.alloc (.cells #[.bool false, .int .i64 va] 23)) := ⟨by go_simp, by go_simp, by go_simp, by go_simp⟩
  generalize (w.alloc (.cells #[.bool false, .int .i64 va] 23)) = W0 at hB0 oa ⊢
  have HOa0 := Lib.hid oa
  have HB0 := Lib.hid hB0
  clear hB0 oa
  refine (awake_calls W0 (HL.out.below HB0.out)).mono ?_
  rintro e w1 ⟨rfl, hb⟩
  have HB1 := Lib.hid (below_then HB0.out hb)
  have HOa1 := Lib.hid (HOa0.out.below hb)
  clear hb
  have cal := HOa1.out.lt
  obtain ⟨ca0, ca1, caf, cag⟩ := HOa1.out
  go_wp2_with fail
  clear ca0 ca1 caf cag cal
  have hB2 : RowKit.Below w.heap.size w (w1.alloc (.cells #[.bool false, .int .i64 1000000] 23)) := HB1.out.alloc HB1.out.size _
  have oa : Own2 (w.heap.size) (.bool false) (.int .i64 va) (w1.alloc (.cells #[.bool false, .int .i64 1000000] 23)) := own_alloc HOa1.out _
  have oo : Own2 (w1.heap.size) (.bool false) (.int .i64 1000000) (w1.alloc (.cells #[.bool false, .int .i64 1000000] 23)) := own_new _ _ _ _
  have lao := HOa1.out.lt
  generalize (w1.alloc (.cells #[.bool false, .int .i64 1000000] 23)) = W2 at hB2 oa oo ⊢
  have HOa2 := Lib.hid oa
  have HOo2 := Lib.hid oo
  have HB2 := Lib.hid hB2
  clear hB2 oa oo
  refine (mul_calls ⟨false, va⟩ ⟨false, 1000000⟩ _).mono ?_
  rintro e w3 ⟨rfl, hb⟩
  rw [HM.out]
  have HB3 := Lib.hid (below_then HB2.out hb)
  have HOa3 := Lib.hid (HOa2.out.below hb)
  have HOo3 := Lib.hid (HOo2.out.below hb)
  clear hb
  have cal := HOa3.out.lt
  obtain ⟨ca0, ca1, caf, cag⟩ := HOa3.out
  have col := HOo3.out.lt
  obtain ⟨co0, co1, cof, cog⟩ := HOo3.out
  go_wp2_with fail
  clear ca0 ca1 caf cag cal
  clear co0 co1 cof cog col
  have hB4 : RowKit.Below w.heap.size w (w3.alloc (.cells #[.bool false, .int .i64 va] 23)) := HB3.out.alloc HB3.out.size _
  have oa : Own2 (w.heap.size) (.bool false) (.int .i64 va) (w3.alloc (.cells #[.bool false, .int .i64 va] 23)) := own_alloc HOa3.out _
  have oo : Own2 (w1.heap.size) (.bool false) (.int .i64 1000000) (w3.alloc (.cells #[.bool false, .int .i64 va] 23)) := own_alloc HOo3.out _
  have ob : Own2 (w3.heap.size) (.bool false) (.int .i64 va) (w3.alloc (.cells #[.bool false, .int .i64 va] 23)) := own_new _ _ _ _
  have lab := HOa3.out.lt
  have lob := HOo3.out.lt
  generalize (w3.alloc (.cells #[.bool false, .int .i64 va] 23)) = W4 at hB4 oa oo ob ⊢
  have HOa4 := Lib.hid oa
  have HOo4 := Lib.hid oo
  have HOb4 := Lib.hid ob
  have HB4 := Lib.hid hB4
  clear hB4 oa oo ob
  refine (divN_calls ⟨false, va⟩ ⟨false, 1000000⟩ _).mono ?_
  rintro e w5 ⟨rfl, hb⟩
  rw [HD.out]
  have HB5 := Lib.hid (below_then HB4.out hb)
  have HOa5 := Lib.hid (HOa4.out.below hb)
  have HOo5 := Lib.hid (HOo4.out.below hb)
  have HOb5 := Lib.hid (HOb4.out.below hb)
  clear hb
  have cal := HOa5.out.lt
  obtain ⟨ca0, ca1, caf, cag⟩ := HOa5.out
  have col := HOo5.out.lt
  obtain ⟨co0, co1, cof, cog⟩ := HOo5.out
  have cbl := HOb5.out.lt
  obtain ⟨cb0, cb1, cbf, cbg⟩ := HOb5.out
  go_wp2_with fail
  clear ca0 ca1 caf cag cal
  clear co0 co1 cof cog col
  clear cb0 cb1 cbf cbg cbl
  have hB6 : RowKit.Below w.heap.size w (w5.alloc (.cells #[.bool false, .int .i64 va] 23)) := HB5.out.alloc HB5.out.size _
  have oa : Own2 (w.heap.size) (.bool false) (.int .i64 va) (w5.alloc (.cells #[.bool false, .int .i64 va] 23)) := own_alloc HOa5.out _
  have oo : Own2 (w1.heap.size) (.bool false) (.int .i64 1000000) (w5.alloc (.cells #[.bool false, .int .i64 va] 23)) := own_alloc HOo5.out _
  have ob : Own2 (w3.heap.size) (.bool false) (.int .i64 va) (w5.alloc (.cells #[.bool false, .int .i64 va] 23)) := own_alloc HOb5.out _
  have oc : Own2 (w5.heap.size) (.bool false) (.int .i64 va) (w5.alloc (.cells #[.bool false, .int .i64 va] 23)) := own_new _ _ _ _
  have lac := HOa5.out.lt
  have loc := HOo5.out.lt
  have lbc := HOb5.out.lt
  generalize (w5.alloc (.cells #[.bool false, .int .i64 va] 23)) = W6 at hB6 oa oo ob oc ⊢
  have HOa6 := Lib.hid oa
  have HOo6 := Lib.hid oo
  have HOb6 := Lib.hid ob
  have HOc6 := Lib.hid oc
  have HB6 := Lib.hid hB6
  clear hB6 oa oo ob oc
  refine (add_calls ⟨false, va⟩ ⟨false, 0⟩ _).mono ?_
  rintro e w7 ⟨rfl, hb⟩
  rw [HP.out]
  have HB7 := Lib.hid (below_then HB6.out hb)
  have HOa7 := Lib.hid (HOa6.out.below hb)
  have HOo7 := Lib.hid (HOo6.out.below hb)
  have HOb7 := Lib.hid (HOb6.out.below hb)
  have HOc7 := Lib.hid (HOc6.out.below hb)
  clear hb
  have cal := HOa7.out.lt
  obtain ⟨ca0, ca1, caf, cag⟩ := HOa7.out
  have col := HOo7.out.lt
  obtain ⟨co0, co1, cof, cog⟩ := HOo7.out
  have cbl := HOb7.out.lt
  obtain ⟨cb0, cb1, cbf, cbg⟩ := HOb7.out
  have ccl := HOc7.out.lt
  obtain ⟨cc0, cc1, ccf, ccg⟩ := HOc7.out
  go_wp2_with fail
  clear ca0 ca1 caf cag cal
  clear co0 co1 cof cog col
  clear cb0 cb1 cbf cbg cbl
  clear cc0 cc1 ccf ccg ccl
  have hB8 : RowKit.Below w.heap.size w (w7.alloc (.cells #[.bool false, .int .i64 va] 23)) := HB7.out.alloc HB7.out.size _
  have oa : Own2 (w.heap.size) (.bool false) (.int .i64 va) (w7.alloc (.cells #[.bool false, .int .i64 va] 23)) := own_alloc HOa7.out _
  have oo : Own2 (w1.heap.size) (.bool false) (.int .i64 1000000) (w7.alloc (.cells #[.bool false, .int .i64 va] 23)) := own_alloc HOo7.out _
  have ob : Own2 (w3.heap.size) (.bool false) (.int .i64 va) (w7.alloc (.cells #[.bool false, .int .i64 va] 23)) := own_alloc HOb7.out _
  have oc : Own2 (w5.heap.size) (.bool false) (.int .i64 va) (w7.alloc (.cells #[.bool false, .int .i64 va] 23)) := own_alloc HOc7.out _
  have od : Own2 (w7.heap.size) (.bool false) (.int .i64 va) (w7.alloc (.cells #[.bool false, .int .i64 va] 23)) := own_new _ _ _ _
  have lad := HOa7.out.lt
  have lod := HOo7.out.lt
  have lbd := HOb7.out.lt
  have lcd := HOc7.out.lt
  generalize (w7.alloc (.cells #[.bool false, .int .i64 va] 23)) = W8 at hB8 oa oo ob oc od ⊢
  have HOa8 := Lib.hid oa
  have HOo8 := Lib.hid oo
  have HOb8 := Lib.hid ob
  have HOc8 := Lib.hid oc
  have HOd8 := Lib.hid od
  have HB8 := Lib.hid hB8
  clear hB8 oa oo ob oc od
  refine (sub_calls ⟨false, va⟩ ⟨false, va⟩ _).mono ?_
  rintro e w9 ⟨rfl, hb⟩
  rw [HS.out]
  have HB9 := Lib.hid (below_then HB8.out hb)
  have HOa9 := Lib.hid (HOa8.out.below hb)
  have HOo9 := Lib.hid (HOo8.out.below hb)
  have HOb9 := Lib.hid (HOb8.out.below hb)
  have HOc9 := Lib.hid (HOc8.out.below hb)
  have HOd9 := Lib.hid (HOd8.out.below hb)
  clear hb
  have cal := HOa9.out.lt
  obtain ⟨ca0, ca1, caf, cag⟩ := HOa9.out
  have col := HOo9.out.lt
  obtain ⟨co0, co1, cof, cog⟩ := HOo9.out
  have cbl := HOb9.out.lt
  obtain ⟨cb0, cb1, cbf, cbg⟩ := HOb9.out
  have ccl := HOc9.out.lt
  obtain ⟨cc0, cc1, ccf, ccg⟩ := HOc9.out
  have cdl := HOd9.out.lt
  obtain ⟨cd0, cd1, cdf, cdg⟩ := HOd9.out
  go_wp2_with fail
  clear ca0 ca1 caf cag cal
  clear co0 co1 cof cog col
  clear cb0 cb1 cbf cbg cbl
  clear cc0 cc1 ccf ccg ccl
  clear cd0 cd1 cdf cdg cdl
  have hB10 : RowKit.Below w.heap.size w (w9.alloc (.cells #[.bool false, .int .i64 0] 23)) := HB9.out.alloc HB9.out.size _
  have oa : Own2 (w.heap.size) (.bool false) (.int .i64 va) (w9.alloc (.cells #[.bool false, .int .i64 0] 23)) := own_alloc HOa9.out _
  have oo : Own2 (w1.heap.size) (.bool false) (.int .i64 1000000) (w9.alloc (.cells #[.bool false, .int .i64 0] 23)) := own_alloc HOo9.out _
  have ob : Own2 (w3.heap.size) (.bool false) (.int .i64 va) (w9.alloc (.cells #[.bool false, .int .i64 0] 23)) := own_alloc HOb9.out _
  have oc : Own2 (w5.heap.size) (.bool false) (.int .i64 va) (w9.alloc (.cells #[.bool false, .int .i64 0] 23)) := own_alloc HOc9.out _
  have od : Own2 (w7.heap.size) (.bool false) (.int .i64 va) (w9.alloc (.cells #[.bool false, .int .i64 0] 23)) := own_alloc HOd9.out _
  have oz : Own2 (w9.heap.size) (.bool false) (.int .i64 0) (w9.alloc (.cells #[.bool false, .int .i64 0] 23)) := own_new _ _ _ _
  have laz := HOa9.out.lt
  have loz := HOo9.out.lt
  have lbz := HOb9.out.lt
  have lcz := HOc9.out.lt
  have ldz := HOd9.out.lt
  generalize (w9.alloc (.cells #[.bool false, .int .i64 0] 23)) = W10 at hB10 oa oo ob oc od oz ⊢
  have HOa10 := Lib.hid oa
  have HOo10 := Lib.hid oo
  have HOb10 := Lib.hid ob
  have HOc10 := Lib.hid oc
  have HOd10 := Lib.hid od
  have HOz10 := Lib.hid oz
  have HB10 := Lib.hid hB10
  clear hB10 oa oo ob oc od oz
  refine (refOdd_calls ⟨false, va⟩ _).mono ?_
  rintro e w11 ⟨rfl, hb⟩
  rw [HQ.out]
  have HB11 := Lib.hid (below_then HB10.out hb)
  have HOa11 := Lib.hid (HOa10.out.below hb)
  have HOo11 := Lib.hid (HOo10.out.below hb)
  have HOb11 := Lib.hid (HOb10.out.below hb)
  have HOc11 := Lib.hid (HOc10.out.below hb)
  have HOd11 := Lib.hid (HOd10.out.below hb)
  have HOz11 := Lib.hid (HOz10.out.below hb)
  clear hb
  have cal := HOa11.out.lt
  obtain ⟨ca0, ca1, caf, cag⟩ := HOa11.out
  have col := HOo11.out.lt
  obtain ⟨co0, co1, cof, cog⟩ := HOo11.out
  have cbl := HOb11.out.lt
  obtain ⟨cb0, cb1, cbf, cbg⟩ := HOb11.out
  have ccl := HOc11.out.lt
  obtain ⟨cc0, cc1, ccf, ccg⟩ := HOc11.out
  have cdl := HOd11.out.lt
  obtain ⟨cd0, cd1, cdf, cdg⟩ := HOd11.out
  have czl := HOz11.out.lt
  obtain ⟨cz0, cz1, czf, czg⟩ := HOz11.out
  go_wp2
  clear ca0 ca1 caf cag cal
  clear co0 co1 cof cog col
  clear cb0 cb1 cbf cbg cbl
  clear cc0 cc1 ccf ccg ccl
  clear cd0 cd1 cdf cdg cdl
  clear cz0 cz1 czf czg czl
  have ka0 := @cell_regrown w11 ⟨w.heap.size, 0, none⟩ (.bool false) HOa11.out.1
  have ka1 := @cell_regrown w11 ⟨w.heap.size, 1, none⟩ (.int .i64 va) HOa11.out.2.1
  have kb0 := @cell_regrown w11 ⟨w3.heap.size, 0, none⟩ (.bool false) HOb11.out.1
  have kb1 := @cell_regrown w11 ⟨w3.heap.size, 1, none⟩ (.int .i64 va) HOb11.out.2.1
  have kc0 := @cell_regrown w11 ⟨w5.heap.size, 0, none⟩ (.bool false) HOc11.out.1
  have kc1 := @cell_regrown w11 ⟨w5.heap.size, 1, none⟩ (.int .i64 va) HOc11.out.2.1
  have kd0 := @cell_regrown w11 ⟨w7.heap.size, 0, none⟩ (.bool false) HOd11.out.1
  have kd1 := @cell_regrown w11 ⟨w7.heap.size, 1, none⟩ (.int .i64 va) HOd11.out.2.1
  have kz0 := @cell_regrown w11 ⟨w9.heap.size, 0, none⟩ (.bool false) HOz11.out.1
  have kz1 := @cell_regrown w11 ⟨w9.heap.size, 1, none⟩ (.int .i64 0) HOz11.out.2.1
  have qn1 : ∀ d os, Calls Tryd.prog 33 #[.agg #[.bool false, .int .i64 va]] (grow (redrawn w11 d) os) fun e w'' => e = .returned (.agg #[.bool false, .int .i64 (-va)]) ∧ ∃ p : Regrown, w'' = grow (redrawn w11 p.d) p.os := fun d os => Calls.regrown_of (HN1.out _)
  have qn2 : ∀ d os, Calls Tryd.prog 33 #[.agg #[.bool false, .int .i64 (-va)]] (grow (redrawn w11 d) os) fun e w'' => e = .returned (.agg #[.bool false, .int .i64 va]) ∧ ∃ p : Regrown, w'' = grow (redrawn w11 p.d) p.os := fun d os => Calls.regrown_of (HN2.out _)
  refine wp_region_quiet_below (by kernel_rfl) (by kernel_rfl) ?_
  repeat (go_big_quiet_step (first | with_reducible exact qn1 _ _ | with_reducible exact qn2 _ _))
  refine wpQuiet_nil ?_
  intro _ hw'
  obtain ⟨⟨dq, osq⟩, hw''⟩ := hw'
  subst hw''
  clear ka0 ka1 kb0 kb1 kc0 kc1 kd0 kd1 kz0 kz1 qn1 qn2
  have HBQ := Lib.hid (below_then HB11.out (below_regrown w11 dq osq))
  go_wp2
  go_ret
  exact ⟨rfl, HBQ.out⟩

theorem law_units (a : Num) (w : World) (hL : Laid w) : Calls Tryd.prog 8 #[numV a] w (Leaves (.bool true) w) := by
  cases hq : oddN a with
  | true => exact units_odd a w hL hq
  | false => exact units_known a w hL hq

end Go.Proofs.YteddnomneeonhaaDoor
