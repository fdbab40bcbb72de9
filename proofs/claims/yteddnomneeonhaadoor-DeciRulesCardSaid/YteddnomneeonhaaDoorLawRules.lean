/-
  The law of DeciRules: sums and products don't hang on the order; what is added and taken away again is as it was; a number is the quotient's whole part times the other, and the rest. Condition: the library's tables hold what their initialisers lay.
-/
import Derived.Test.YteddnomneeonhaaDoorAwake
import Derived.Test.YteddnomneeonhaaDoorLawBase
import Derived.Test.YteddnomneeonhaaDoorRefNum
namespace Go.Proofs.YteddnomneeonhaaDoor
open Go.RowKit Go.Lib Go.Sort

set_option maxRecDepth 100000 in
set_option maxHeartbeats 4000000 in
theorem rules_odd (a b : Num) (w : World) (hL : Laid w) (hq : odd2 a b = true) : Calls Tryd.prog 7 #[numV a, numV b] w (Leaves (.bool true) w) := by
  have HL := Lib.hid hL
  have hq2 : odd2 b a = true := by rw [odd2_comm]; exact hq
  have HX : Hid (numC (addP a b) = .tuple #[.agg #[.bool true, .int .i64 0], .int .i64 0]) := Lib.hid (by rw [odd_add hq]; rfl)
  have HY : Hid (numC (addP b a) = .tuple #[.agg #[.bool true, .int .i64 0], .int .i64 0]) := Lib.hid (by rw [odd_add hq2]; rfl)
  have HV : Hid (numC (mulP a b) = .tuple #[.agg #[.bool true, .int .i64 0], .int .i64 0]) := Lib.hid (by rw [odd_mulP hq]; rfl)
  have HW : Hid (numC (mulP b a) = .tuple #[.agg #[.bool true, .int .i64 0], .int .i64 0]) := Lib.hid (by rw [odd_mulP hq2]; rfl)
  have HQ := Lib.hid hq
  obtain ⟨na, va⟩ := a
  obtain ⟨nb, vb⟩ := b
  obtain ⟨oa, hoa⟩ : ∃ z, oddN ⟨na, va⟩ = z := ⟨_, rfl⟩
  have HOA := Lib.hid hoa
  have HOB : Hid (oa = false → oddN ⟨nb, vb⟩ = true) := Lib.hid fun h => by have := HQ.out; unfold odd2 at this; rw [hoa, h] at this; exact this
  unfold numV
  clear hL hq hq2 hoa
  go_enter Tryd.func7, Tryd.ntmps7
  go_wp2_with fail
  have hB0 : RowKit.Below w.heap.size w ((w.alloc (.cells #[.bool na, .int .i64 va] 23)).alloc (.cells #[.bool nb, .int .i64 vb] 23)) := (((Below.refl _ w).alloc (Nat.le_refl _) _).alloc (by simp) _)
  have oa : Own2 (w.heap.size) (.bool na) (.int .i64 va) ((w.alloc (.cells #[.bool na, .int .i64 va] 23)).alloc (.cells #[.bool nb, .int .i64 vb] 23)) := ⟨by go_simp, by go_simp, by go_simp, by go_simp⟩
  have ob : Own2 (w.heap.size + 1) (.bool nb) (.int .i64 vb) ((w.alloc (.cells #[.bool na, .int .i64 va] 23)).alloc (.cells #[.bool nb, .int .i64 vb] 23)) := ⟨by go_simp, by go_simp, by go_simp, by go_simp⟩
  generalize ((w.alloc (.cells #[.bool na, .int .i64 va] 23)).alloc (.cells #[.bool nb, .int .i64 vb] 23)) = W0 at hB0 oa ob ⊢
  have HOa0 := Lib.hid oa
  have HOb0 := Lib.hid ob
  have HB0 := Lib.hid hB0
  clear hB0 oa ob
  refine (awake_calls W0 (HL.out.below HB0.out)).mono ?_
  rintro e w1 ⟨rfl, hb⟩
  have HB1 := Lib.hid (below_then HB0.out hb)
  have HOa1 := Lib.hid (HOa0.out.below hb)
  have HOb1 := Lib.hid (HOb0.out.below hb)
  clear hb
  have cal := HOa1.out.lt
  obtain ⟨ca0, ca1, caf, cag⟩ := HOa1.out
  have cbl := HOb1.out.lt
  obtain ⟨cb0, cb1, cbf, cbg⟩ := HOb1.out
  go_wp2_with fail
  clear ca0 ca1 caf cag cal
  clear cb0 cb1 cbf cbg cbl
  refine (add_calls ⟨na, va⟩ ⟨nb, vb⟩ _).mono ?_
  rintro e w2 ⟨rfl, hb⟩
  rw [HX.out]
  have HB2 := Lib.hid (below_then HB1.out hb)
  have HOa2 := Lib.hid (HOa1.out.below hb)
  have HOb2 := Lib.hid (HOb1.out.below hb)
  clear hb
  have cal := HOa2.out.lt
  obtain ⟨ca0, ca1, caf, cag⟩ := HOa2.out
  have cbl := HOb2.out.lt
  obtain ⟨cb0, cb1, cbf, cbg⟩ := HOb2.out
  go_wp2_with fail
  clear ca0 ca1 caf cag cal
  clear cb0 cb1 cbf cbg cbl
  have hB3 : RowKit.Below w.heap.size w (w2.alloc (.cells #[.bool true, .int .i64 0] 23)) := HB2.out.alloc HB2.out.size _
  have oa : Own2 (w.heap.size) (.bool na) (.int .i64 va) (w2.alloc (.cells #[.bool true, .int .i64 0] 23)) := own_alloc HOa2.out _
  have ob : Own2 (w.heap.size + 1) (.bool nb) (.int .i64 vb) (w2.alloc (.cells #[.bool true, .int .i64 0] 23)) := own_alloc HOb2.out _
  have ox : Own2 (w2.heap.size) (.bool true) (.int .i64 0) (w2.alloc (.cells #[.bool true, .int .i64 0] 23)) := own_new _ _ _ _
  have lax := HOa2.out.lt
  have lbx := HOb2.out.lt
  generalize (w2.alloc (.cells #[.bool true, .int .i64 0] 23)) = W3 at hB3 oa ob ox ⊢
  have HOa3 := Lib.hid oa
  have HOb3 := Lib.hid ob
  have HOx3 := Lib.hid ox
  have HB3 := Lib.hid hB3
  clear hB3 oa ob ox
  refine (add_calls ⟨nb, vb⟩ ⟨na, va⟩ _).mono ?_
  rintro e w4 ⟨rfl, hb⟩
  rw [HY.out]
  have HB4 := Lib.hid (below_then HB3.out hb)
  have HOa4 := Lib.hid (HOa3.out.below hb)
  have HOb4 := Lib.hid (HOb3.out.below hb)
  have HOx4 := Lib.hid (HOx3.out.below hb)
  clear hb
  have cal := HOa4.out.lt
  obtain ⟨ca0, ca1, caf, cag⟩ := HOa4.out
  have cbl := HOb4.out.lt
  obtain ⟨cb0, cb1, cbf, cbg⟩ := HOb4.out
  have cxl := HOx4.out.lt
  obtain ⟨cx0, cx1, cxf, cxg⟩ := HOx4.out
  go_wp2_with fail
  clear ca0 ca1 caf cag cal
  clear cb0 cb1 cbf cbg cbl
  clear cx0 cx1 cxf cxg cxl
  have hB5 : RowKit.Below w.heap.size w (w4.alloc (.cells #[.bool true, .int .i64 0] 23)) := HB4.out.alloc HB4.out.size _
  have oa : Own2 (w.heap.size) (.bool na) (.int .i64 va) (w4.alloc (.cells #[.bool true, .int .i64 0] 23)) := own_alloc HOa4.out _
  have ob : Own2 (w.heap.size + 1) (.bool nb) (.int .i64 vb) (w4.alloc (.cells #[.bool true, .int .i64 0] 23)) := own_alloc HOb4.out _
  have ox : Own2 (w2.heap.size) (.bool true) (.int .i64 0) (w4.alloc (.cells #[.bool true, .int .i64 0] 23)) := own_alloc HOx4.out _
  have oy : Own2 (w4.heap.size) (.bool true) (.int .i64 0) (w4.alloc (.cells #[.bool true, .int .i64 0] 23)) := own_new _ _ _ _
  have lay := HOa4.out.lt
  have lby := HOb4.out.lt
  have lxy := HOx4.out.lt
  generalize (w4.alloc (.cells #[.bool true, .int .i64 0] 23)) = W5 at hB5 oa ob ox oy ⊢
  have HOa5 := Lib.hid oa
  have HOb5 := Lib.hid ob
  have HOx5 := Lib.hid ox
  have HOy5 := Lib.hid oy
  have HB5 := Lib.hid hB5
  clear hB5 oa ob ox oy
  refine (mul_calls ⟨na, va⟩ ⟨nb, vb⟩ _).mono ?_
  rintro e w6 ⟨rfl, hb⟩
  rw [HV.out]
  have HB6 := Lib.hid (below_then HB5.out hb)
  have HOa6 := Lib.hid (HOa5.out.below hb)
  have HOb6 := Lib.hid (HOb5.out.below hb)
  have HOx6 := Lib.hid (HOx5.out.below hb)
  have HOy6 := Lib.hid (HOy5.out.below hb)
  clear hb
  have cal := HOa6.out.lt
  obtain ⟨ca0, ca1, caf, cag⟩ := HOa6.out
  have cbl := HOb6.out.lt
  obtain ⟨cb0, cb1, cbf, cbg⟩ := HOb6.out
  have cxl := HOx6.out.lt
  obtain ⟨cx0, cx1, cxf, cxg⟩ := HOx6.out
  have cyl := HOy6.out.lt
  obtain ⟨cy0, cy1, cyf, cyg⟩ := HOy6.out
  go_wp2_with fail
  clear ca0 ca1 caf cag cal
  clear cb0 cb1 cbf cbg cbl
  clear cx0 cx1 cxf cxg cxl
  clear cy0 cy1 cyf cyg cyl
  have hB7 : RowKit.Below w.heap.size w (w6.alloc (.cells #[.bool true, .int .i64 0] 23)) := HB6.out.alloc HB6.out.size _
  have oa : Own2 (w.heap.size) (.bool na) (.int .i64 va) (w6.alloc (.cells #[.bool true, .int .i64 0] 23)) := own_alloc HOa6.out _
  have ob : Own2 (w.heap.size + 1) (.bool nb) (.int .i64 vb) (w6.alloc (.cells #[.bool true, .int .i64 0] 23)) := own_alloc HOb6.out _
  have ox : Own2 (w2.heap.size) (.bool true) (.int .i64 0) (w6.alloc (.cells #[.bool true, .int .i64 0] 23)) := own_alloc HOx6.out _
  have oy : Own2 (w4.heap.size) (.bool true) (.int .i64 0) (w6.alloc (.cells #[.bool true, .int .i64 0] 23)) := own_alloc HOy6.out _
  have ov : Own2 (w6.heap.size) (.bool true) (.int .i64 0) (w6.alloc (.cells #[.bool true, .int .i64 0] 23)) := own_new _ _ _ _
  have lav := HOa6.out.lt
  have lbv := HOb6.out.lt
  have lxv := HOx6.out.lt
  have lyv := HOy6.out.lt
  generalize (w6.alloc (.cells #[.bool true, .int .i64 0] 23)) = W7 at hB7 oa ob ox oy ov ⊢
  have HOa7 := Lib.hid oa
  have HOb7 := Lib.hid ob
  have HOx7 := Lib.hid ox
  have HOy7 := Lib.hid oy
  have HOv7 := Lib.hid ov
  have HB7 := Lib.hid hB7
  clear hB7 oa ob ox oy ov
  refine (mul_calls ⟨nb, vb⟩ ⟨na, va⟩ _).mono ?_
  rintro e w8 ⟨rfl, hb⟩
  rw [HW.out]
  have HB8 := Lib.hid (below_then HB7.out hb)
  have HOa8 := Lib.hid (HOa7.out.below hb)
  have HOb8 := Lib.hid (HOb7.out.below hb)
  have HOx8 := Lib.hid (HOx7.out.below hb)
  have HOy8 := Lib.hid (HOy7.out.below hb)
  have HOv8 := Lib.hid (HOv7.out.below hb)
  clear hb
  have cal := HOa8.out.lt
  obtain ⟨ca0, ca1, caf, cag⟩ := HOa8.out
  have cbl := HOb8.out.lt
  obtain ⟨cb0, cb1, cbf, cbg⟩ := HOb8.out
  have cxl := HOx8.out.lt
  obtain ⟨cx0, cx1, cxf, cxg⟩ := HOx8.out
  have cyl := HOy8.out.lt
  obtain ⟨cy0, cy1, cyf, cyg⟩ := HOy8.out
  have cvl := HOv8.out.lt
  obtain ⟨cv0, cv1, cvf, cvg⟩ := HOv8.out
  go_wp2_with fail
  clear ca0 ca1 caf cag cal
  clear cb0 cb1 cbf cbg cbl
  clear cx0 cx1 cxf cxg cxl
  clear cy0 cy1 cyf cyg cyl
  clear cv0 cv1 cvf cvg cvl
  have hB9 : RowKit.Below w.heap.size w (w8.alloc (.cells #[.bool true, .int .i64 0] 23)) := HB8.out.alloc HB8.out.size _
  have oa : Own2 (w.heap.size) (.bool na) (.int .i64 va) (w8.alloc (.cells #[.bool true, .int .i64 0] 23)) := own_alloc HOa8.out _
  have ob : Own2 (w.heap.size + 1) (.bool nb) (.int .i64 vb) (w8.alloc (.cells #[.bool true, .int .i64 0] 23)) := own_alloc HOb8.out _
  have ox : Own2 (w2.heap.size) (.bool true) (.int .i64 0) (w8.alloc (.cells #[.bool true, .int .i64 0] 23)) := own_alloc HOx8.out _
  have oy : Own2 (w4.heap.size) (.bool true) (.int .i64 0) (w8.alloc (.cells #[.bool true, .int .i64 0] 23)) := own_alloc HOy8.out _
  have ov : Own2 (w6.heap.size) (.bool true) (.int .i64 0) (w8.alloc (.cells #[.bool true, .int .i64 0] 23)) := own_alloc HOv8.out _
  have ou : Own2 (w8.heap.size) (.bool true) (.int .i64 0) (w8.alloc (.cells #[.bool true, .int .i64 0] 23)) := own_new _ _ _ _
  have lau := HOa8.out.lt
  have lbu := HOb8.out.lt
  have lxu := HOx8.out.lt
  have lyu := HOy8.out.lt
  have lvu := HOv8.out.lt
  generalize (w8.alloc (.cells #[.bool true, .int .i64 0] 23)) = W9 at hB9 oa ob ox oy ov ou ⊢
  have HOa9 := Lib.hid oa
  have HOb9 := Lib.hid ob
  have HOx9 := Lib.hid ox
  have HOy9 := Lib.hid oy
  have HOv9 := Lib.hid ov
  have HOu9 := Lib.hid ou
  have HB9 := Lib.hid hB9
  clear hB9 oa ob ox oy ov ou
  refine (refOdd_calls ⟨na, va⟩ _).mono ?_
  rintro e w10 ⟨rfl, hb⟩
  rw [HOA.out]
  have HB10 := Lib.hid (below_then HB9.out hb)
  have HOa10 := Lib.hid (HOa9.out.below hb)
  have HOb10 := Lib.hid (HOb9.out.below hb)
  have HOx10 := Lib.hid (HOx9.out.below hb)
  have HOy10 := Lib.hid (HOy9.out.below hb)
  have HOv10 := Lib.hid (HOv9.out.below hb)
  have HOu10 := Lib.hid (HOu9.out.below hb)
  clear hb
  cases oa with
  | true =>
    have cal := HOa10.out.lt
    obtain ⟨ca0, ca1, caf, cag⟩ := HOa10.out
    have cbl := HOb10.out.lt
    obtain ⟨cb0, cb1, cbf, cbg⟩ := HOb10.out
    have cxl := HOx10.out.lt
    obtain ⟨cx0, cx1, cxf, cxg⟩ := HOx10.out
    have cyl := HOy10.out.lt
    obtain ⟨cy0, cy1, cyf, cyg⟩ := HOy10.out
    have cvl := HOv10.out.lt
    obtain ⟨cv0, cv1, cvf, cvg⟩ := HOv10.out
    have cul := HOu10.out.lt
    obtain ⟨cu0, cu1, cuf, cug⟩ := HOu10.out
    go_wp2
    go_ret
    exact ⟨rfl, HB10.out⟩
  | false =>
    have HOB2 := Lib.hid (HOB.out rfl)
    have cal := HOa10.out.lt
    obtain ⟨ca0, ca1, caf, cag⟩ := HOa10.out
    have cbl := HOb10.out.lt
    obtain ⟨cb0, cb1, cbf, cbg⟩ := HOb10.out
    have cxl := HOx10.out.lt
    obtain ⟨cx0, cx1, cxf, cxg⟩ := HOx10.out
    have cyl := HOy10.out.lt
    obtain ⟨cy0, cy1, cyf, cyg⟩ := HOy10.out
    have cvl := HOv10.out.lt
    obtain ⟨cv0, cv1, cvf, cvg⟩ := HOv10.out
    have cul := HOu10.out.lt
    obtain ⟨cu0, cu1, cuf, cug⟩ := HOu10.out
    go_wp2_with fail
    clear ca0 ca1 caf cag cal
    clear cb0 cb1 cbf cbg cbl
    clear cx0 cx1 cxf cxg cxl
    clear cy0 cy1 cyf cyg cyl
    clear cv0 cv1 cvf cvg cvl
    clear cu0 cu1 cuf cug cul
    refine (refOdd_calls ⟨nb, vb⟩ _).mono ?_
    rintro e w11 ⟨rfl, hb⟩
    rw [HOB2.out]
    have HB11 := Lib.hid (below_then HB10.out hb)
    have HOa11 := Lib.hid (HOa10.out.below hb)
    have HOb11 := Lib.hid (HOb10.out.below hb)
    have HOx11 := Lib.hid (HOx10.out.below hb)
    have HOy11 := Lib.hid (HOy10.out.below hb)
    have HOv11 := Lib.hid (HOv10.out.below hb)
    have HOu11 := Lib.hid (HOu10.out.below hb)
    clear hb
    have cal := HOa11.out.lt
    obtain ⟨ca0, ca1, caf, cag⟩ := HOa11.out
    have cbl := HOb11.out.lt
    obtain ⟨cb0, cb1, cbf, cbg⟩ := HOb11.out
    have cxl := HOx11.out.lt
    obtain ⟨cx0, cx1, cxf, cxg⟩ := HOx11.out
    have cyl := HOy11.out.lt
    obtain ⟨cy0, cy1, cyf, cyg⟩ := HOy11.out
    have cvl := HOv11.out.lt
    obtain ⟨cv0, cv1, cvf, cvg⟩ := HOv11.out
    have cul := HOu11.out.lt
    obtain ⟨cu0, cu1, cuf, cug⟩ := HOu11.out
    go_wp2
    go_ret
    exact ⟨rfl, HB11.out⟩

theorem tmod_rules {a b : Int} (ha0 : -1000000000000000 ≤ a) (ha1 : a ≤ 1000000000000000) (_hb : b ≠ 0) : ∃ t p m : Int, a.tdiv b = t ∧ t * b = p ∧ a.tmod b = m ∧ p + m = a ∧ -1000000000000000 ≤ t ∧ t ≤ 1000000000000000 ∧ -2000000000000000 ≤ p ∧ p ≤ 2000000000000000 ∧ -1000000000000000 ≤ m ∧ m ≤ 1000000000000000 ∧ (m = 0 ∨ m ≠ 0 ∧ decide (m < 0) = decide (a < 0)) := by
  have h1 := tmod_fits (b := b) ha0 ha1
  have h2 := Int.tdiv_mul_add_tmod a b
  have h3 : (a.tdiv b).natAbs ≤ a.natAbs := by
    rw [Int.natAbs_tdiv]
    exact Nat.div_le_self _ _
  refine ⟨_, _, _, rfl, rfl, rfl, h2, by omega, by omega, by omega, by omega, h1.1, h1.2, ?_⟩
  by_cases hm : a.tmod b = 0
  · exact Or.inl hm
  · refine Or.inr ⟨hm, ?_⟩
    rw [decide_eq_decide]
    by_cases ha : a < 0
    · have := Int.tmod_nonneg b (show 0 ≤ -a by omega)
      rw [Int.neg_tmod] at this
      omega
    · have := Int.tmod_nonneg b (show 0 ≤ a by omega)
      omega

set_option maxRecDepth 100000 in
set_option maxHeartbeats 8000000 in
theorem rules_known (a b : Num) (w : World) (hL : Laid w) (ha : oddN a = false) (hb : oddN b = false) : Calls Tryd.prog 7 #[numV a, numV b] w (Leaves (.bool true) w) := by
  have HL := Lib.hid hL
  obtain ⟨⟨⟨nx, vx⟩, e⟩, hx⟩ : ∃ d, addP a b = d := ⟨_, rfl⟩
  obtain ⟨⟨⟨nv, vv⟩, g⟩, hv⟩ : ∃ d, mulP a b = d := ⟨_, rfl⟩
  have HX : Hid (numC (addP a b) = .tuple #[.agg #[.bool nx, .int .i64 vx], .int .i64 e]) := Lib.hid (by rw [hx]; rfl)
  have HY : Hid (numC (addP b a) = .tuple #[.agg #[.bool nx, .int .i64 vx], .int .i64 e]) := Lib.hid (by rw [addP_comm, hx]; rfl)
  have HV : Hid (numC (mulP a b) = .tuple #[.agg #[.bool nv, .int .i64 vv], .int .i64 g]) := Lib.hid (by rw [hv]; rfl)
  have HW : Hid (numC (mulP b a) = .tuple #[.agg #[.bool nv, .int .i64 vv], .int .i64 g]) := Lib.hid (by rw [mulP_comm, hv]; rfl)
  have HBK : Hid (e = 0 → numC (subP ⟨nx, vx⟩ b) = .tuple #[numV a, .int .i64 0]) := Lib.hid fun h => by
    subst h
    rw [back_sub ha hb hx]
    rfl
  obtain ⟨na, va⟩ := a
  obtain ⟨nb, vb⟩ := b
  obtain rfl : na = false := (oddN_false.1 ha).1
  obtain rfl : nb = false := (oddN_false.1 hb).1
  obtain ⟨g1, g1'⟩ := (oddN_false.1 ha).2
  obtain ⟨g2, g2'⟩ := (oddN_false.1 hb).2
  simp only at g1 g1' g2 g2'
  have HMZ : Hid (vb = 0 → numC (modP ⟨false, va⟩ ⟨false, vb⟩) = .tuple #[.agg #[.bool false, .int .i64 0], .int .i64 67]) := Lib.hid fun h => by rw [mod_zero ha hb h]; rfl
  have HMK : Hid (vb ≠ 0 → numC (modP ⟨false, va⟩ ⟨false, vb⟩) = .tuple #[.agg #[.bool false, .int .i64 (va.tmod vb)], .int .i64 0]) := Lib.hid fun h => by rw [mod_known ha hb h]; rfl
  have HOA := Lib.hid ha
  have HOB := Lib.hid hb
  unfold numV
  clear hL ha hb hx hv
  go_enter Tryd.func7, Tryd.ntmps7
  go_wp2_with fail
  have hB0 : RowKit.Below w.heap.size w ((w.alloc (.cells #[.bool false, .int .i64 va] 23)).alloc (.cells #[.bool false, .int .i64 vb] 23)) := (((Below.refl _ w).alloc (Nat.le_refl _) _).alloc (by simp) _)
  have oa : Own2 (w.heap.size) (.bool false) (.int .i64 va) ((w.alloc (.cells #[.bool false, .int .i64 va] 23)).alloc (.cells #[.bool false, .int .i64 vb] 23)) := ⟨by go_simp, by go_simp, by go_simp, by go_simp⟩
  have ob : Own2 (w.heap.size + 1) (.bool false) (.int .i64 vb) ((w.alloc (.cells #[.bool false, .int .i64 va] 23)).alloc (.cells #[.bool false, .int .i64 vb] 23)) := ⟨by go_simp, by go_simp, by go_simp, by go_simp⟩
  generalize ((w.alloc (.cells #[.bool false, .int .i64 va] 23)).alloc (.cells #[.bool false, .int .i64 vb] 23)) = W0 at hB0 oa ob ⊢
  have HOa0 := Lib.hid oa
  have HOb0 := Lib.hid ob
  have HB0 := Lib.hid hB0
  clear hB0 oa ob
  refine (awake_calls W0 (HL.out.below HB0.out)).mono ?_
  rintro e w1 ⟨rfl, hb⟩
  have HB1 := Lib.hid (below_then HB0.out hb)
  have HOa1 := Lib.hid (HOa0.out.below hb)
  have HOb1 := Lib.hid (HOb0.out.below hb)
  clear hb
  have cal := HOa1.out.lt
  obtain ⟨ca0, ca1, caf, cag⟩ := HOa1.out
  have cbl := HOb1.out.lt
  obtain ⟨cb0, cb1, cbf, cbg⟩ := HOb1.out
  go_wp2_with fail
  clear ca0 ca1 caf cag cal
  clear cb0 cb1 cbf cbg cbl
  refine (add_calls ⟨false, va⟩ ⟨false, vb⟩ _).mono ?_
  rintro e w2 ⟨rfl, hb⟩
  rw [HX.out]
  have HB2 := Lib.hid (below_then HB1.out hb)
  have HOa2 := Lib.hid (HOa1.out.below hb)
  have HOb2 := Lib.hid (HOb1.out.below hb)
  clear hb
  have cal := HOa2.out.lt
  obtain ⟨ca0, ca1, caf, cag⟩ := HOa2.out
  have cbl := HOb2.out.lt
  obtain ⟨cb0, cb1, cbf, cbg⟩ := HOb2.out
  go_wp2_with fail
  clear ca0 ca1 caf cag cal
  clear cb0 cb1 cbf cbg cbl
  have hB3 : RowKit.Below w.heap.size w (w2.alloc (.cells #[.bool nx, .int .i64 vx] 23)) := HB2.out.alloc HB2.out.size _
  have oa : Own2 (w.heap.size) (.bool false) (.int .i64 va) (w2.alloc (.cells #[.bool nx, .int .i64 vx] 23)) := own_alloc HOa2.out _
  have ob : Own2 (w.heap.size + 1) (.bool false) (.int .i64 vb) (w2.alloc (.cells #[.bool nx, .int .i64 vx] 23)) := own_alloc HOb2.out _
  have ox : Own2 (w2.heap.size) (.bool nx) (.int .i64 vx) (w2.alloc (.cells #[.bool nx, .int .i64 vx] 23)) := own_new _ _ _ _
  have lax := HOa2.out.lt
  have lbx := HOb2.out.lt
  generalize (w2.alloc (.cells #[.bool nx, .int .i64 vx] 23)) = W3 at hB3 oa ob ox ⊢
  have HOa3 := Lib.hid oa
  have HOb3 := Lib.hid ob
  have HOx3 := Lib.hid ox
  have HB3 := Lib.hid hB3
  clear hB3 oa ob ox
  refine (add_calls ⟨false, vb⟩ ⟨false, va⟩ _).mono ?_
  rintro e w4 ⟨rfl, hb⟩
  rw [HY.out]
  have HB4 := Lib.hid (below_then HB3.out hb)
  have HOa4 := Lib.hid (HOa3.out.below hb)
  have HOb4 := Lib.hid (HOb3.out.below hb)
  have HOx4 := Lib.hid (HOx3.out.below hb)
  clear hb
  have cal := HOa4.out.lt
  obtain ⟨ca0, ca1, caf, cag⟩ := HOa4.out
  have cbl := HOb4.out.lt
  obtain ⟨cb0, cb1, cbf, cbg⟩ := HOb4.out
  have cxl := HOx4.out.lt
  obtain ⟨cx0, cx1, cxf, cxg⟩ := HOx4.out
  go_wp2_with fail
  clear ca0 ca1 caf cag cal
  clear cb0 cb1 cbf cbg cbl
  clear cx0 cx1 cxf cxg cxl
  have hB5 : RowKit.Below w.heap.size w (w4.alloc (.cells #[.bool nx, .int .i64 vx] 23)) := HB4.out.alloc HB4.out.size _
  have oa : Own2 (w.heap.size) (.bool false) (.int .i64 va) (w4.alloc (.cells #[.bool nx, .int .i64 vx] 23)) := own_alloc HOa4.out _
  have ob : Own2 (w.heap.size + 1) (.bool false) (.int .i64 vb) (w4.alloc (.cells #[.bool nx, .int .i64 vx] 23)) := own_alloc HOb4.out _
  have ox : Own2 (w2.heap.size) (.bool nx) (.int .i64 vx) (w4.alloc (.cells #[.bool nx, .int .i64 vx] 23)) := own_alloc HOx4.out _
  have oy : Own2 (w4.heap.size) (.bool nx) (.int .i64 vx) (w4.alloc (.cells #[.bool nx, .int .i64 vx] 23)) := own_new _ _ _ _
  have lay := HOa4.out.lt
  have lby := HOb4.out.lt
  have lxy := HOx4.out.lt
  generalize (w4.alloc (.cells #[.bool nx, .int .i64 vx] 23)) = W5 at hB5 oa ob ox oy ⊢
  have HOa5 := Lib.hid oa
  have HOb5 := Lib.hid ob
  have HOx5 := Lib.hid ox
  have HOy5 := Lib.hid oy
  have HB5 := Lib.hid hB5
  clear hB5 oa ob ox oy
  refine (mul_calls ⟨false, va⟩ ⟨false, vb⟩ _).mono ?_
  rintro e w6 ⟨rfl, hb⟩
  rw [HV.out]
  have HB6 := Lib.hid (below_then HB5.out hb)
  have HOa6 := Lib.hid (HOa5.out.below hb)
  have HOb6 := Lib.hid (HOb5.out.below hb)
  have HOx6 := Lib.hid (HOx5.out.below hb)
  have HOy6 := Lib.hid (HOy5.out.below hb)
  clear hb
  have cal := HOa6.out.lt
  obtain ⟨ca0, ca1, caf, cag⟩ := HOa6.out
  have cbl := HOb6.out.lt
  obtain ⟨cb0, cb1, cbf, cbg⟩ := HOb6.out
  have cxl := HOx6.out.lt
  obtain ⟨cx0, cx1, cxf, cxg⟩ := HOx6.out
  have cyl := HOy6.out.lt
  obtain ⟨cy0, cy1, cyf, cyg⟩ := HOy6.out
  go_wp2_with fail
  clear ca0 ca1 caf cag cal
  clear cb0 cb1 cbf cbg cbl
  clear cx0 cx1 cxf cxg cxl
  clear cy0 cy1 cyf cyg cyl
  have hB7 : RowKit.Below w.heap.size w (w6.alloc (.cells #[.bool nv, .int .i64 vv] 23)) := HB6.out.alloc HB6.out.size _
  have oa : Own2 (w.heap.size) (.bool false) (.int .i64 va) (w6.alloc (.cells #[.bool nv, .int .i64 vv] 23)) := own_alloc HOa6.out _
  have ob : Own2 (w.heap.size + 1) (.bool false) (.int .i64 vb) (w6.alloc (.cells #[.bool nv, .int .i64 vv] 23)) := own_alloc HOb6.out _
  have ox : Own2 (w2.heap.size) (.bool nx) (.int .i64 vx) (w6.alloc (.cells #[.bool nv, .int .i64 vv] 23)) := own_alloc HOx6.out _
  have oy : Own2 (w4.heap.size) (.bool nx) (.int .i64 vx) (w6.alloc (.cells #[.bool nv, .int .i64 vv] 23)) := own_alloc HOy6.out _
  have ov : Own2 (w6.heap.size) (.bool nv) (.int .i64 vv) (w6.alloc (.cells #[.bool nv, .int .i64 vv] 23)) := own_new _ _ _ _
  have lav := HOa6.out.lt
  have lbv := HOb6.out.lt
  have lxv := HOx6.out.lt
  have lyv := HOy6.out.lt
  generalize (w6.alloc (.cells #[.bool nv, .int .i64 vv] 23)) = W7 at hB7 oa ob ox oy ov ⊢
  have HOa7 := Lib.hid oa
  have HOb7 := Lib.hid ob
  have HOx7 := Lib.hid ox
  have HOy7 := Lib.hid oy
  have HOv7 := Lib.hid ov
  have HB7 := Lib.hid hB7
  clear hB7 oa ob ox oy ov
  refine (mul_calls ⟨false, vb⟩ ⟨false, va⟩ _).mono ?_
  rintro e w8 ⟨rfl, hb⟩
  rw [HW.out]
  have HB8 := Lib.hid (below_then HB7.out hb)
  have HOa8 := Lib.hid (HOa7.out.below hb)
  have HOb8 := Lib.hid (HOb7.out.below hb)
  have HOx8 := Lib.hid (HOx7.out.below hb)
  have HOy8 := Lib.hid (HOy7.out.below hb)
  have HOv8 := Lib.hid (HOv7.out.below hb)
  clear hb
  have cal := HOa8.out.lt
  obtain ⟨ca0, ca1, caf, cag⟩ := HOa8.out
  have cbl := HOb8.out.lt
  obtain ⟨cb0, cb1, cbf, cbg⟩ := HOb8.out
  have cxl := HOx8.out.lt
  obtain ⟨cx0, cx1, cxf, cxg⟩ := HOx8.out
  have cyl := HOy8.out.lt
  obtain ⟨cy0, cy1, cyf, cyg⟩ := HOy8.out
  have cvl := HOv8.out.lt
  obtain ⟨cv0, cv1, cvf, cvg⟩ := HOv8.out
  go_wp2_with fail
  clear ca0 ca1 caf cag cal
  clear cb0 cb1 cbf cbg cbl
  clear cx0 cx1 cxf cxg cxl
  clear cy0 cy1 cyf cyg cyl
  clear cv0 cv1 cvf cvg cvl
  have hB9 : RowKit.Below w.heap.size w (w8.alloc (.cells #[.bool nv, .int .i64 vv] 23)) := HB8.out.alloc HB8.out.size _
  have oa : Own2 (w.heap.size) (.bool false) (.int .i64 va) (w8.alloc (.cells #[.bool nv, .int .i64 vv] 23)) := own_alloc HOa8.out _
  have ob : Own2 (w.heap.size + 1) (.bool false) (.int .i64 vb) (w8.alloc (.cells #[.bool nv, .int .i64 vv] 23)) := own_alloc HOb8.out _
  have ox : Own2 (w2.heap.size) (.bool nx) (.int .i64 vx) (w8.alloc (.cells #[.bool nv, .int .i64 vv] 23)) := own_alloc HOx8.out _
  have oy : Own2 (w4.heap.size) (.bool nx) (.int .i64 vx) (w8.alloc (.cells #[.bool nv, .int .i64 vv] 23)) := own_alloc HOy8.out _
  have ov : Own2 (w6.heap.size) (.bool nv) (.int .i64 vv) (w8.alloc (.cells #[.bool nv, .int .i64 vv] 23)) := own_alloc HOv8.out _
  have ou : Own2 (w8.heap.size) (.bool nv) (.int .i64 vv) (w8.alloc (.cells #[.bool nv, .int .i64 vv] 23)) := own_new _ _ _ _
  have lau := HOa8.out.lt
  have lbu := HOb8.out.lt
  have lxu := HOx8.out.lt
  have lyu := HOy8.out.lt
  have lvu := HOv8.out.lt
  generalize (w8.alloc (.cells #[.bool nv, .int .i64 vv] 23)) = W9 at hB9 oa ob ox oy ov ou ⊢
  have HOa9 := Lib.hid oa
  have HOb9 := Lib.hid ob
  have HOx9 := Lib.hid ox
  have HOy9 := Lib.hid oy
  have HOv9 := Lib.hid ov
  have HOu9 := Lib.hid ou
  have HB9 := Lib.hid hB9
  clear hB9 oa ob ox oy ov ou
  refine (refOdd_calls ⟨false, va⟩ _).mono ?_
  rintro e w10 ⟨rfl, hb⟩
  rw [HOA.out]
  have HB10 := Lib.hid (below_then HB9.out hb)
  have HOa10 := Lib.hid (HOa9.out.below hb)
  have HOb10 := Lib.hid (HOb9.out.below hb)
  have HOx10 := Lib.hid (HOx9.out.below hb)
  have HOy10 := Lib.hid (HOy9.out.below hb)
  have HOv10 := Lib.hid (HOv9.out.below hb)
  have HOu10 := Lib.hid (HOu9.out.below hb)
  clear hb
  have cal := HOa10.out.lt
  obtain ⟨ca0, ca1, caf, cag⟩ := HOa10.out
  have cbl := HOb10.out.lt
  obtain ⟨cb0, cb1, cbf, cbg⟩ := HOb10.out
  have cxl := HOx10.out.lt
  obtain ⟨cx0, cx1, cxf, cxg⟩ := HOx10.out
  have cyl := HOy10.out.lt
  obtain ⟨cy0, cy1, cyf, cyg⟩ := HOy10.out
  have cvl := HOv10.out.lt
  obtain ⟨cv0, cv1, cvf, cvg⟩ := HOv10.out
  have cul := HOu10.out.lt
  obtain ⟨cu0, cu1, cuf, cug⟩ := HOu10.out
  go_wp2_with fail
  clear ca0 ca1 caf cag cal
  clear cb0 cb1 cbf cbg cbl
  clear cx0 cx1 cxf cxg cxl
  clear cy0 cy1 cyf cyg cyl
  clear cv0 cv1 cvf cvg cvl
  clear cu0 cu1 cuf cug cul
  refine (refOdd_calls ⟨false, vb⟩ _).mono ?_
  rintro e w11 ⟨rfl, hb⟩
  rw [HOB.out]
  have HB11 := Lib.hid (below_then HB10.out hb)
  have HOa11 := Lib.hid (HOa10.out.below hb)
  have HOb11 := Lib.hid (HOb10.out.below hb)
  have HOx11 := Lib.hid (HOx10.out.below hb)
  have HOy11 := Lib.hid (HOy10.out.below hb)
  have HOv11 := Lib.hid (HOv10.out.below hb)
  have HOu11 := Lib.hid (HOu10.out.below hb)
  clear hb
  by_cases he : e = 0
  · skip
    subst he
    have HBK2 := Lib.hid (HBK.out rfl)
    have cal := HOa11.out.lt
    obtain ⟨ca0, ca1, caf, cag⟩ := HOa11.out
    have cbl := HOb11.out.lt
    obtain ⟨cb0, cb1, cbf, cbg⟩ := HOb11.out
    have cxl := HOx11.out.lt
    obtain ⟨cx0, cx1, cxf, cxg⟩ := HOx11.out
    have cyl := HOy11.out.lt
    obtain ⟨cy0, cy1, cyf, cyg⟩ := HOy11.out
    have cvl := HOv11.out.lt
    obtain ⟨cv0, cv1, cvf, cvg⟩ := HOv11.out
    have cul := HOu11.out.lt
    obtain ⟨cu0, cu1, cuf, cug⟩ := HOu11.out
    go_wp2_with fail
    clear ca0 ca1 caf cag cal
    clear cb0 cb1 cbf cbg cbl
    clear cx0 cx1 cxf cxg cxl
    clear cy0 cy1 cyf cyg cyl
    clear cv0 cv1 cvf cvg cvl
    clear cu0 cu1 cuf cug cul
    refine (sub_calls ⟨nx, vx⟩ ⟨false, vb⟩ _).mono ?_
    rintro e w12 ⟨rfl, hb⟩
    rw [HBK2.out]
    have HB12 := Lib.hid (below_then HB11.out hb)
    have HOa12 := Lib.hid (HOa11.out.below hb)
    have HOb12 := Lib.hid (HOb11.out.below hb)
    have HOx12 := Lib.hid (HOx11.out.below hb)
    have HOy12 := Lib.hid (HOy11.out.below hb)
    have HOv12 := Lib.hid (HOv11.out.below hb)
    have HOu12 := Lib.hid (HOu11.out.below hb)
    clear hb
    unfold numV
    have cal := HOa12.out.lt
    obtain ⟨ca0, ca1, caf, cag⟩ := HOa12.out
    have cbl := HOb12.out.lt
    obtain ⟨cb0, cb1, cbf, cbg⟩ := HOb12.out
    have cxl := HOx12.out.lt
    obtain ⟨cx0, cx1, cxf, cxg⟩ := HOx12.out
    have cyl := HOy12.out.lt
    obtain ⟨cy0, cy1, cyf, cyg⟩ := HOy12.out
    have cvl := HOv12.out.lt
    obtain ⟨cv0, cv1, cvf, cvg⟩ := HOv12.out
    have cul := HOu12.out.lt
    obtain ⟨cu0, cu1, cuf, cug⟩ := HOu12.out
    go_wp2_with fail
    clear ca0 ca1 caf cag cal
    clear cb0 cb1 cbf cbg cbl
    clear cx0 cx1 cxf cxg cxl
    clear cy0 cy1 cyf cyg cyl
    clear cv0 cv1 cvf cvg cvl
    clear cu0 cu1 cuf cug cul
    have hB13 : RowKit.Below w.heap.size w (w12.alloc (.cells #[.bool false, .int .i64 va] 23)) := HB12.out.alloc HB12.out.size _
    have oa : Own2 (w.heap.size) (.bool false) (.int .i64 va) (w12.alloc (.cells #[.bool false, .int .i64 va] 23)) := own_alloc HOa12.out _
    have ob : Own2 (w.heap.size + 1) (.bool false) (.int .i64 vb) (w12.alloc (.cells #[.bool false, .int .i64 va] 23)) := own_alloc HOb12.out _
    have ox : Own2 (w2.heap.size) (.bool nx) (.int .i64 vx) (w12.alloc (.cells #[.bool false, .int .i64 va] 23)) := own_alloc HOx12.out _
    have oy : Own2 (w4.heap.size) (.bool nx) (.int .i64 vx) (w12.alloc (.cells #[.bool false, .int .i64 va] 23)) := own_alloc HOy12.out _
    have ov : Own2 (w6.heap.size) (.bool nv) (.int .i64 vv) (w12.alloc (.cells #[.bool false, .int .i64 va] 23)) := own_alloc HOv12.out _
    have ou : Own2 (w8.heap.size) (.bool nv) (.int .i64 vv) (w12.alloc (.cells #[.bool false, .int .i64 va] 23)) := own_alloc HOu12.out _
    have ok : Own2 (w12.heap.size) (.bool false) (.int .i64 va) (w12.alloc (.cells #[.bool false, .int .i64 va] 23)) := own_new _ _ _ _
    have lak := HOa12.out.lt
    have lbk := HOb12.out.lt
    have lxk := HOx12.out.lt
    have lyk := HOy12.out.lt
    have lvk := HOv12.out.lt
    have luk := HOu12.out.lt
    generalize (w12.alloc (.cells #[.bool false, .int .i64 va] 23)) = W13 at hB13 oa ob ox oy ov ou ok ⊢
    have HOa13 := Lib.hid oa
    have HOb13 := Lib.hid ob
    have HOx13 := Lib.hid ox
    have HOy13 := Lib.hid oy
    have HOv13 := Lib.hid ov
    have HOu13 := Lib.hid ou
    have HOk13 := Lib.hid ok
    have HB13 := Lib.hid hB13
    clear hB13 oa ob ox oy ov ou ok
    by_cases hz : vb = 0
    · skip
      refine (modN_calls ⟨false, va⟩ ⟨false, vb⟩ _).mono ?_
      rintro e w14 ⟨rfl, hb⟩
      rw [HMZ.out hz]
      have HB14 := Lib.hid (below_then HB13.out hb)
      have HOa14 := Lib.hid (HOa13.out.below hb)
      have HOb14 := Lib.hid (HOb13.out.below hb)
      have HOx14 := Lib.hid (HOx13.out.below hb)
      have HOy14 := Lib.hid (HOy13.out.below hb)
      have HOv14 := Lib.hid (HOv13.out.below hb)
      have HOu14 := Lib.hid (HOu13.out.below hb)
      have HOk14 := Lib.hid (HOk13.out.below hb)
      clear hb
      have HZ := Lib.hid hz
      clear hz
      have cal := HOa14.out.lt
      obtain ⟨ca0, ca1, caf, cag⟩ := HOa14.out
      have cbl := HOb14.out.lt
      obtain ⟨cb0, cb1, cbf, cbg⟩ := HOb14.out
      have cxl := HOx14.out.lt
      obtain ⟨cx0, cx1, cxf, cxg⟩ := HOx14.out
      have cyl := HOy14.out.lt
      obtain ⟨cy0, cy1, cyf, cyg⟩ := HOy14.out
      have cvl := HOv14.out.lt
      obtain ⟨cv0, cv1, cvf, cvg⟩ := HOv14.out
      have cul := HOu14.out.lt
      obtain ⟨cu0, cu1, cuf, cug⟩ := HOu14.out
      have ckl := HOk14.out.lt
      obtain ⟨ck0, ck1, ckf, ckg⟩ := HOk14.out
      have hzv : vb = 0 := HZ.out
      subst hzv
      go_wp2
      go_ret
      exact ⟨rfl, (HB14.out.alloc HB14.out.size _)⟩
    · skip
      obtain ⟨t, p, m, e1, e2, e3, e4, t0, t1, p0, p1, m0, m1, hsg⟩ := tmod_rules (b := vb) g1 g1' hz
      have hmv : numC (modP ⟨false, va⟩ ⟨false, vb⟩) = .tuple #[.agg #[.bool false, .int .i64 m], .int .i64 0] := by rw [HMK.out hz, e3]
      have HMV := Lib.hid hmv
      clear hmv
      refine (modN_calls ⟨false, va⟩ ⟨false, vb⟩ _).mono ?_
      rintro e w14 ⟨rfl, hb⟩
      rw [HMV.out]
      have HB14 := Lib.hid (below_then HB13.out hb)
      have HOa14 := Lib.hid (HOa13.out.below hb)
      have HOb14 := Lib.hid (HOb13.out.below hb)
      have HOx14 := Lib.hid (HOx13.out.below hb)
      have HOy14 := Lib.hid (HOy13.out.below hb)
      have HOv14 := Lib.hid (HOv13.out.below hb)
      have HOu14 := Lib.hid (HOu13.out.below hb)
      have HOk14 := Lib.hid (HOk13.out.below hb)
      clear hb
      have hzb : (vb == 0) = false := by simpa using hz
      have hzb2 : ¬ vb = 0 := hz
      have cal := HOa14.out.lt
      obtain ⟨ca0, ca1, caf, cag⟩ := HOa14.out
      have cbl := HOb14.out.lt
      obtain ⟨cb0, cb1, cbf, cbg⟩ := HOb14.out
      have cxl := HOx14.out.lt
      obtain ⟨cx0, cx1, cxf, cxg⟩ := HOx14.out
      have cyl := HOy14.out.lt
      obtain ⟨cy0, cy1, cyf, cyg⟩ := HOy14.out
      have cvl := HOv14.out.lt
      obtain ⟨cv0, cv1, cvf, cvg⟩ := HOv14.out
      have cul := HOu14.out.lt
      obtain ⟨cu0, cu1, cuf, cug⟩ := HOu14.out
      have ckl := HOk14.out.lt
      obtain ⟨ck0, ck1, ckf, ckg⟩ := HOk14.out
      go_wp2_with fail
      clear ca0 ca1 caf cag cal
      clear cb0 cb1 cbf cbg cbl
      clear cx0 cx1 cxf cxg cxl
      clear cy0 cy1 cyf cyg cyl
      clear cv0 cv1 cvf cvg cvl
      clear cu0 cu1 cuf cug cul
      clear ck0 ck1 ckf ckg ckl
      have hB15 : RowKit.Below w.heap.size w (w14.alloc (.cells #[.bool false, .int .i64 m] 23)) := HB14.out.alloc HB14.out.size _
      have oa : Own2 (w.heap.size) (.bool false) (.int .i64 va) (w14.alloc (.cells #[.bool false, .int .i64 m] 23)) := own_alloc HOa14.out _
      have ob : Own2 (w.heap.size + 1) (.bool false) (.int .i64 vb) (w14.alloc (.cells #[.bool false, .int .i64 m] 23)) := own_alloc HOb14.out _
      have ox : Own2 (w2.heap.size) (.bool nx) (.int .i64 vx) (w14.alloc (.cells #[.bool false, .int .i64 m] 23)) := own_alloc HOx14.out _
      have oy : Own2 (w4.heap.size) (.bool nx) (.int .i64 vx) (w14.alloc (.cells #[.bool false, .int .i64 m] 23)) := own_alloc HOy14.out _
      have ov : Own2 (w6.heap.size) (.bool nv) (.int .i64 vv) (w14.alloc (.cells #[.bool false, .int .i64 m] 23)) := own_alloc HOv14.out _
      have ou : Own2 (w8.heap.size) (.bool nv) (.int .i64 vv) (w14.alloc (.cells #[.bool false, .int .i64 m] 23)) := own_alloc HOu14.out _
      have ok : Own2 (w12.heap.size) (.bool false) (.int .i64 va) (w14.alloc (.cells #[.bool false, .int .i64 m] 23)) := own_alloc HOk14.out _
      have om : Own2 (w14.heap.size) (.bool false) (.int .i64 m) (w14.alloc (.cells #[.bool false, .int .i64 m] 23)) := own_new _ _ _ _
      have lam := HOa14.out.lt
      have lbm := HOb14.out.lt
      have lxm := HOx14.out.lt
      have lym := HOy14.out.lt
      have lvm := HOv14.out.lt
      have lum := HOu14.out.lt
      have lkm := HOk14.out.lt
      generalize (w14.alloc (.cells #[.bool false, .int .i64 m] 23)) = W15 at hB15 oa ob ox oy ov ou ok om ⊢
      have HOa15 := Lib.hid oa
      have HOb15 := Lib.hid ob
      have HOx15 := Lib.hid ox
      have HOy15 := Lib.hid oy
      have HOv15 := Lib.hid ov
      have HOu15 := Lib.hid ou
      have HOk15 := Lib.hid ok
      have HOm15 := Lib.hid om
      have HB15 := Lib.hid hB15
      clear hB15 oa ob ox oy ov ou ok om
      have hq1 : IntKind.i64.wrap (va.tdiv vb) = t := by rw [e1, IntKind.wrap_i64]; omega
      have hq2 : IntKind.i64.wrap (t * vb) = p := by rw [e2, IntKind.wrap_i64]; omega
      have hq3 : IntKind.i64.wrap (p + m) = va := by rw [e4, IntKind.wrap_i64]; omega
      clear e1 e2 e3 e4
      rcases hsg with hm | ⟨hm, hsg⟩
      · skip
        have hm2 : (m == 0) = true := by simpa using hm
        have cal := HOa15.out.lt
        obtain ⟨ca0, ca1, caf, cag⟩ := HOa15.out
        have cbl := HOb15.out.lt
        obtain ⟨cb0, cb1, cbf, cbg⟩ := HOb15.out
        have cxl := HOx15.out.lt
        obtain ⟨cx0, cx1, cxf, cxg⟩ := HOx15.out
        have cyl := HOy15.out.lt
        obtain ⟨cy0, cy1, cyf, cyg⟩ := HOy15.out
        have cvl := HOv15.out.lt
        obtain ⟨cv0, cv1, cvf, cvg⟩ := HOv15.out
        have cul := HOu15.out.lt
        obtain ⟨cu0, cu1, cuf, cug⟩ := HOu15.out
        have ckl := HOk15.out.lt
        obtain ⟨ck0, ck1, ckf, ckg⟩ := HOk15.out
        have cml := HOm15.out.lt
        obtain ⟨cm0, cm1, cmf, cmg⟩ := HOm15.out
        clear hm
        go_quiet (fail)
        go_wp2
        go_ret
        exact ⟨rfl, HB15.out.trans ⟨rfl, rfl, rfl, Nat.le_refl _, fun _ _ => rfl⟩⟩
      · skip
        have hm2 : (m == 0) = false := by simpa using hm
        obtain ⟨sg, hs⟩ : ∃ z, decide (va < 0) = z := ⟨_, rfl⟩
        rw [hs] at hsg
        clear hm
        have cal := HOa15.out.lt
        obtain ⟨ca0, ca1, caf, cag⟩ := HOa15.out
        have cbl := HOb15.out.lt
        obtain ⟨cb0, cb1, cbf, cbg⟩ := HOb15.out
        have cxl := HOx15.out.lt
        obtain ⟨cx0, cx1, cxf, cxg⟩ := HOx15.out
        have cyl := HOy15.out.lt
        obtain ⟨cy0, cy1, cyf, cyg⟩ := HOy15.out
        have cvl := HOv15.out.lt
        obtain ⟨cv0, cv1, cvf, cvg⟩ := HOv15.out
        have cul := HOu15.out.lt
        obtain ⟨cu0, cu1, cuf, cug⟩ := HOu15.out
        have ckl := HOk15.out.lt
        obtain ⟨ck0, ck1, ckf, ckg⟩ := HOk15.out
        have cml := HOm15.out.lt
        obtain ⟨cm0, cm1, cmf, cmg⟩ := HOm15.out
        cases sg
        all_goals
          go_quiet (fail)
          go_wp2
          go_ret
          exact ⟨rfl, HB15.out.trans ⟨rfl, rfl, rfl, Nat.le_refl _, fun _ _ => rfl⟩⟩
  · skip
    have he2 : (e == 0) = false := by simpa using he
    clear he
    have cal := HOa11.out.lt
    obtain ⟨ca0, ca1, caf, cag⟩ := HOa11.out
    have cbl := HOb11.out.lt
    obtain ⟨cb0, cb1, cbf, cbg⟩ := HOb11.out
    have cxl := HOx11.out.lt
    obtain ⟨cx0, cx1, cxf, cxg⟩ := HOx11.out
    have cyl := HOy11.out.lt
    obtain ⟨cy0, cy1, cyf, cyg⟩ := HOy11.out
    have cvl := HOv11.out.lt
    obtain ⟨cv0, cv1, cvf, cvg⟩ := HOv11.out
    have cul := HOu11.out.lt
    obtain ⟨cu0, cu1, cuf, cug⟩ := HOu11.out
    go_wp2_with fail
    clear ca0 ca1 caf cag cal
    clear cb0 cb1 cbf cbg cbl
    clear cx0 cx1 cxf cxg cxl
    clear cy0 cy1 cyf cyg cyl
    clear cv0 cv1 cvf cvg cvl
    clear cu0 cu1 cuf cug cul
    by_cases hz : vb = 0
    · skip
      refine (modN_calls ⟨false, va⟩ ⟨false, vb⟩ _).mono ?_
      rintro e w12 ⟨rfl, hb⟩
      rw [HMZ.out hz]
      have HB12 := Lib.hid (below_then HB11.out hb)
      have HOa12 := Lib.hid (HOa11.out.below hb)
      have HOb12 := Lib.hid (HOb11.out.below hb)
      have HOx12 := Lib.hid (HOx11.out.below hb)
      have HOy12 := Lib.hid (HOy11.out.below hb)
      have HOv12 := Lib.hid (HOv11.out.below hb)
      have HOu12 := Lib.hid (HOu11.out.below hb)
      clear hb
      have HZ := Lib.hid hz
      clear hz
      have cal := HOa12.out.lt
      obtain ⟨ca0, ca1, caf, cag⟩ := HOa12.out
      have cbl := HOb12.out.lt
      obtain ⟨cb0, cb1, cbf, cbg⟩ := HOb12.out
      have cxl := HOx12.out.lt
      obtain ⟨cx0, cx1, cxf, cxg⟩ := HOx12.out
      have cyl := HOy12.out.lt
      obtain ⟨cy0, cy1, cyf, cyg⟩ := HOy12.out
      have cvl := HOv12.out.lt
      obtain ⟨cv0, cv1, cvf, cvg⟩ := HOv12.out
      have cul := HOu12.out.lt
      obtain ⟨cu0, cu1, cuf, cug⟩ := HOu12.out
      have hzv : vb = 0 := HZ.out
      subst hzv
      go_wp2
      go_ret
      exact ⟨rfl, (HB12.out.alloc HB12.out.size _)⟩
    · skip
      obtain ⟨t, p, m, e1, e2, e3, e4, t0, t1, p0, p1, m0, m1, hsg⟩ := tmod_rules (b := vb) g1 g1' hz
      have hmv : numC (modP ⟨false, va⟩ ⟨false, vb⟩) = .tuple #[.agg #[.bool false, .int .i64 m], .int .i64 0] := by rw [HMK.out hz, e3]
      have HMV := Lib.hid hmv
      clear hmv
      refine (modN_calls ⟨false, va⟩ ⟨false, vb⟩ _).mono ?_
      rintro e w12 ⟨rfl, hb⟩
      rw [HMV.out]
      have HB12 := Lib.hid (below_then HB11.out hb)
      have HOa12 := Lib.hid (HOa11.out.below hb)
      have HOb12 := Lib.hid (HOb11.out.below hb)
      have HOx12 := Lib.hid (HOx11.out.below hb)
      have HOy12 := Lib.hid (HOy11.out.below hb)
      have HOv12 := Lib.hid (HOv11.out.below hb)
      have HOu12 := Lib.hid (HOu11.out.below hb)
      clear hb
      have hzb : (vb == 0) = false := by simpa using hz
      have hzb2 : ¬ vb = 0 := hz
      have cal := HOa12.out.lt
      obtain ⟨ca0, ca1, caf, cag⟩ := HOa12.out
      have cbl := HOb12.out.lt
      obtain ⟨cb0, cb1, cbf, cbg⟩ := HOb12.out
      have cxl := HOx12.out.lt
      obtain ⟨cx0, cx1, cxf, cxg⟩ := HOx12.out
      have cyl := HOy12.out.lt
      obtain ⟨cy0, cy1, cyf, cyg⟩ := HOy12.out
      have cvl := HOv12.out.lt
      obtain ⟨cv0, cv1, cvf, cvg⟩ := HOv12.out
      have cul := HOu12.out.lt
      obtain ⟨cu0, cu1, cuf, cug⟩ := HOu12.out
      go_wp2_with fail
      clear ca0 ca1 caf cag cal
      clear cb0 cb1 cbf cbg cbl
      clear cx0 cx1 cxf cxg cxl
      clear cy0 cy1 cyf cyg cyl
      clear cv0 cv1 cvf cvg cvl
      clear cu0 cu1 cuf cug cul
      have hB13 : RowKit.Below w.heap.size w (w12.alloc (.cells #[.bool false, .int .i64 m] 23)) := HB12.out.alloc HB12.out.size _
      have oa : Own2 (w.heap.size) (.bool false) (.int .i64 va) (w12.alloc (.cells #[.bool false, .int .i64 m] 23)) := own_alloc HOa12.out _
      have ob : Own2 (w.heap.size + 1) (.bool false) (.int .i64 vb) (w12.alloc (.cells #[.bool false, .int .i64 m] 23)) := own_alloc HOb12.out _
      have ox : Own2 (w2.heap.size) (.bool nx) (.int .i64 vx) (w12.alloc (.cells #[.bool false, .int .i64 m] 23)) := own_alloc HOx12.out _
      have oy : Own2 (w4.heap.size) (.bool nx) (.int .i64 vx) (w12.alloc (.cells #[.bool false, .int .i64 m] 23)) := own_alloc HOy12.out _
      have ov : Own2 (w6.heap.size) (.bool nv) (.int .i64 vv) (w12.alloc (.cells #[.bool false, .int .i64 m] 23)) := own_alloc HOv12.out _
      have ou : Own2 (w8.heap.size) (.bool nv) (.int .i64 vv) (w12.alloc (.cells #[.bool false, .int .i64 m] 23)) := own_alloc HOu12.out _
      have om : Own2 (w12.heap.size) (.bool false) (.int .i64 m) (w12.alloc (.cells #[.bool false, .int .i64 m] 23)) := own_new _ _ _ _
      have lam := HOa12.out.lt
      have lbm := HOb12.out.lt
      have lxm := HOx12.out.lt
      have lym := HOy12.out.lt
      have lvm := HOv12.out.lt
      have lum := HOu12.out.lt
      generalize (w12.alloc (.cells #[.bool false, .int .i64 m] 23)) = W13 at hB13 oa ob ox oy ov ou om ⊢
      have HOa13 := Lib.hid oa
      have HOb13 := Lib.hid ob
      have HOx13 := Lib.hid ox
      have HOy13 := Lib.hid oy
      have HOv13 := Lib.hid ov
      have HOu13 := Lib.hid ou
      have HOm13 := Lib.hid om
      have HB13 := Lib.hid hB13
      clear hB13 oa ob ox oy ov ou om
      have hq1 : IntKind.i64.wrap (va.tdiv vb) = t := by rw [e1, IntKind.wrap_i64]; omega
      have hq2 : IntKind.i64.wrap (t * vb) = p := by rw [e2, IntKind.wrap_i64]; omega
      have hq3 : IntKind.i64.wrap (p + m) = va := by rw [e4, IntKind.wrap_i64]; omega
      clear e1 e2 e3 e4
      rcases hsg with hm | ⟨hm, hsg⟩
      · skip
        have hm2 : (m == 0) = true := by simpa using hm
        have cal := HOa13.out.lt
        obtain ⟨ca0, ca1, caf, cag⟩ := HOa13.out
        have cbl := HOb13.out.lt
        obtain ⟨cb0, cb1, cbf, cbg⟩ := HOb13.out
        have cxl := HOx13.out.lt
        obtain ⟨cx0, cx1, cxf, cxg⟩ := HOx13.out
        have cyl := HOy13.out.lt
        obtain ⟨cy0, cy1, cyf, cyg⟩ := HOy13.out
        have cvl := HOv13.out.lt
        obtain ⟨cv0, cv1, cvf, cvg⟩ := HOv13.out
        have cul := HOu13.out.lt
        obtain ⟨cu0, cu1, cuf, cug⟩ := HOu13.out
        have cml := HOm13.out.lt
        obtain ⟨cm0, cm1, cmf, cmg⟩ := HOm13.out
        clear hm
        go_quiet (fail)
        go_wp2
        go_ret
        exact ⟨rfl, HB13.out.trans ⟨rfl, rfl, rfl, Nat.le_refl _, fun _ _ => rfl⟩⟩
      · skip
        have hm2 : (m == 0) = false := by simpa using hm
        obtain ⟨sg, hs⟩ : ∃ z, decide (va < 0) = z := ⟨_, rfl⟩
        rw [hs] at hsg
        clear hm
        have cal := HOa13.out.lt
        obtain ⟨ca0, ca1, caf, cag⟩ := HOa13.out
        have cbl := HOb13.out.lt
        obtain ⟨cb0, cb1, cbf, cbg⟩ := HOb13.out
        have cxl := HOx13.out.lt
        obtain ⟨cx0, cx1, cxf, cxg⟩ := HOx13.out
        have cyl := HOy13.out.lt
        obtain ⟨cy0, cy1, cyf, cyg⟩ := HOy13.out
        have cvl := HOv13.out.lt
        obtain ⟨cv0, cv1, cvf, cvg⟩ := HOv13.out
        have cul := HOu13.out.lt
        obtain ⟨cu0, cu1, cuf, cug⟩ := HOu13.out
        have cml := HOm13.out.lt
        obtain ⟨cm0, cm1, cmf, cmg⟩ := HOm13.out
        cases sg
        all_goals
          go_quiet (fail)
          go_wp2
          go_ret
          exact ⟨rfl, HB13.out.trans ⟨rfl, rfl, rfl, Nat.le_refl _, fun _ _ => rfl⟩⟩

theorem law_rules (a b : Num) (w : World) (hL : Laid w) : Calls Tryd.prog 7 #[numV a, numV b] w (Leaves (.bool true) w) := by
  cases hq : odd2 a b with
  | true => exact rules_odd a b w hL hq
  | false => exact rules_known a b w hL (odd2_false.1 hq).1 (odd2_false.1 hq).2

end Go.Proofs.YteddnomneeonhaaDoor
