/-
  The law of DeciTwo: of every two numbers sum, difference, product, quotient, rest and order are alike on both sides. Condition: the library's tables hold what their initialisers lay.
-/
import Derived.Test.YteddnomneeonhaaDoorAwake
import Derived.Test.YteddnomneeonhaaDoorLawBase
import Derived.Test.YteddnomneeonhaaDoorFloors
import Derived.Test.YteddnomneeonhaaDoorRefDiv
import Derived.Test.YteddnomneeonhaaDoorRefFloors
namespace Go.Proofs.YteddnomneeonhaaDoor
open Go.RowKit Go.Lib Go.Sort

set_option maxRecDepth 100000 in
set_option maxHeartbeats 4000000 in
theorem law_two (a b : Num) (w : World) (hL : Laid w) : Calls Tryd.prog 3 #[numV a, numV b] w (Leaves (.bool true) w) := by
  have HL := Lib.hid hL
  obtain ⟨na, va⟩ := a
  obtain ⟨nb, vb⟩ := b
  unfold numV
  clear hL
  obtain ⟨⟨⟨n0, v0⟩, c0⟩, hd0⟩ : ∃ d, addP ⟨na, va⟩ ⟨nb, vb⟩ = d := ⟨_, rfl⟩
  have HD0 : Hid (numC (addP ⟨na, va⟩ ⟨nb, vb⟩) = .tuple #[.agg #[.bool n0, .int .i64 v0], .int .i64 c0]) := Lib.hid (by rw [hd0]; rfl)
  obtain ⟨⟨⟨n1, v1⟩, c1⟩, hd1⟩ : ∃ d, subP ⟨na, va⟩ ⟨nb, vb⟩ = d := ⟨_, rfl⟩
  have HD1 : Hid (numC (subP ⟨na, va⟩ ⟨nb, vb⟩) = .tuple #[.agg #[.bool n1, .int .i64 v1], .int .i64 c1]) := Lib.hid (by rw [hd1]; rfl)
  obtain ⟨⟨⟨n2, v2⟩, c2⟩, hd2⟩ : ∃ d, mulP ⟨na, va⟩ ⟨nb, vb⟩ = d := ⟨_, rfl⟩
  have HD2 : Hid (numC (mulP ⟨na, va⟩ ⟨nb, vb⟩) = .tuple #[.agg #[.bool n2, .int .i64 v2], .int .i64 c2]) := Lib.hid (by rw [hd2]; rfl)
  obtain ⟨⟨⟨n3, v3⟩, c3⟩, hd3⟩ : ∃ d, divP ⟨na, va⟩ ⟨nb, vb⟩ = d := ⟨_, rfl⟩
  have HD3 : Hid (numC (divP ⟨na, va⟩ ⟨nb, vb⟩) = .tuple #[.agg #[.bool n3, .int .i64 v3], .int .i64 c3]) := Lib.hid (by rw [hd3]; rfl)
  obtain ⟨⟨⟨n4, v4⟩, c4⟩, hd4⟩ : ∃ d, modP ⟨na, va⟩ ⟨nb, vb⟩ = d := ⟨_, rfl⟩
  have HD4 : Hid (numC (modP ⟨na, va⟩ ⟨nb, vb⟩) = .tuple #[.agg #[.bool n4, .int .i64 v4], .int .i64 c4]) := Lib.hid (by rw [hd4]; rfl)
  clear hd0 hd1 hd2 hd3 hd4
  go_enter Tryd.func3, Tryd.ntmps3
  go_wp2_with fail
  have hB0 : RowKit.Below w.heap.size w ((w.alloc (.cells #[.bool na, .int .i64 va] 23)).alloc (.cells #[.bool nb, .int .i64 vb] 23)) := (((Below.refl _ w).alloc (Nat.le_refl _) _).alloc (by simp) _)
  have oa : Own2 (w.heap.size) (.bool na) (.int .i64 va) ((w.alloc (.cells #[.bool na, .int .i64 va] 23)).alloc (.cells #[.bool nb, .int .i64 vb] 23)) := ⟨by go_simp, by go_simp, by go_simp, by go_simp⟩
  have ob : Own2 (w.heap.size + 1) (.bool nb) (.int .i64 vb) ((w.alloc (.cells #[.bool na, .int .i64 va] 23)).alloc (.cells #[.bool nb, .int .i64 vb] 23)) := ⟨by go_simp, by go_simp, by go_simp, by go_simp⟩
  generalize ((w.alloc (.cells #[.bool na, .int .i64 va] 23)).alloc (.cells #[.bool nb, .int .i64 vb] 23)) = W0 at hB0 oa ob ⊢
  have HOa0 := Lib.hid oa
  have HOb0 := Lib.hid ob
  have HB0 := Lib.hid hB0
  clear hB0 oa ob
  refine (awake_calls W0 (HL.out.below HB0.out)).mono ?_
  rintro e w1 ⟨rfl, hb⟩
  have HB1 := Lib.hid (below_then HB0.out hb)
  have HOa1 := Lib.hid (HOa0.out.below hb)
  have HOb1 := Lib.hid (HOb0.out.below hb)
  clear hb
  have cal := HOa1.out.lt
  obtain ⟨ca0, ca1, caf, cag⟩ := HOa1.out
  have cbl := HOb1.out.lt
  obtain ⟨cb0, cb1, cbf, cbg⟩ := HOb1.out
  go_wp2_with fail
  clear ca0 ca1 caf cag cal
  clear cb0 cb1 cbf cbg cbl
  refine (add_calls ⟨na, va⟩ ⟨nb, vb⟩ _).mono ?_
  rintro e w2 ⟨rfl, hb⟩
  rw [HD0.out]
  have HB2 := Lib.hid (below_then HB1.out hb)
  have HOa2 := Lib.hid (HOa1.out.below hb)
  have HOb2 := Lib.hid (HOb1.out.below hb)
  clear hb
  have cal := HOa2.out.lt
  obtain ⟨ca0, ca1, caf, cag⟩ := HOa2.out
  have cbl := HOb2.out.lt
  obtain ⟨cb0, cb1, cbf, cbg⟩ := HOb2.out
  go_wp2_with fail
  clear ca0 ca1 caf cag cal
  clear cb0 cb1 cbf cbg cbl
  have hB3 : RowKit.Below w.heap.size w (w2.alloc (.cells #[.bool n0, .int .i64 v0] 23)) := HB2.out.alloc HB2.out.size _
  have oa : Own2 (w.heap.size) (.bool na) (.int .i64 va) (w2.alloc (.cells #[.bool n0, .int .i64 v0] 23)) := own_alloc HOa2.out _
  have ob : Own2 (w.heap.size + 1) (.bool nb) (.int .i64 vb) (w2.alloc (.cells #[.bool n0, .int .i64 v0] 23)) := own_alloc HOb2.out _
  have ox : Own2 (w2.heap.size) (.bool n0) (.int .i64 v0) (w2.alloc (.cells #[.bool n0, .int .i64 v0] 23)) := own_new _ _ _ _
  have lax := HOa2.out.lt
  have lbx := HOb2.out.lt
  generalize (w2.alloc (.cells #[.bool n0, .int .i64 v0] 23)) = W3 at hB3 oa ob ox ⊢
  have HOa3 := Lib.hid oa
  have HOb3 := Lib.hid ob
  have HOx3 := Lib.hid ox
  have HB3 := Lib.hid hB3
  clear hB3 oa ob ox
  refine (refAdd_calls ⟨na, va⟩ ⟨nb, vb⟩ _).mono ?_
  rintro e w4 ⟨rfl, hb⟩
  rw [HD0.out]
  have HB4 := Lib.hid (below_then HB3.out hb)
  have HOa4 := Lib.hid (HOa3.out.below hb)
  have HOb4 := Lib.hid (HOb3.out.below hb)
  have HOx4 := Lib.hid (HOx3.out.below hb)
  clear hb
  have cal := HOa4.out.lt
  obtain ⟨ca0, ca1, caf, cag⟩ := HOa4.out
  have cbl := HOb4.out.lt
  obtain ⟨cb0, cb1, cbf, cbg⟩ := HOb4.out
  have cxl := HOx4.out.lt
  obtain ⟨cx0, cx1, cxf, cxg⟩ := HOx4.out
  go_wp2_with fail
  clear ca0 ca1 caf cag cal
  clear cb0 cb1 cbf cbg cbl
  clear cx0 cx1 cxf cxg cxl
  have hB5 : RowKit.Below w.heap.size w (w4.alloc (.cells #[.bool n0, .int .i64 v0] 23)) := HB4.out.alloc HB4.out.size _
  have oa : Own2 (w.heap.size) (.bool na) (.int .i64 va) (w4.alloc (.cells #[.bool n0, .int .i64 v0] 23)) := own_alloc HOa4.out _
  have ob : Own2 (w.heap.size + 1) (.bool nb) (.int .i64 vb) (w4.alloc (.cells #[.bool n0, .int .i64 v0] 23)) := own_alloc HOb4.out _
  have ox : Own2 (w2.heap.size) (.bool n0) (.int .i64 v0) (w4.alloc (.cells #[.bool n0, .int .i64 v0] 23)) := own_alloc HOx4.out _
  have oy : Own2 (w4.heap.size) (.bool n0) (.int .i64 v0) (w4.alloc (.cells #[.bool n0, .int .i64 v0] 23)) := own_new _ _ _ _
  have lay := HOa4.out.lt
  have lby := HOb4.out.lt
  have lxy := HOx4.out.lt
  generalize (w4.alloc (.cells #[.bool n0, .int .i64 v0] 23)) = W5 at hB5 oa ob ox oy ⊢
  have HOa5 := Lib.hid oa
  have HOb5 := Lib.hid ob
  have HOx5 := Lib.hid ox
  have HOy5 := Lib.hid oy
  have HB5 := Lib.hid hB5
  clear hB5 oa ob ox oy
  refine (sub_calls ⟨na, va⟩ ⟨nb, vb⟩ _).mono ?_
  rintro e w6 ⟨rfl, hb⟩
  rw [HD1.out]
  have HB6 := Lib.hid (below_then HB5.out hb)
  have HOa6 := Lib.hid (HOa5.out.below hb)
  have HOb6 := Lib.hid (HOb5.out.below hb)
  have HOx6 := Lib.hid (HOx5.out.below hb)
  have HOy6 := Lib.hid (HOy5.out.below hb)
  clear hb
  have cal := HOa6.out.lt
  obtain ⟨ca0, ca1, caf, cag⟩ := HOa6.out
  have cbl := HOb6.out.lt
  obtain ⟨cb0, cb1, cbf, cbg⟩ := HOb6.out
  have cxl := HOx6.out.lt
  obtain ⟨cx0, cx1, cxf, cxg⟩ := HOx6.out
  have cyl := HOy6.out.lt
  obtain ⟨cy0, cy1, cyf, cyg⟩ := HOy6.out
  go_wp2_with fail
  clear ca0 ca1 caf cag cal
  clear cb0 cb1 cbf cbg cbl
  clear cx0 cx1 cxf cxg cxl
  clear cy0 cy1 cyf cyg cyl
  have hB7 : RowKit.Below w.heap.size w ((w6.setCell ⟨w2.heap.size, 0, none⟩ (.bool n1)).setCell ⟨w2.heap.size, 1, none⟩ (.int .i64 v1)) := (HB6.out.setCell (by simp; omega) _).setCell (by simp; omega) _
  have oa : Own2 (w.heap.size) (.bool na) (.int .i64 va) ((w6.setCell ⟨w2.heap.size, 0, none⟩ (.bool n1)).setCell ⟨w2.heap.size, 1, none⟩ (.int .i64 v1)) := own_other HOa6.out HOx6.out (by omega)
  have ob : Own2 (w.heap.size + 1) (.bool nb) (.int .i64 vb) ((w6.setCell ⟨w2.heap.size, 0, none⟩ (.bool n1)).setCell ⟨w2.heap.size, 1, none⟩ (.int .i64 v1)) := own_other HOb6.out HOx6.out (by omega)
  have ox : Own2 (w2.heap.size) (.bool n1) (.int .i64 v1) ((w6.setCell ⟨w2.heap.size, 0, none⟩ (.bool n1)).setCell ⟨w2.heap.size, 1, none⟩ (.int .i64 v1)) := own_set HOx6.out
  have oy : Own2 (w4.heap.size) (.bool n0) (.int .i64 v0) ((w6.setCell ⟨w2.heap.size, 0, none⟩ (.bool n1)).setCell ⟨w2.heap.size, 1, none⟩ (.int .i64 v1)) := own_other HOy6.out HOx6.out (by omega)
  generalize ((w6.setCell ⟨w2.heap.size, 0, none⟩ (.bool n1)).setCell ⟨w2.heap.size, 1, none⟩ (.int .i64 v1)) = W7 at hB7 oa ob ox oy ⊢
  have HOa7 := Lib.hid oa
  have HOb7 := Lib.hid ob
  have HOx7 := Lib.hid ox
  have HOy7 := Lib.hid oy
  have HB7 := Lib.hid hB7
  clear hB7 oa ob ox oy
  refine (refSub_calls ⟨na, va⟩ ⟨nb, vb⟩ _).mono ?_
  rintro e w8 ⟨rfl, hb⟩
  rw [HD1.out]
  have HB8 := Lib.hid (below_then HB7.out hb)
  have HOa8 := Lib.hid (HOa7.out.below hb)
  have HOb8 := Lib.hid (HOb7.out.below hb)
  have HOx8 := Lib.hid (HOx7.out.below hb)
  have HOy8 := Lib.hid (HOy7.out.below hb)
  clear hb
  have cal := HOa8.out.lt
  obtain ⟨ca0, ca1, caf, cag⟩ := HOa8.out
  have cbl := HOb8.out.lt
  obtain ⟨cb0, cb1, cbf, cbg⟩ := HOb8.out
  have cxl := HOx8.out.lt
  obtain ⟨cx0, cx1, cxf, cxg⟩ := HOx8.out
  have cyl := HOy8.out.lt
  obtain ⟨cy0, cy1, cyf, cyg⟩ := HOy8.out
  go_wp2_with fail
  clear ca0 ca1 caf cag cal
  clear cb0 cb1 cbf cbg cbl
  clear cx0 cx1 cxf cxg cxl
  clear cy0 cy1 cyf cyg cyl
  have hB9 : RowKit.Below w.heap.size w ((w8.setCell ⟨w4.heap.size, 0, none⟩ (.bool n1)).setCell ⟨w4.heap.size, 1, none⟩ (.int .i64 v1)) := (HB8.out.setCell (by simp; omega) _).setCell (by simp; omega) _
  have oa : Own2 (w.heap.size) (.bool na) (.int .i64 va) ((w8.setCell ⟨w4.heap.size, 0, none⟩ (.bool n1)).setCell ⟨w4.heap.size, 1, none⟩ (.int .i64 v1)) := own_other HOa8.out HOy8.out (by omega)
  have ob : Own2 (w.heap.size + 1) (.bool nb) (.int .i64 vb) ((w8.setCell ⟨w4.heap.size, 0, none⟩ (.bool n1)).setCell ⟨w4.heap.size, 1, none⟩ (.int .i64 v1)) := own_other HOb8.out HOy8.out (by omega)
  have ox : Own2 (w2.heap.size) (.bool n1) (.int .i64 v1) ((w8.setCell ⟨w4.heap.size, 0, none⟩ (.bool n1)).setCell ⟨w4.heap.size, 1, none⟩ (.int .i64 v1)) := own_other HOx8.out HOy8.out (by omega)
  have oy : Own2 (w4.heap.size) (.bool n1) (.int .i64 v1) ((w8.setCell ⟨w4.heap.size, 0, none⟩ (.bool n1)).setCell ⟨w4.heap.size, 1, none⟩ (.int .i64 v1)) := own_set HOy8.out
  generalize ((w8.setCell ⟨w4.heap.size, 0, none⟩ (.bool n1)).setCell ⟨w4.heap.size, 1, none⟩ (.int .i64 v1)) = W9 at hB9 oa ob ox oy ⊢
  have HOa9 := Lib.hid oa
  have HOb9 := Lib.hid ob
  have HOx9 := Lib.hid ox
  have HOy9 := Lib.hid oy
  have HB9 := Lib.hid hB9
  clear hB9 oa ob ox oy
  refine (mul_calls ⟨na, va⟩ ⟨nb, vb⟩ _).mono ?_
  rintro e w10 ⟨rfl, hb⟩
  rw [HD2.out]
  have HB10 := Lib.hid (below_then HB9.out hb)
  have HOa10 := Lib.hid (HOa9.out.below hb)
  have HOb10 := Lib.hid (HOb9.out.below hb)
  have HOx10 := Lib.hid (HOx9.out.below hb)
  have HOy10 := Lib.hid (HOy9.out.below hb)
  clear hb
  have cal := HOa10.out.lt
  obtain ⟨ca0, ca1, caf, cag⟩ := HOa10.out
  have cbl := HOb10.out.lt
  obtain ⟨cb0, cb1, cbf, cbg⟩ := HOb10.out
  have cxl := HOx10.out.lt
  obtain ⟨cx0, cx1, cxf, cxg⟩ := HOx10.out
  have cyl := HOy10.out.lt
  obtain ⟨cy0, cy1, cyf, cyg⟩ := HOy10.out
  go_wp2_with fail
  clear ca0 ca1 caf cag cal
  clear cb0 cb1 cbf cbg cbl
  clear cx0 cx1 cxf cxg cxl
  clear cy0 cy1 cyf cyg cyl
  have hB11 : RowKit.Below w.heap.size w ((w10.setCell ⟨w2.heap.size, 0, none⟩ (.bool n2)).setCell ⟨w2.heap.size, 1, none⟩ (.int .i64 v2)) := (HB10.out.setCell (by simp; omega) _).setCell (by simp; omega) _
  have oa : Own2 (w.heap.size) (.bool na) (.int .i64 va) ((w10.setCell ⟨w2.heap.size, 0, none⟩ (.bool n2)).setCell ⟨w2.heap.size, 1, none⟩ (.int .i64 v2)) := own_other HOa10.out HOx10.out (by omega)
  have ob : Own2 (w.heap.size + 1) (.bool nb) (.int .i64 vb) ((w10.setCell ⟨w2.heap.size, 0, none⟩ (.bool n2)).setCell ⟨w2.heap.size, 1, none⟩ (.int .i64 v2)) := own_other HOb10.out HOx10.out (by omega)
  have ox : Own2 (w2.heap.size) (.bool n2) (.int .i64 v2) ((w10.setCell ⟨w2.heap.size, 0, none⟩ (.bool n2)).setCell ⟨w2.heap.size, 1, none⟩ (.int .i64 v2)) := own_set HOx10.out
  have oy : Own2 (w4.heap.size) (.bool n1) (.int .i64 v1) ((w10.setCell ⟨w2.heap.size, 0, none⟩ (.bool n2)).setCell ⟨w2.heap.size, 1, none⟩ (.int .i64 v2)) := own_other HOy10.out HOx10.out (by omega)
  generalize ((w10.setCell ⟨w2.heap.size, 0, none⟩ (.bool n2)).setCell ⟨w2.heap.size, 1, none⟩ (.int .i64 v2)) = W11 at hB11 oa ob ox oy ⊢
  have HOa11 := Lib.hid oa
  have HOb11 := Lib.hid ob
  have HOx11 := Lib.hid ox
  have HOy11 := Lib.hid oy
  have HB11 := Lib.hid hB11
  clear hB11 oa ob ox oy
  refine (refMul_calls ⟨na, va⟩ ⟨nb, vb⟩ _).mono ?_
  rintro e w12 ⟨rfl, hb⟩
  rw [HD2.out]
  have HB12 := Lib.hid (below_then HB11.out hb)
  have HOa12 := Lib.hid (HOa11.out.below hb)
  have HOb12 := Lib.hid (HOb11.out.below hb)
  have HOx12 := Lib.hid (HOx11.out.below hb)
  have HOy12 := Lib.hid (HOy11.out.below hb)
  clear hb
  have cal := HOa12.out.lt
  obtain ⟨ca0, ca1, caf, cag⟩ := HOa12.out
  have cbl := HOb12.out.lt
  obtain ⟨cb0, cb1, cbf, cbg⟩ := HOb12.out
  have cxl := HOx12.out.lt
  obtain ⟨cx0, cx1, cxf, cxg⟩ := HOx12.out
  have cyl := HOy12.out.lt
  obtain ⟨cy0, cy1, cyf, cyg⟩ := HOy12.out
  go_wp2_with fail
  clear ca0 ca1 caf cag cal
  clear cb0 cb1 cbf cbg cbl
  clear cx0 cx1 cxf cxg cxl
  clear cy0 cy1 cyf cyg cyl
  have hB13 : RowKit.Below w.heap.size w ((w12.setCell ⟨w4.heap.size, 0, none⟩ (.bool n2)).setCell ⟨w4.heap.size, 1, none⟩ (.int .i64 v2)) := (HB12.out.setCell (by simp; omega) _).setCell (by simp; omega) _
  have oa : Own2 (w.heap.size) (.bool na) (.int .i64 va) ((w12.setCell ⟨w4.heap.size, 0, none⟩ (.bool n2)).setCell ⟨w4.heap.size, 1, none⟩ (.int .i64 v2)) := own_other HOa12.out HOy12.out (by omega)
  have ob : Own2 (w.heap.size + 1) (.bool nb) (.int .i64 vb) ((w12.setCell ⟨w4.heap.size, 0, none⟩ (.bool n2)).setCell ⟨w4.heap.size, 1, none⟩ (.int .i64 v2)) := own_other HOb12.out HOy12.out (by omega)
  have ox : Own2 (w2.heap.size) (.bool n2) (.int .i64 v2) ((w12.setCell ⟨w4.heap.size, 0, none⟩ (.bool n2)).setCell ⟨w4.heap.size, 1, none⟩ (.int .i64 v2)) := own_other HOx12.out HOy12.out (by omega)
  have oy : Own2 (w4.heap.size) (.bool n2) (.int .i64 v2) ((w12.setCell ⟨w4.heap.size, 0, none⟩ (.bool n2)).setCell ⟨w4.heap.size, 1, none⟩ (.int .i64 v2)) := own_set HOy12.out
  generalize ((w12.setCell ⟨w4.heap.size, 0, none⟩ (.bool n2)).setCell ⟨w4.heap.size, 1, none⟩ (.int .i64 v2)) = W13 at hB13 oa ob ox oy ⊢
  have HOa13 := Lib.hid oa
  have HOb13 := Lib.hid ob
  have HOx13 := Lib.hid ox
  have HOy13 := Lib.hid oy
  have HB13 := Lib.hid hB13
  clear hB13 oa ob ox oy
  refine (divN_calls ⟨na, va⟩ ⟨nb, vb⟩ _).mono ?_
  rintro e w14 ⟨rfl, hb⟩
  rw [HD3.out]
  have HB14 := Lib.hid (below_then HB13.out hb)
  have HOa14 := Lib.hid (HOa13.out.below hb)
  have HOb14 := Lib.hid (HOb13.out.below hb)
  have HOx14 := Lib.hid (HOx13.out.below hb)
  have HOy14 := Lib.hid (HOy13.out.below hb)
  clear hb
  have cal := HOa14.out.lt
  obtain ⟨ca0, ca1, caf, cag⟩ := HOa14.out
  have cbl := HOb14.out.lt
  obtain ⟨cb0, cb1, cbf, cbg⟩ := HOb14.out
  have cxl := HOx14.out.lt
  obtain ⟨cx0, cx1, cxf, cxg⟩ := HOx14.out
  have cyl := HOy14.out.lt
  obtain ⟨cy0, cy1, cyf, cyg⟩ := HOy14.out
  go_wp2_with fail
  clear ca0 ca1 caf cag cal
  clear cb0 cb1 cbf cbg cbl
  clear cx0 cx1 cxf cxg cxl
  clear cy0 cy1 cyf cyg cyl
  have hB15 : RowKit.Below w.heap.size w ((w14.setCell ⟨w2.heap.size, 0, none⟩ (.bool n3)).setCell ⟨w2.heap.size, 1, none⟩ (.int .i64 v3)) := (HB14.out.setCell (by simp; omega) _).setCell (by simp; omega) _
  have oa : Own2 (w.heap.size) (.bool na) (.int .i64 va) ((w14.setCell ⟨w2.heap.size, 0, none⟩ (.bool n3)).setCell ⟨w2.heap.size, 1, none⟩ (.int .i64 v3)) := own_other HOa14.out HOx14.out (by omega)
  have ob : Own2 (w.heap.size + 1) (.bool nb) (.int .i64 vb) ((w14.setCell ⟨w2.heap.size, 0, none⟩ (.bool n3)).setCell ⟨w2.heap.size, 1, none⟩ (.int .i64 v3)) := own_other HOb14.out HOx14.out (by omega)
  have ox : Own2 (w2.heap.size) (.bool n3) (.int .i64 v3) ((w14.setCell ⟨w2.heap.size, 0, none⟩ (.bool n3)).setCell ⟨w2.heap.size, 1, none⟩ (.int .i64 v3)) := own_set HOx14.out
  have oy : Own2 (w4.heap.size) (.bool n2) (.int .i64 v2) ((w14.setCell ⟨w2.heap.size, 0, none⟩ (.bool n3)).setCell ⟨w2.heap.size, 1, none⟩ (.int .i64 v3)) := own_other HOy14.out HOx14.out (by omega)
  generalize ((w14.setCell ⟨w2.heap.size, 0, none⟩ (.bool n3)).setCell ⟨w2.heap.size, 1, none⟩ (.int .i64 v3)) = W15 at hB15 oa ob ox oy ⊢
  have HOa15 := Lib.hid oa
  have HOb15 := Lib.hid ob
  have HOx15 := Lib.hid ox
  have HOy15 := Lib.hid oy
  have HB15 := Lib.hid hB15
  clear hB15 oa ob ox oy
  refine (refDivN_calls ⟨na, va⟩ ⟨nb, vb⟩ _).mono ?_
  rintro e w16 ⟨rfl, hb⟩
  rw [HD3.out]
  have HB16 := Lib.hid (below_then HB15.out hb)
  have HOa16 := Lib.hid (HOa15.out.below hb)
  have HOb16 := Lib.hid (HOb15.out.below hb)
  have HOx16 := Lib.hid (HOx15.out.below hb)
  have HOy16 := Lib.hid (HOy15.out.below hb)
  clear hb
  have cal := HOa16.out.lt
  obtain ⟨ca0, ca1, caf, cag⟩ := HOa16.out
  have cbl := HOb16.out.lt
  obtain ⟨cb0, cb1, cbf, cbg⟩ := HOb16.out
  have cxl := HOx16.out.lt
  obtain ⟨cx0, cx1, cxf, cxg⟩ := HOx16.out
  have cyl := HOy16.out.lt
  obtain ⟨cy0, cy1, cyf, cyg⟩ := HOy16.out
  go_wp2_with fail
  clear ca0 ca1 caf cag cal
  clear cb0 cb1 cbf cbg cbl
  clear cx0 cx1 cxf cxg cxl
  clear cy0 cy1 cyf cyg cyl
  have hB17 : RowKit.Below w.heap.size w ((w16.setCell ⟨w4.heap.size, 0, none⟩ (.bool n3)).setCell ⟨w4.heap.size, 1, none⟩ (.int .i64 v3)) := (HB16.out.setCell (by simp; omega) _).setCell (by simp; omega) _
  have oa : Own2 (w.heap.size) (.bool na) (.int .i64 va) ((w16.setCell ⟨w4.heap.size, 0, none⟩ (.bool n3)).setCell ⟨w4.heap.size, 1, none⟩ (.int .i64 v3)) := own_other HOa16.out HOy16.out (by omega)
  have ob : Own2 (w.heap.size + 1) (.bool nb) (.int .i64 vb) ((w16.setCell ⟨w4.heap.size, 0, none⟩ (.bool n3)).setCell ⟨w4.heap.size, 1, none⟩ (.int .i64 v3)) := own_other HOb16.out HOy16.out (by omega)
  have ox : Own2 (w2.heap.size) (.bool n3) (.int .i64 v3) ((w16.setCell ⟨w4.heap.size, 0, none⟩ (.bool n3)).setCell ⟨w4.heap.size, 1, none⟩ (.int .i64 v3)) := own_other HOx16.out HOy16.out (by omega)
  have oy : Own2 (w4.heap.size) (.bool n3) (.int .i64 v3) ((w16.setCell ⟨w4.heap.size, 0, none⟩ (.bool n3)).setCell ⟨w4.heap.size, 1, none⟩ (.int .i64 v3)) := own_set HOy16.out
  generalize ((w16.setCell ⟨w4.heap.size, 0, none⟩ (.bool n3)).setCell ⟨w4.heap.size, 1, none⟩ (.int .i64 v3)) = W17 at hB17 oa ob ox oy ⊢
  have HOa17 := Lib.hid oa
  have HOb17 := Lib.hid ob
  have HOx17 := Lib.hid ox
  have HOy17 := Lib.hid oy
  have HB17 := Lib.hid hB17
  clear hB17 oa ob ox oy
  refine (modN_calls ⟨na, va⟩ ⟨nb, vb⟩ _).mono ?_
  rintro e w18 ⟨rfl, hb⟩
  rw [HD4.out]
  have HB18 := Lib.hid (below_then HB17.out hb)
  have HOa18 := Lib.hid (HOa17.out.below hb)
  have HOb18 := Lib.hid (HOb17.out.below hb)
  have HOx18 := Lib.hid (HOx17.out.below hb)
  have HOy18 := Lib.hid (HOy17.out.below hb)
  clear hb
  have cal := HOa18.out.lt
  obtain ⟨ca0, ca1, caf, cag⟩ := HOa18.out
  have cbl := HOb18.out.lt
  obtain ⟨cb0, cb1, cbf, cbg⟩ := HOb18.out
  have cxl := HOx18.out.lt
  obtain ⟨cx0, cx1, cxf, cxg⟩ := HOx18.out
  have cyl := HOy18.out.lt
  obtain ⟨cy0, cy1, cyf, cyg⟩ := HOy18.out
  go_wp2_with fail
  clear ca0 ca1 caf cag cal
  clear cb0 cb1 cbf cbg cbl
  clear cx0 cx1 cxf cxg cxl
  clear cy0 cy1 cyf cyg cyl
  have hB19 : RowKit.Below w.heap.size w ((w18.setCell ⟨w2.heap.size, 0, none⟩ (.bool n4)).setCell ⟨w2.heap.size, 1, none⟩ (.int .i64 v4)) := (HB18.out.setCell (by simp; omega) _).setCell (by simp; omega) _
  have oa : Own2 (w.heap.size) (.bool na) (.int .i64 va) ((w18.setCell ⟨w2.heap.size, 0, none⟩ (.bool n4)).setCell ⟨w2.heap.size, 1, none⟩ (.int .i64 v4)) := own_other HOa18.out HOx18.out (by omega)
  have ob : Own2 (w.heap.size + 1) (.bool nb) (.int .i64 vb) ((w18.setCell ⟨w2.heap.size, 0, none⟩ (.bool n4)).setCell ⟨w2.heap.size, 1, none⟩ (.int .i64 v4)) := own_other HOb18.out HOx18.out (by omega)
  have ox : Own2 (w2.heap.size) (.bool n4) (.int .i64 v4) ((w18.setCell ⟨w2.heap.size, 0, none⟩ (.bool n4)).setCell ⟨w2.heap.size, 1, none⟩ (.int .i64 v4)) := own_set HOx18.out
  have oy : Own2 (w4.heap.size) (.bool n3) (.int .i64 v3) ((w18.setCell ⟨w2.heap.size, 0, none⟩ (.bool n4)).setCell ⟨w2.heap.size, 1, none⟩ (.int .i64 v4)) := own_other HOy18.out HOx18.out (by omega)
  generalize ((w18.setCell ⟨w2.heap.size, 0, none⟩ (.bool n4)).setCell ⟨w2.heap.size, 1, none⟩ (.int .i64 v4)) = W19 at hB19 oa ob ox oy ⊢
  have HOa19 := Lib.hid oa
  have HOb19 := Lib.hid ob
  have HOx19 := Lib.hid ox
  have HOy19 := Lib.hid oy
  have HB19 := Lib.hid hB19
  clear hB19 oa ob ox oy
  refine (refMod_calls ⟨na, va⟩ ⟨nb, vb⟩ _).mono ?_
  rintro e w20 ⟨rfl, hb⟩
  rw [HD4.out]
  have HB20 := Lib.hid (below_then HB19.out hb)
  have HOa20 := Lib.hid (HOa19.out.below hb)
  have HOb20 := Lib.hid (HOb19.out.below hb)
  have HOx20 := Lib.hid (HOx19.out.below hb)
  have HOy20 := Lib.hid (HOy19.out.below hb)
  clear hb
  have cal := HOa20.out.lt
  obtain ⟨ca0, ca1, caf, cag⟩ := HOa20.out
  have cbl := HOb20.out.lt
  obtain ⟨cb0, cb1, cbf, cbg⟩ := HOb20.out
  have cxl := HOx20.out.lt
  obtain ⟨cx0, cx1, cxf, cxg⟩ := HOx20.out
  have cyl := HOy20.out.lt
  obtain ⟨cy0, cy1, cyf, cyg⟩ := HOy20.out
  go_wp2_with fail
  clear ca0 ca1 caf cag cal
  clear cb0 cb1 cbf cbg cbl
  clear cx0 cx1 cxf cxg cxl
  clear cy0 cy1 cyf cyg cyl
  have hB21 : RowKit.Below w.heap.size w ((w20.setCell ⟨w4.heap.size, 0, none⟩ (.bool n4)).setCell ⟨w4.heap.size, 1, none⟩ (.int .i64 v4)) := (HB20.out.setCell (by simp; omega) _).setCell (by simp; omega) _
  have oa : Own2 (w.heap.size) (.bool na) (.int .i64 va) ((w20.setCell ⟨w4.heap.size, 0, none⟩ (.bool n4)).setCell ⟨w4.heap.size, 1, none⟩ (.int .i64 v4)) := own_other HOa20.out HOy20.out (by omega)
  have ob : Own2 (w.heap.size + 1) (.bool nb) (.int .i64 vb) ((w20.setCell ⟨w4.heap.size, 0, none⟩ (.bool n4)).setCell ⟨w4.heap.size, 1, none⟩ (.int .i64 v4)) := own_other HOb20.out HOy20.out (by omega)
  have ox : Own2 (w2.heap.size) (.bool n4) (.int .i64 v4) ((w20.setCell ⟨w4.heap.size, 0, none⟩ (.bool n4)).setCell ⟨w4.heap.size, 1, none⟩ (.int .i64 v4)) := own_other HOx20.out HOy20.out (by omega)
  have oy : Own2 (w4.heap.size) (.bool n4) (.int .i64 v4) ((w20.setCell ⟨w4.heap.size, 0, none⟩ (.bool n4)).setCell ⟨w4.heap.size, 1, none⟩ (.int .i64 v4)) := own_set HOy20.out
  generalize ((w20.setCell ⟨w4.heap.size, 0, none⟩ (.bool n4)).setCell ⟨w4.heap.size, 1, none⟩ (.int .i64 v4)) = W21 at hB21 oa ob ox oy ⊢
  have HOa21 := Lib.hid oa
  have HOb21 := Lib.hid ob
  have HOx21 := Lib.hid ox
  have HOy21 := Lib.hid oy
  have HB21 := Lib.hid hB21
  clear hB21 oa ob ox oy
  obtain ⟨pl, hpl⟩ : ∃ z, lessP ⟨na, va⟩ ⟨nb, vb⟩ = z := ⟨_, rfl⟩
  obtain ⟨pe, hpe⟩ : ∃ z, equalP ⟨na, va⟩ ⟨nb, vb⟩ = z := ⟨_, rfl⟩
  have ka0 := @cell_regrown W21 ⟨w.heap.size, 0, none⟩ (.bool na) HOa21.out.1
  have ka1 := @cell_regrown W21 ⟨w.heap.size, 1, none⟩ (.int .i64 va) HOa21.out.2.1
  have kb0 := @cell_regrown W21 ⟨w.heap.size + 1, 0, none⟩ (.bool nb) HOb21.out.1
  have kb1 := @cell_regrown W21 ⟨w.heap.size + 1, 1, none⟩ (.int .i64 vb) HOb21.out.2.1
  have kx0 := @cell_regrown W21 ⟨w2.heap.size, 0, none⟩ (.bool n4) HOx21.out.1
  have kx1 := @cell_regrown W21 ⟨w2.heap.size, 1, none⟩ (.int .i64 v4) HOx21.out.2.1
  have ky0 := @cell_regrown W21 ⟨w4.heap.size, 0, none⟩ (.bool n4) HOy21.out.1
  have ky1 := @cell_regrown W21 ⟨w4.heap.size, 1, none⟩ (.int .i64 v4) HOy21.out.2.1
  have qa : ∀ d os, Calls Tryd.prog 21 #[.agg #[.bool na, .int .i64 va], .agg #[.bool nb, .int .i64 vb]] (grow (redrawn W21 d) os) fun e w'' => e = .returned (.bool pl) ∧ ∃ p : Regrown, w'' = grow (redrawn W21 p.d) p.os := fun d os => Calls.regrown_of (hpl ▸ less_calls ⟨na, va⟩ ⟨nb, vb⟩ _)
  have qb : ∀ d os, Calls Tryd.prog 22 #[.agg #[.bool na, .int .i64 va], .agg #[.bool nb, .int .i64 vb]] (grow (redrawn W21 d) os) fun e w'' => e = .returned (.bool pl) ∧ ∃ p : Regrown, w'' = grow (redrawn W21 p.d) p.os := fun d os => Calls.regrown_of (hpl ▸ refLess_calls ⟨na, va⟩ ⟨nb, vb⟩ _)
  have qc : ∀ d os, Calls Tryd.prog 23 #[.agg #[.bool na, .int .i64 va], .agg #[.bool nb, .int .i64 vb]] (grow (redrawn W21 d) os) fun e w'' => e = .returned (.bool pe) ∧ ∃ p : Regrown, w'' = grow (redrawn W21 p.d) p.os := fun d os => Calls.regrown_of (hpe ▸ equal_calls ⟨na, va⟩ ⟨nb, vb⟩ _)
  have qd : ∀ d os, Calls Tryd.prog 24 #[.agg #[.bool na, .int .i64 va], .agg #[.bool nb, .int .i64 vb]] (grow (redrawn W21 d) os) fun e w'' => e = .returned (.bool pe) ∧ ∃ p : Regrown, w'' = grow (redrawn W21 p.d) p.os := fun d os => Calls.regrown_of (hpe ▸ refEqual_calls ⟨na, va⟩ ⟨nb, vb⟩ _)
  refine wp_region_quiet_below (by kernel_rfl) (by kernel_rfl) ?_
  repeat (go_big_quiet_step (first | with_reducible exact qa _ _ | with_reducible exact qb _ _ | with_reducible exact qc _ _ | with_reducible exact qd _ _))
  refine wpQuiet_nil ?_
  intro _ hw'
  obtain ⟨⟨dq, osq⟩, hw''⟩ := hw'
  subst hw''
  clear ka0 ka1 kb0 kb1 kx0 kx1 ky0 ky1 qa qb qc qd
  have HBQ := Lib.hid (below_then HB21.out (below_regrown W21 dq osq))
  go_wp2
  go_ret
  exact ⟨rfl, HBQ.out⟩

end Go.Proofs.YteddnomneeonhaaDoor
