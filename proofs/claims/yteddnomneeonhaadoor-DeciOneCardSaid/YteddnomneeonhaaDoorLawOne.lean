/-
  The law of DeciOne: of every number floor, ceiling, the next whole one, the other sign and the text are alike on both sides; so is each whole number. Condition: the library's tables hold what their initialisers lay.
-/
import Derived.Test.YteddnomneeonhaaDoorAwake
import Derived.Test.YteddnomneeonhaaDoorLawBase
import Derived.Test.YteddnomneeonhaaDoorFloors
import Derived.Test.YteddnomneeonhaaDoorRefFloors
import Derived.Test.YteddnomneeonhaaDoorRefText
namespace Go.Proofs.YteddnomneeonhaaDoor
open Go.RowKit Go.Lib Go.Sort

set_option maxRecDepth 100000 in
set_option maxHeartbeats 8000000 in
theorem deciOne_odd (a : Num) (m : Int) (w : World) (hL : Laid w) (hm0 : -9223372036854775808 ≤ m) (hm1 : m ≤ 9223372036854775807) (hq : oddN a = true) : Calls Tryd.prog 4 #[numV a, .int .i64 m] w (Leaves (.bool true) w) := by
  have HL := Lib.hid hL
  obtain ⟨⟨⟨n0, v0⟩, c0⟩, hd0⟩ : ∃ d, floorP a = d := ⟨_, rfl⟩
  have HD0 : Hid (numC (floorP a) = .tuple #[.agg #[.bool n0, .int .i64 v0], .int .i64 c0]) := Lib.hid (by rw [hd0]; rfl)
  obtain ⟨⟨⟨n1, v1⟩, c1⟩, hd1⟩ : ∃ d, ceilP a = d := ⟨_, rfl⟩
  have HD1 : Hid (numC (ceilP a) = .tuple #[.agg #[.bool n1, .int .i64 v1], .int .i64 c1]) := Lib.hid (by rw [hd1]; rfl)
  obtain ⟨⟨⟨n2, v2⟩, c2⟩, hd2⟩ : ∃ d, roundP a = d := ⟨_, rfl⟩
  have HD2 : Hid (numC (roundP a) = .tuple #[.agg #[.bool n2, .int .i64 v2], .int .i64 c2]) := Lib.hid (by rw [hd2]; rfl)
  obtain ⟨⟨⟨n3, v3⟩, c3⟩, hd3⟩ : ∃ d, ofP m = d := ⟨_, rfl⟩
  have HD3 : Hid (numC (ofP m) = .tuple #[.agg #[.bool n3, .int .i64 v3], .int .i64 c3]) := Lib.hid (by rw [hd3]; rfl)
  clear hd0 hd1 hd2 hd3
  obtain ⟨st, hst⟩ : ∃ st : ByteArray, (⟨(textP a).toArray⟩ : ByteArray) = st := ⟨_, rfl⟩
  have HT1 : Hid (∀ W, Laid W → Calls Tryd.prog 34 #[numV a] W (Leaves (.string st) W)) := Lib.hid fun W h => by rw [← hst]; exact text_calls a W h
  have HT2 : Hid (∀ W, Calls Tryd.prog 35 #[numV a] W (Leaves (.string st) W)) := Lib.hid fun W => by rw [← hst]; exact refText_calls a W
  have HO : Hid (∀ W, Calls Tryd.prog 36 #[numV a] W (Leaves (.bool true) W)) := Lib.hid fun W => by rw [← hq]; exact refOdd_calls a W
  have HNG : Hid (numV (negP a) = .agg #[.bool true, .int .i64 (0)]) := Lib.hid (by unfold negP; rw [hq]; rfl)
  clear hst
  obtain ⟨na, va⟩ := a
  unfold numV at HT1 HT2 HO HNG ⊢
  try simp only at HNG
  clear hL hq
  have HNG2 := HNG
  clear HNG
  go_enter Tryd.func4, Tryd.ntmps4
  go_wp2_with fail
  have hB0 : RowKit.Below w.heap.size w (w.alloc (.cells #[.bool na, .int .i64 va] 23)) := ((Below.refl _ w).alloc (Nat.le_refl _) _)
  have oa : Own2 (w.heap.size) (.bool na) (.int .i64 va) (w.alloc (.cells #[.bool na, .int .i64 va] 23)) := ⟨by go_simp, by go_simp, by go_simp, by go_simp⟩
  generalize (w.alloc (.cells #[.bool na, .int .i64 va] 23)) = W0 at hB0 oa ⊢
  have HOa0 := Lib.hid oa
  have HB0 := Lib.hid hB0
  clear hB0 oa
  refine (awake_calls W0 (HL.out.below HB0.out)).mono ?_
  rintro e w1 ⟨rfl, hb⟩
  have HB1 := Lib.hid (below_then HB0.out hb)
  have HOa1 := Lib.hid (HOa0.out.below hb)
  clear hb
  have cal := HOa1.out.lt
  obtain ⟨ca0, ca1, caf, cag⟩ := HOa1.out
  go_wp2_with fail
  clear ca0 ca1 caf cag cal
  refine (floorN_calls ⟨na, va⟩ _).mono ?_
  rintro e w2 ⟨rfl, hb⟩
  rw [HD0.out]
  have HB2 := Lib.hid (below_then HB1.out hb)
  have HOa2 := Lib.hid (HOa1.out.below hb)
  clear hb
  have cal := HOa2.out.lt
  obtain ⟨ca0, ca1, caf, cag⟩ := HOa2.out
  go_wp2_with fail
  clear ca0 ca1 caf cag cal
  have hB3 : RowKit.Below w.heap.size w (w2.alloc (.cells #[.bool n0, .int .i64 v0] 23)) := HB2.out.alloc HB2.out.size _
  have oa : Own2 (w.heap.size) (.bool na) (.int .i64 va) (w2.alloc (.cells #[.bool n0, .int .i64 v0] 23)) := own_alloc HOa2.out _
  have ox : Own2 (w2.heap.size) (.bool n0) (.int .i64 v0) (w2.alloc (.cells #[.bool n0, .int .i64 v0] 23)) := own_new _ _ _ _
  have lax := HOa2.out.lt
  generalize (w2.alloc (.cells #[.bool n0, .int .i64 v0] 23)) = W3 at hB3 oa ox ⊢
  have HOa3 := Lib.hid oa
  have HOx3 := Lib.hid ox
  have HB3 := Lib.hid hB3
  clear hB3 oa ox
  refine (refFloorN_calls ⟨na, va⟩ _).mono ?_
  rintro e w4 ⟨rfl, hb⟩
  rw [HD0.out]
  have HB4 := Lib.hid (below_then HB3.out hb)
  have HOa4 := Lib.hid (HOa3.out.below hb)
  have HOx4 := Lib.hid (HOx3.out.below hb)
  clear hb
  have cal := HOa4.out.lt
  obtain ⟨ca0, ca1, caf, cag⟩ := HOa4.out
  have cxl := HOx4.out.lt
  obtain ⟨cx0, cx1, cxf, cxg⟩ := HOx4.out
  go_wp2_with fail
  clear ca0 ca1 caf cag cal
  clear cx0 cx1 cxf cxg cxl
  have hB5 : RowKit.Below w.heap.size w (w4.alloc (.cells #[.bool n0, .int .i64 v0] 23)) := HB4.out.alloc HB4.out.size _
  have oa : Own2 (w.heap.size) (.bool na) (.int .i64 va) (w4.alloc (.cells #[.bool n0, .int .i64 v0] 23)) := own_alloc HOa4.out _
  have ox : Own2 (w2.heap.size) (.bool n0) (.int .i64 v0) (w4.alloc (.cells #[.bool n0, .int .i64 v0] 23)) := own_alloc HOx4.out _
  have oy : Own2 (w4.heap.size) (.bool n0) (.int .i64 v0) (w4.alloc (.cells #[.bool n0, .int .i64 v0] 23)) := own_new _ _ _ _
  have lay := HOa4.out.lt
  have lxy := HOx4.out.lt
  generalize (w4.alloc (.cells #[.bool n0, .int .i64 v0] 23)) = W5 at hB5 oa ox oy ⊢
  have HOa5 := Lib.hid oa
  have HOx5 := Lib.hid ox
  have HOy5 := Lib.hid oy
  have HB5 := Lib.hid hB5
  clear hB5 oa ox oy
  refine (ceilN_calls ⟨na, va⟩ _).mono ?_
  rintro e w6 ⟨rfl, hb⟩
  rw [HD1.out]
  have HB6 := Lib.hid (below_then HB5.out hb)
  have HOa6 := Lib.hid (HOa5.out.below hb)
  have HOx6 := Lib.hid (HOx5.out.below hb)
  have HOy6 := Lib.hid (HOy5.out.below hb)
  clear hb
  have cal := HOa6.out.lt
  obtain ⟨ca0, ca1, caf, cag⟩ := HOa6.out
  have cxl := HOx6.out.lt
  obtain ⟨cx0, cx1, cxf, cxg⟩ := HOx6.out
  have cyl := HOy6.out.lt
  obtain ⟨cy0, cy1, cyf, cyg⟩ := HOy6.out
  go_wp2_with fail
  clear ca0 ca1 caf cag cal
  clear cx0 cx1 cxf cxg cxl
  clear cy0 cy1 cyf cyg cyl
  have hB7 : RowKit.Below w.heap.size w ((w6.setCell ⟨w2.heap.size, 0, none⟩ (.bool n1)).setCell ⟨w2.heap.size, 1, none⟩ (.int .i64 v1)) := (HB6.out.setCell (by simp; omega) _).setCell (by simp; omega) _
  have oa : Own2 (w.heap.size) (.bool na) (.int .i64 va) ((w6.setCell ⟨w2.heap.size, 0, none⟩ (.bool n1)).setCell ⟨w2.heap.size, 1, none⟩ (.int .i64 v1)) := own_other HOa6.out HOx6.out (by omega)
  have ox : Own2 (w2.heap.size) (.bool n1) (.int .i64 v1) ((w6.setCell ⟨w2.heap.size, 0, none⟩ (.bool n1)).setCell ⟨w2.heap.size, 1, none⟩ (.int .i64 v1)) := own_set HOx6.out
  have oy : Own2 (w4.heap.size) (.bool n0) (.int .i64 v0) ((w6.setCell ⟨w2.heap.size, 0, none⟩ (.bool n1)).setCell ⟨w2.heap.size, 1, none⟩ (.int .i64 v1)) := own_other HOy6.out HOx6.out (by omega)
  generalize ((w6.setCell ⟨w2.heap.size, 0, none⟩ (.bool n1)).setCell ⟨w2.heap.size, 1, none⟩ (.int .i64 v1)) = W7 at hB7 oa ox oy ⊢
  have HOa7 := Lib.hid oa
  have HOx7 := Lib.hid ox
  have HOy7 := Lib.hid oy
  have HB7 := Lib.hid hB7
  clear hB7 oa ox oy
  refine (refCeilN_calls ⟨na, va⟩ _).mono ?_
  rintro e w8 ⟨rfl, hb⟩
  rw [HD1.out]
  have HB8 := Lib.hid (below_then HB7.out hb)
  have HOa8 := Lib.hid (HOa7.out.below hb)
  have HOx8 := Lib.hid (HOx7.out.below hb)
  have HOy8 := Lib.hid (HOy7.out.below hb)
  clear hb
  have cal := HOa8.out.lt
  obtain ⟨ca0, ca1, caf, cag⟩ := HOa8.out
  have cxl := HOx8.out.lt
  obtain ⟨cx0, cx1, cxf, cxg⟩ := HOx8.out
  have cyl := HOy8.out.lt
  obtain ⟨cy0, cy1, cyf, cyg⟩ := HOy8.out
  go_wp2_with fail
  clear ca0 ca1 caf cag cal
  clear cx0 cx1 cxf cxg cxl
  clear cy0 cy1 cyf cyg cyl
  have hB9 : RowKit.Below w.heap.size w ((w8.setCell ⟨w4.heap.size, 0, none⟩ (.bool n1)).setCell ⟨w4.heap.size, 1, none⟩ (.int .i64 v1)) := (HB8.out.setCell (by simp; omega) _).setCell (by simp; omega) _
  have oa : Own2 (w.heap.size) (.bool na) (.int .i64 va) ((w8.setCell ⟨w4.heap.size, 0, none⟩ (.bool n1)).setCell ⟨w4.heap.size, 1, none⟩ (.int .i64 v1)) := own_other HOa8.out HOy8.out (by omega)
  have ox : Own2 (w2.heap.size) (.bool n1) (.int .i64 v1) ((w8.setCell ⟨w4.heap.size, 0, none⟩ (.bool n1)).setCell ⟨w4.heap.size, 1, none⟩ (.int .i64 v1)) := own_other HOx8.out HOy8.out (by omega)
  have oy : Own2 (w4.heap.size) (.bool n1) (.int .i64 v1) ((w8.setCell ⟨w4.heap.size, 0, none⟩ (.bool n1)).setCell ⟨w4.heap.size, 1, none⟩ (.int .i64 v1)) := own_set HOy8.out
  generalize ((w8.setCell ⟨w4.heap.size, 0, none⟩ (.bool n1)).setCell ⟨w4.heap.size, 1, none⟩ (.int .i64 v1)) = W9 at hB9 oa ox oy ⊢
  have HOa9 := Lib.hid oa
  have HOx9 := Lib.hid ox
  have HOy9 := Lib.hid oy
  have HB9 := Lib.hid hB9
  clear hB9 oa ox oy
  refine (roundN_calls ⟨na, va⟩ _).mono ?_
  rintro e w10 ⟨rfl, hb⟩
  rw [HD2.out]
  have HB10 := Lib.hid (below_then HB9.out hb)
  have HOa10 := Lib.hid (HOa9.out.below hb)
  have HOx10 := Lib.hid (HOx9.out.below hb)
  have HOy10 := Lib.hid (HOy9.out.below hb)
  clear hb
  have cal := HOa10.out.lt
  obtain ⟨ca0, ca1, caf, cag⟩ := HOa10.out
  have cxl := HOx10.out.lt
  obtain ⟨cx0, cx1, cxf, cxg⟩ := HOx10.out
  have cyl := HOy10.out.lt
  obtain ⟨cy0, cy1, cyf, cyg⟩ := HOy10.out
  go_wp2_with fail
  clear ca0 ca1 caf cag cal
  clear cx0 cx1 cxf cxg cxl
  clear cy0 cy1 cyf cyg cyl
  have hB11 : RowKit.Below w.heap.size w ((w10.setCell ⟨w2.heap.size, 0, none⟩ (.bool n2)).setCell ⟨w2.heap.size, 1, none⟩ (.int .i64 v2)) := (HB10.out.setCell (by simp; omega) _).setCell (by simp; omega) _
  have oa : Own2 (w.heap.size) (.bool na) (.int .i64 va) ((w10.setCell ⟨w2.heap.size, 0, none⟩ (.bool n2)).setCell ⟨w2.heap.size, 1, none⟩ (.int .i64 v2)) := own_other HOa10.out HOx10.out (by omega)
  have ox : Own2 (w2.heap.size) (.bool n2) (.int .i64 v2) ((w10.setCell ⟨w2.heap.size, 0, none⟩ (.bool n2)).setCell ⟨w2.heap.size, 1, none⟩ (.int .i64 v2)) := own_set HOx10.out
  have oy : Own2 (w4.heap.size) (.bool n1) (.int .i64 v1) ((w10.setCell ⟨w2.heap.size, 0, none⟩ (.bool n2)).setCell ⟨w2.heap.size, 1, none⟩ (.int .i64 v2)) := own_other HOy10.out HOx10.out (by omega)
  generalize ((w10.setCell ⟨w2.heap.size, 0, none⟩ (.bool n2)).setCell ⟨w2.heap.size, 1, none⟩ (.int .i64 v2)) = W11 at hB11 oa ox oy ⊢
  have HOa11 := Lib.hid oa
  have HOx11 := Lib.hid ox
  have HOy11 := Lib.hid oy
  have HB11 := Lib.hid hB11
  clear hB11 oa ox oy
  refine (refRoundN_calls ⟨na, va⟩ _).mono ?_
  rintro e w12 ⟨rfl, hb⟩
  rw [HD2.out]
  have HB12 := Lib.hid (below_then HB11.out hb)
  have HOa12 := Lib.hid (HOa11.out.below hb)
  have HOx12 := Lib.hid (HOx11.out.below hb)
  have HOy12 := Lib.hid (HOy11.out.below hb)
  clear hb
  have cal := HOa12.out.lt
  obtain ⟨ca0, ca1, caf, cag⟩ := HOa12.out
  have cxl := HOx12.out.lt
  obtain ⟨cx0, cx1, cxf, cxg⟩ := HOx12.out
  have cyl := HOy12.out.lt
  obtain ⟨cy0, cy1, cyf, cyg⟩ := HOy12.out
  go_wp2_with fail
  clear ca0 ca1 caf cag cal
  clear cx0 cx1 cxf cxg cxl
  clear cy0 cy1 cyf cyg cyl
  have hB13 : RowKit.Below w.heap.size w ((w12.setCell ⟨w4.heap.size, 0, none⟩ (.bool n2)).setCell ⟨w4.heap.size, 1, none⟩ (.int .i64 v2)) := (HB12.out.setCell (by simp; omega) _).setCell (by simp; omega) _
  have oa : Own2 (w.heap.size) (.bool na) (.int .i64 va) ((w12.setCell ⟨w4.heap.size, 0, none⟩ (.bool n2)).setCell ⟨w4.heap.size, 1, none⟩ (.int .i64 v2)) := own_other HOa12.out HOy12.out (by omega)
  have ox : Own2 (w2.heap.size) (.bool n2) (.int .i64 v2) ((w12.setCell ⟨w4.heap.size, 0, none⟩ (.bool n2)).setCell ⟨w4.heap.size, 1, none⟩ (.int .i64 v2)) := own_other HOx12.out HOy12.out (by omega)
  have oy : Own2 (w4.heap.size) (.bool n2) (.int .i64 v2) ((w12.setCell ⟨w4.heap.size, 0, none⟩ (.bool n2)).setCell ⟨w4.heap.size, 1, none⟩ (.int .i64 v2)) := own_set HOy12.out
  generalize ((w12.setCell ⟨w4.heap.size, 0, none⟩ (.bool n2)).setCell ⟨w4.heap.size, 1, none⟩ (.int .i64 v2)) = W13 at hB13 oa ox oy ⊢
  have HOa13 := Lib.hid oa
  have HOx13 := Lib.hid ox
  have HOy13 := Lib.hid oy
  have HB13 := Lib.hid hB13
  clear hB13 oa ox oy
  refine (of_calls m _ hm0 hm1).mono ?_
  rintro e w14 ⟨rfl, hb⟩
  rw [HD3.out]
  have HB14 := Lib.hid (below_then HB13.out hb)
  have HOa14 := Lib.hid (HOa13.out.below hb)
  have HOx14 := Lib.hid (HOx13.out.below hb)
  have HOy14 := Lib.hid (HOy13.out.below hb)
  clear hb
  have cal := HOa14.out.lt
  obtain ⟨ca0, ca1, caf, cag⟩ := HOa14.out
  have cxl := HOx14.out.lt
  obtain ⟨cx0, cx1, cxf, cxg⟩ := HOx14.out
  have cyl := HOy14.out.lt
  obtain ⟨cy0, cy1, cyf, cyg⟩ := HOy14.out
  go_wp2_with fail
  clear ca0 ca1 caf cag cal
  clear cx0 cx1 cxf cxg cxl
  clear cy0 cy1 cyf cyg cyl
  have hB15 : RowKit.Below w.heap.size w ((w14.setCell ⟨w2.heap.size, 0, none⟩ (.bool n3)).setCell ⟨w2.heap.size, 1, none⟩ (.int .i64 v3)) := (HB14.out.setCell (by simp; omega) _).setCell (by simp; omega) _
  have oa : Own2 (w.heap.size) (.bool na) (.int .i64 va) ((w14.setCell ⟨w2.heap.size, 0, none⟩ (.bool n3)).setCell ⟨w2.heap.size, 1, none⟩ (.int .i64 v3)) := own_other HOa14.out HOx14.out (by omega)
  have ox : Own2 (w2.heap.size) (.bool n3) (.int .i64 v3) ((w14.setCell ⟨w2.heap.size, 0, none⟩ (.bool n3)).setCell ⟨w2.heap.size, 1, none⟩ (.int .i64 v3)) := own_set HOx14.out
  have oy : Own2 (w4.heap.size) (.bool n2) (.int .i64 v2) ((w14.setCell ⟨w2.heap.size, 0, none⟩ (.bool n3)).setCell ⟨w2.heap.size, 1, none⟩ (.int .i64 v3)) := own_other HOy14.out HOx14.out (by omega)
  generalize ((w14.setCell ⟨w2.heap.size, 0, none⟩ (.bool n3)).setCell ⟨w2.heap.size, 1, none⟩ (.int .i64 v3)) = W15 at hB15 oa ox oy ⊢
  have HOa15 := Lib.hid oa
  have HOx15 := Lib.hid ox
  have HOy15 := Lib.hid oy
  have HB15 := Lib.hid hB15
  clear hB15 oa ox oy
  refine (refOf_calls m _ hm0 hm1).mono ?_
  rintro e w16 ⟨rfl, hb⟩
  rw [HD3.out]
  have HB16 := Lib.hid (below_then HB15.out hb)
  have HOa16 := Lib.hid (HOa15.out.below hb)
  have HOx16 := Lib.hid (HOx15.out.below hb)
  have HOy16 := Lib.hid (HOy15.out.below hb)
  clear hb
  have cal := HOa16.out.lt
  obtain ⟨ca0, ca1, caf, cag⟩ := HOa16.out
  have cxl := HOx16.out.lt
  obtain ⟨cx0, cx1, cxf, cxg⟩ := HOx16.out
  have cyl := HOy16.out.lt
  obtain ⟨cy0, cy1, cyf, cyg⟩ := HOy16.out
  go_wp2_with fail
  clear ca0 ca1 caf cag cal
  clear cx0 cx1 cxf cxg cxl
  clear cy0 cy1 cyf cyg cyl
  have hB17 : RowKit.Below w.heap.size w ((w16.setCell ⟨w4.heap.size, 0, none⟩ (.bool n3)).setCell ⟨w4.heap.size, 1, none⟩ (.int .i64 v3)) := (HB16.out.setCell (by simp; omega) _).setCell (by simp; omega) _
  have oa : Own2 (w.heap.size) (.bool na) (.int .i64 va) ((w16.setCell ⟨w4.heap.size, 0, none⟩ (.bool n3)).setCell ⟨w4.heap.size, 1, none⟩ (.int .i64 v3)) := own_other HOa16.out HOy16.out (by omega)
  have ox : Own2 (w2.heap.size) (.bool n3) (.int .i64 v3) ((w16.setCell ⟨w4.heap.size, 0, none⟩ (.bool n3)).setCell ⟨w4.heap.size, 1, none⟩ (.int .i64 v3)) := own_other HOx16.out HOy16.out (by omega)
  have oy : Own2 (w4.heap.size) (.bool n3) (.int .i64 v3) ((w16.setCell ⟨w4.heap.size, 0, none⟩ (.bool n3)).setCell ⟨w4.heap.size, 1, none⟩ (.int .i64 v3)) := own_set HOy16.out
  generalize ((w16.setCell ⟨w4.heap.size, 0, none⟩ (.bool n3)).setCell ⟨w4.heap.size, 1, none⟩ (.int .i64 v3)) = W17 at hB17 oa ox oy ⊢
  have HOa17 := Lib.hid oa
  have HOx17 := Lib.hid ox
  have HOy17 := Lib.hid oy
  have HB17 := Lib.hid hB17
  clear hB17 oa ox oy
  refine (neg_calls ⟨na, va⟩ _).mono ?_
  rintro e w18 ⟨rfl, hb⟩
  have HB18 := Lib.hid (below_then HB17.out hb)
  have HOa18 := Lib.hid (HOa17.out.below hb)
  have HOx18 := Lib.hid (HOx17.out.below hb)
  have HOy18 := Lib.hid (HOy17.out.below hb)
  clear hb
  rw [show numV (negP ⟨na, va⟩) = .agg #[.bool true, .int .i64 0] from HNG2.out]
  have cal := HOa18.out.lt
  obtain ⟨ca0, ca1, caf, cag⟩ := HOa18.out
  have cxl := HOx18.out.lt
  obtain ⟨cx0, cx1, cxf, cxg⟩ := HOx18.out
  have cyl := HOy18.out.lt
  obtain ⟨cy0, cy1, cyf, cyg⟩ := HOy18.out
  go_wp2_with fail
  clear ca0 ca1 caf cag cal
  clear cx0 cx1 cxf cxg cxl
  clear cy0 cy1 cyf cyg cyl
  have hB19 : RowKit.Below w.heap.size w (w18.alloc (.cells #[.bool true, .int .i64 0] 23)) := HB18.out.alloc HB18.out.size _
  have oa : Own2 (w.heap.size) (.bool na) (.int .i64 va) (w18.alloc (.cells #[.bool true, .int .i64 0] 23)) := own_alloc HOa18.out _
  have ox : Own2 (w2.heap.size) (.bool n3) (.int .i64 v3) (w18.alloc (.cells #[.bool true, .int .i64 0] 23)) := own_alloc HOx18.out _
  have oy : Own2 (w4.heap.size) (.bool n3) (.int .i64 v3) (w18.alloc (.cells #[.bool true, .int .i64 0] 23)) := own_alloc HOy18.out _
  have oz : Own2 (w18.heap.size) (.bool true) (.int .i64 0) (w18.alloc (.cells #[.bool true, .int .i64 0] 23)) := own_new _ _ _ _
  have laz := HOa18.out.lt
  have lxz := HOx18.out.lt
  have lyz := HOy18.out.lt
  generalize (w18.alloc (.cells #[.bool true, .int .i64 0] 23)) = W19 at hB19 oa ox oy oz ⊢
  have HOa19 := Lib.hid oa
  have HOx19 := Lib.hid ox
  have HOy19 := Lib.hid oy
  have HOz19 := Lib.hid oz
  have HB19 := Lib.hid hB19
  clear hB19 oa ox oy oz
  have ka0 := @cell_regrown W19 ⟨w.heap.size, 0, none⟩ (.bool na) HOa19.out.1
  have ka1 := @cell_regrown W19 ⟨w.heap.size, 1, none⟩ (.int .i64 va) HOa19.out.2.1
  have kx0 := @cell_regrown W19 ⟨w2.heap.size, 0, none⟩ (.bool n3) HOx19.out.1
  have kx1 := @cell_regrown W19 ⟨w2.heap.size, 1, none⟩ (.int .i64 v3) HOx19.out.2.1
  have ky0 := @cell_regrown W19 ⟨w4.heap.size, 0, none⟩ (.bool n3) HOy19.out.1
  have ky1 := @cell_regrown W19 ⟨w4.heap.size, 1, none⟩ (.int .i64 v3) HOy19.out.2.1
  have kz0 := @cell_regrown W19 ⟨w18.heap.size, 0, none⟩ (.bool true) HOz19.out.1
  have kz1 := @cell_regrown W19 ⟨w18.heap.size, 1, none⟩ (.int .i64 0) HOz19.out.2.1
  have qt : ∀ d os, Calls Tryd.prog 34 #[.agg #[.bool na, .int .i64 va]] (grow (redrawn W19 d) os) fun e w'' => e = .returned (.string st) ∧ ∃ p : Regrown, w'' = grow (redrawn W19 p.d) p.os := fun d os => Calls.regrown_of (HT1.out _ (HL.out.below (below_then HB19.out (below_regrown W19 d os))))
  have qr : ∀ d os, Calls Tryd.prog 35 #[.agg #[.bool na, .int .i64 va]] (grow (redrawn W19 d) os) fun e w'' => e = .returned (.string st) ∧ ∃ p : Regrown, w'' = grow (redrawn W19 p.d) p.os := fun d os => Calls.regrown_of (HT2.out _)
  have qo : ∀ d os, Calls Tryd.prog 36 #[.agg #[.bool na, .int .i64 va]] (grow (redrawn W19 d) os) fun e w'' => e = .returned (.bool true) ∧ ∃ p : Regrown, w'' = grow (redrawn W19 p.d) p.os := fun d os => Calls.regrown_of (HO.out _)
  refine wp_region_quiet_below (by kernel_rfl) (by kernel_rfl) ?_
  repeat (go_big_quiet_step (first | with_reducible exact qt _ _ | with_reducible exact qr _ _ | with_reducible exact qo _ _))
  refine wpQuiet_nil ?_
  intro _ hw'
  obtain ⟨⟨dq, osq⟩, hw''⟩ := hw'
  subst hw''
  clear ka0 ka1 kx0 kx1 ky0 ky1 kz0 kz1 qt qr qo
  have HBQ := Lib.hid (below_then HB19.out (below_regrown W19 dq osq))
  go_wp2
  go_ret
  exact ⟨rfl, HBQ.out⟩

set_option maxRecDepth 100000 in
set_option maxHeartbeats 8000000 in
theorem deciOne_known (a : Num) (m : Int) (w : World) (hL : Laid w) (hm0 : -9223372036854775808 ≤ m) (hm1 : m ≤ 9223372036854775807) (hq : oddN a = false) : Calls Tryd.prog 4 #[numV a, .int .i64 m] w (Leaves (.bool true) w) := by
  have HL := Lib.hid hL
  obtain ⟨⟨⟨n0, v0⟩, c0⟩, hd0⟩ : ∃ d, floorP a = d := ⟨_, rfl⟩
  have HD0 : Hid (numC (floorP a) = .tuple #[.agg #[.bool n0, .int .i64 v0], .int .i64 c0]) := Lib.hid (by rw [hd0]; rfl)
  obtain ⟨⟨⟨n1, v1⟩, c1⟩, hd1⟩ : ∃ d, ceilP a = d := ⟨_, rfl⟩
  have HD1 : Hid (numC (ceilP a) = .tuple #[.agg #[.bool n1, .int .i64 v1], .int .i64 c1]) := Lib.hid (by rw [hd1]; rfl)
  obtain ⟨⟨⟨n2, v2⟩, c2⟩, hd2⟩ : ∃ d, roundP a = d := ⟨_, rfl⟩
  have HD2 : Hid (numC (roundP a) = .tuple #[.agg #[.bool n2, .int .i64 v2], .int .i64 c2]) := Lib.hid (by rw [hd2]; rfl)
  obtain ⟨⟨⟨n3, v3⟩, c3⟩, hd3⟩ : ∃ d, ofP m = d := ⟨_, rfl⟩
  have HD3 : Hid (numC (ofP m) = .tuple #[.agg #[.bool n3, .int .i64 v3], .int .i64 c3]) := Lib.hid (by rw [hd3]; rfl)
  clear hd0 hd1 hd2 hd3
  obtain ⟨st, hst⟩ : ∃ st : ByteArray, (⟨(textP a).toArray⟩ : ByteArray) = st := ⟨_, rfl⟩
  have HT1 : Hid (∀ W, Laid W → Calls Tryd.prog 34 #[numV a] W (Leaves (.string st) W)) := Lib.hid fun W h => by rw [← hst]; exact text_calls a W h
  have HT2 : Hid (∀ W, Calls Tryd.prog 35 #[numV a] W (Leaves (.string st) W)) := Lib.hid fun W => by rw [← hst]; exact refText_calls a W
  have HO : Hid (∀ W, Calls Tryd.prog 36 #[numV a] W (Leaves (.bool false) W)) := Lib.hid fun W => by rw [← hq]; exact refOdd_calls a W
  have HNG : Hid (numV (negP a) = .agg #[.bool false, .int .i64 (-a.v)]) := Lib.hid (by unfold negP; rw [hq]; rfl)
  clear hst
  obtain ⟨na, va⟩ := a
  obtain rfl : na = false := (oddN_false.1 hq).1
  obtain ⟨g1, g1'⟩ := (oddN_false.1 hq).2
  simp only at g1 g1'
  unfold numV at HT1 HT2 HO HNG ⊢
  try simp only at HNG
  clear hL hq
  have HNG2 := HNG
  clear HNG
  go_enter Tryd.func4, Tryd.ntmps4
  go_wp2_with fail
  have hB0 : RowKit.Below w.heap.size w (w.alloc (.cells #[.bool false, .int .i64 va] 23)) := ((Below.refl _ w).alloc (Nat.le_refl _) _)
  have oa : Own2 (w.heap.size) (.bool false) (.int .i64 va) (w.alloc (.cells #[.bool false, .int .i64 va] 23)) := ⟨by go_simp, by go_simp, by go_simp, by go_simp⟩
  generalize (w.alloc (.cells #[.bool false, .int .i64 va] 23)) = W0 at hB0 oa ⊢
  have HOa0 := Lib.hid oa
  have HB0 := Lib.hid hB0
  clear hB0 oa
  refine (awake_calls W0 (HL.out.below HB0.out)).mono ?_
  rintro e w1 ⟨rfl, hb⟩
  have HB1 := Lib.hid (below_then HB0.out hb)
  have HOa1 := Lib.hid (HOa0.out.below hb)
  clear hb
  have cal := HOa1.out.lt
  obtain ⟨ca0, ca1, caf, cag⟩ := HOa1.out
  go_wp2_with fail
  clear ca0 ca1 caf cag cal
  refine (floorN_calls ⟨false, va⟩ _).mono ?_
  rintro e w2 ⟨rfl, hb⟩
  rw [HD0.out]
  have HB2 := Lib.hid (below_then HB1.out hb)
  have HOa2 := Lib.hid (HOa1.out.below hb)
  clear hb
  have cal := HOa2.out.lt
  obtain ⟨ca0, ca1, caf, cag⟩ := HOa2.out
  go_wp2_with fail
  clear ca0 ca1 caf cag cal
  have hB3 : RowKit.Below w.heap.size w (w2.alloc (.cells #[.bool n0, .int .i64 v0] 23)) := HB2.out.alloc HB2.out.size _
  have oa : Own2 (w.heap.size) (.bool false) (.int .i64 va) (w2.alloc (.cells #[.bool n0, .int .i64 v0] 23)) := own_alloc HOa2.out _
  have ox : Own2 (w2.heap.size) (.bool n0) (.int .i64 v0) (w2.alloc (.cells #[.bool n0, .int .i64 v0] 23)) := own_new _ _ _ _
  have lax := HOa2.out.lt
  generalize (w2.alloc (.cells #[.bool n0, .int .i64 v0] 23)) = W3 at hB3 oa ox ⊢
  have HOa3 := Lib.hid oa
  have HOx3 := Lib.hid ox
  have HB3 := Lib.hid hB3
  clear hB3 oa ox
  refine (refFloorN_calls ⟨false, va⟩ _).mono ?_
  rintro e w4 ⟨rfl, hb⟩
  rw [HD0.out]
  have HB4 := Lib.hid (below_then HB3.out hb)
  have HOa4 := Lib.hid (HOa3.out.below hb)
  have HOx4 := Lib.hid (HOx3.out.below hb)
  clear hb
  have cal := HOa4.out.lt
  obtain ⟨ca0, ca1, caf, cag⟩ := HOa4.out
  have cxl := HOx4.out.lt
  obtain ⟨cx0, cx1, cxf, cxg⟩ := HOx4.out
  go_wp2_with fail
  clear ca0 ca1 caf cag cal
  clear cx0 cx1 cxf cxg cxl
  have hB5 : RowKit.Below w.heap.size w (w4.alloc (.cells #[.bool n0, .int .i64 v0] 23)) := HB4.out.alloc HB4.out.size _
  have oa : Own2 (w.heap.size) (.bool false) (.int .i64 va) (w4.alloc (.cells #[.bool n0, .int .i64 v0] 23)) := own_alloc HOa4.out _
  have ox : Own2 (w2.heap.size) (.bool n0) (.int .i64 v0) (w4.alloc (.cells #[.bool n0, .int .i64 v0] 23)) := own_alloc HOx4.out _
  have oy : Own2 (w4.heap.size) (.bool n0) (.int .i64 v0) (w4.alloc (.cells #[.bool n0, .int .i64 v0] 23)) := own_new _ _ _ _
  have lay := HOa4.out.lt
  have lxy := HOx4.out.lt
  generalize (w4.alloc (.cells #[.bool n0, .int .i64 v0] 23)) = W5 at hB5 oa ox oy ⊢
  have HOa5 := Lib.hid oa
  have HOx5 := Lib.hid ox
  have HOy5 := Lib.hid oy
  have HB5 := Lib.hid hB5
  clear hB5 oa ox oy
  refine (ceilN_calls ⟨false, va⟩ _).mono ?_
  rintro e w6 ⟨rfl, hb⟩
  rw [HD1.out]
  have HB6 := Lib.hid (below_then HB5.out hb)
  have HOa6 := Lib.hid (HOa5.out.below hb)
  have HOx6 := Lib.hid (HOx5.out.below hb)
  have HOy6 := Lib.hid (HOy5.out.below hb)
  clear hb
  have cal := HOa6.out.lt
  obtain ⟨ca0, ca1, caf, cag⟩ := HOa6.out
  have cxl := HOx6.out.lt
  obtain ⟨cx0, cx1, cxf, cxg⟩ := HOx6.out
  have cyl := HOy6.out.lt
  obtain ⟨cy0, cy1, cyf, cyg⟩ := HOy6.out
  go_wp2_with fail
  clear ca0 ca1 caf cag cal
  clear cx0 cx1 cxf cxg cxl
  clear cy0 cy1 cyf cyg cyl
  have hB7 : RowKit.Below w.heap.size w ((w6.setCell ⟨w2.heap.size, 0, none⟩ (.bool n1)).setCell ⟨w2.heap.size, 1, none⟩ (.int .i64 v1)) := (HB6.out.setCell (by simp; omega) _).setCell (by simp; omega) _
  have oa : Own2 (w.heap.size) (.bool false) (.int .i64 va) ((w6.setCell ⟨w2.heap.size, 0, none⟩ (.bool n1)).setCell ⟨w2.heap.size, 1, none⟩ (.int .i64 v1)) := own_other HOa6.out HOx6.out (by omega)
  have ox : Own2 (w2.heap.size) (.bool n1) (.int .i64 v1) ((w6.setCell ⟨w2.heap.size, 0, none⟩ (.bool n1)).setCell ⟨w2.heap.size, 1, none⟩ (.int .i64 v1)) := own_set HOx6.out
  have oy : Own2 (w4.heap.size) (.bool n0) (.int .i64 v0) ((w6.setCell ⟨w2.heap.size, 0, none⟩ (.bool n1)).setCell ⟨w2.heap.size, 1, none⟩ (.int .i64 v1)) := own_other HOy6.out HOx6.out (by omega)
  generalize ((w6.setCell ⟨w2.heap.size, 0, none⟩ (.bool n1)).setCell ⟨w2.heap.size, 1, none⟩ (.int .i64 v1)) = W7 at hB7 oa ox oy ⊢
  have HOa7 := Lib.hid oa
  have HOx7 := Lib.hid ox
  have HOy7 := Lib.hid oy
  have HB7 := Lib.hid hB7
  clear hB7 oa ox oy
  refine (refCeilN_calls ⟨false, va⟩ _).mono ?_
  rintro e w8 ⟨rfl, hb⟩
  rw [HD1.out]
  have HB8 := Lib.hid (below_then HB7.out hb)
  have HOa8 := Lib.hid (HOa7.out.below hb)
  have HOx8 := Lib.hid (HOx7.out.below hb)
  have HOy8 := Lib.hid (HOy7.out.below hb)
  clear hb
  have cal := HOa8.out.lt
  obtain ⟨ca0, ca1, caf, cag⟩ := HOa8.out
  have cxl := HOx8.out.lt
  obtain ⟨cx0, cx1, cxf, cxg⟩ := HOx8.out
  have cyl := HOy8.out.lt
  obtain ⟨cy0, cy1, cyf, cyg⟩ := HOy8.out
  go_wp2_with fail
  clear ca0 ca1 caf cag cal
  clear cx0 cx1 cxf cxg cxl
  clear cy0 cy1 cyf cyg cyl
  have hB9 : RowKit.Below w.heap.size w ((w8.setCell ⟨w4.heap.size, 0, none⟩ (.bool n1)).setCell ⟨w4.heap.size, 1, none⟩ (.int .i64 v1)) := (HB8.out.setCell (by simp; omega) _).setCell (by simp; omega) _
  have oa : Own2 (w.heap.size) (.bool false) (.int .i64 va) ((w8.setCell ⟨w4.heap.size, 0, none⟩ (.bool n1)).setCell ⟨w4.heap.size, 1, none⟩ (.int .i64 v1)) := own_other HOa8.out HOy8.out (by omega)
  have ox : Own2 (w2.heap.size) (.bool n1) (.int .i64 v1) ((w8.setCell ⟨w4.heap.size, 0, none⟩ (.bool n1)).setCell ⟨w4.heap.size, 1, none⟩ (.int .i64 v1)) := own_other HOx8.out HOy8.out (by omega)
  have oy : Own2 (w4.heap.size) (.bool n1) (.int .i64 v1) ((w8.setCell ⟨w4.heap.size, 0, none⟩ (.bool n1)).setCell ⟨w4.heap.size, 1, none⟩ (.int .i64 v1)) := own_set HOy8.out
  generalize ((w8.setCell ⟨w4.heap.size, 0, none⟩ (.bool n1)).setCell ⟨w4.heap.size, 1, none⟩ (.int .i64 v1)) = W9 at hB9 oa ox oy ⊢
  have HOa9 := Lib.hid oa
  have HOx9 := Lib.hid ox
  have HOy9 := Lib.hid oy
  have HB9 := Lib.hid hB9
  clear hB9 oa ox oy
  refine (roundN_calls ⟨false, va⟩ _).mono ?_
  rintro e w10 ⟨rfl, hb⟩
  rw [HD2.out]
  have HB10 := Lib.hid (below_then HB9.out hb)
  have HOa10 := Lib.hid (HOa9.out.below hb)
  have HOx10 := Lib.hid (HOx9.out.below hb)
  have HOy10 := Lib.hid (HOy9.out.below hb)
  clear hb
  have cal := HOa10.out.lt
  obtain ⟨ca0, ca1, caf, cag⟩ := HOa10.out
  have cxl := HOx10.out.lt
  obtain ⟨cx0, cx1, cxf, cxg⟩ := HOx10.out
  have cyl := HOy10.out.lt
  obtain ⟨cy0, cy1, cyf, cyg⟩ := HOy10.out
  go_wp2_with fail
  clear ca0 ca1 caf cag cal
  clear cx0 cx1 cxf cxg cxl
  clear cy0 cy1 cyf cyg cyl
  have hB11 : RowKit.Below w.heap.size w ((w10.setCell ⟨w2.heap.size, 0, none⟩ (.bool n2)).setCell ⟨w2.heap.size, 1, none⟩ (.int .i64 v2)) := (HB10.out.setCell (by simp; omega) _).setCell (by simp; omega) _
  have oa : Own2 (w.heap.size) (.bool false) (.int .i64 va) ((w10.setCell ⟨w2.heap.size, 0, none⟩ (.bool n2)).setCell ⟨w2.heap.size, 1, none⟩ (.int .i64 v2)) := own_other HOa10.out HOx10.out (by omega)
  have ox : Own2 (w2.heap.size) (.bool n2) (.int .i64 v2) ((w10.setCell ⟨w2.heap.size, 0, none⟩ (.bool n2)).setCell ⟨w2.heap.size, 1, none⟩ (.int .i64 v2)) := own_set HOx10.out
  have oy : Own2 (w4.heap.size) (.bool n1) (.int .i64 v1) ((w10.setCell ⟨w2.heap.size, 0, none⟩ (.bool n2)).setCell ⟨w2.heap.size, 1, none⟩ (.int .i64 v2)) := own_other HOy10.out HOx10.out (by omega)
  generalize ((w10.setCell ⟨w2.heap.size, 0, none⟩ (.bool n2)).setCell ⟨w2.heap.size, 1, none⟩ (.int .i64 v2)) = W11 at hB11 oa ox oy ⊢
  have HOa11 := Lib.hid oa
  have HOx11 := Lib.hid ox
  have HOy11 := Lib.hid oy
  have HB11 := Lib.hid hB11
  clear hB11 oa ox oy
  refine (refRoundN_calls ⟨false, va⟩ _).mono ?_
  rintro e w12 ⟨rfl, hb⟩
  rw [HD2.out]
  have HB12 := Lib.hid (below_then HB11.out hb)
  have HOa12 := Lib.hid (HOa11.out.below hb)
  have HOx12 := Lib.hid (HOx11.out.below hb)
  have HOy12 := Lib.hid (HOy11.out.below hb)
  clear hb
  have cal := HOa12.out.lt
  obtain ⟨ca0, ca1, caf, cag⟩ := HOa12.out
  have cxl := HOx12.out.lt
  obtain ⟨cx0, cx1, cxf, cxg⟩ := HOx12.out
  have cyl := HOy12.out.lt
  obtain ⟨cy0, cy1, cyf, cyg⟩ := HOy12.out
  go_wp2_with fail
  clear ca0 ca1 caf cag cal
  clear cx0 cx1 cxf cxg cxl
  clear cy0 cy1 cyf cyg cyl
  have hB13 : RowKit.Below w.heap.size w ((w12.setCell ⟨w4.heap.size, 0, none⟩ (.bool n2)).setCell ⟨w4.heap.size, 1, none⟩ (.int .i64 v2)) := (HB12.out.setCell (by simp; omega) _).setCell (by simp; omega) _
  have oa : Own2 (w.heap.size) (.bool false) (.int .i64 va) ((w12.setCell ⟨w4.heap.size, 0, none⟩ (.bool n2)).setCell ⟨w4.heap.size, 1, none⟩ (.int .i64 v2)) := own_other HOa12.out HOy12.out (by omega)
  have ox : Own2 (w2.heap.size) (.bool n2) (.int .i64 v2) ((w12.setCell ⟨w4.heap.size, 0, none⟩ (.bool n2)).setCell ⟨w4.heap.size, 1, none⟩ (.int .i64 v2)) := own_other HOx12.out HOy12.out (by omega)
  have oy : Own2 (w4.heap.size) (.bool n2) (.int .i64 v2) ((w12.setCell ⟨w4.heap.size, 0, none⟩ (.bool n2)).setCell ⟨w4.heap.size, 1, none⟩ (.int .i64 v2)) := own_set HOy12.out
  generalize ((w12.setCell ⟨w4.heap.size, 0, none⟩ (.bool n2)).setCell ⟨w4.heap.size, 1, none⟩ (.int .i64 v2)) = W13 at hB13 oa ox oy ⊢
  have HOa13 := Lib.hid oa
  have HOx13 := Lib.hid ox
  have HOy13 := Lib.hid oy
  have HB13 := Lib.hid hB13
  clear hB13 oa ox oy
  refine (of_calls m _ hm0 hm1).mono ?_
  rintro e w14 ⟨rfl, hb⟩
  rw [HD3.out]
  have HB14 := Lib.hid (below_then HB13.out hb)
  have HOa14 := Lib.hid (HOa13.out.below hb)
  have HOx14 := Lib.hid (HOx13.out.below hb)
  have HOy14 := Lib.hid (HOy13.out.below hb)
  clear hb
  have cal := HOa14.out.lt
  obtain ⟨ca0, ca1, caf, cag⟩ := HOa14.out
  have cxl := HOx14.out.lt
  obtain ⟨cx0, cx1, cxf, cxg⟩ := HOx14.out
  have cyl := HOy14.out.lt
  obtain ⟨cy0, cy1, cyf, cyg⟩ := HOy14.out
  go_wp2_with fail
  clear ca0 ca1 caf cag cal
  clear cx0 cx1 cxf cxg cxl
  clear cy0 cy1 cyf cyg cyl
  have hB15 : RowKit.Below w.heap.size w ((w14.setCell ⟨w2.heap.size, 0, none⟩ (.bool n3)).setCell ⟨w2.heap.size, 1, none⟩ (.int .i64 v3)) := (HB14.out.setCell (by simp; omega) _).setCell (by simp; omega) _
  have oa : Own2 (w.heap.size) (.bool false) (.int .i64 va) ((w14.setCell ⟨w2.heap.size, 0, none⟩ (.bool n3)).setCell ⟨w2.heap.size, 1, none⟩ (.int .i64 v3)) := own_other HOa14.out HOx14.out (by omega)
  have ox : Own2 (w2.heap.size) (.bool n3) (.int .i64 v3) ((w14.setCell ⟨w2.heap.size, 0, none⟩ (.bool n3)).setCell ⟨w2.heap.size, 1, none⟩ (.int .i64 v3)) := own_set HOx14.out
  have oy : Own2 (w4.heap.size) (.bool n2) (.int .i64 v2) ((w14.setCell ⟨w2.heap.size, 0, none⟩ (.bool n3)).setCell ⟨w2.heap.size, 1, none⟩ (.int .i64 v3)) := own_other HOy14.out HOx14.out (by omega)
  generalize ((w14.setCell ⟨w2.heap.size, 0, none⟩ (.bool n3)).setCell ⟨w2.heap.size, 1, none⟩ (.int .i64 v3)) = W15 at hB15 oa ox oy ⊢
  have HOa15 := Lib.hid oa
  have HOx15 := Lib.hid ox
  have HOy15 := Lib.hid oy
  have HB15 := Lib.hid hB15
  clear hB15 oa ox oy
  refine (refOf_calls m _ hm0 hm1).mono ?_
  rintro e w16 ⟨rfl, hb⟩
  rw [HD3.out]
  have HB16 := Lib.hid (below_then HB15.out hb)
  have HOa16 := Lib.hid (HOa15.out.below hb)
  have HOx16 := Lib.hid (HOx15.out.below hb)
  have HOy16 := Lib.hid (HOy15.out.below hb)
  clear hb
  have cal := HOa16.out.lt
  obtain ⟨ca0, ca1, caf, cag⟩ := HOa16.out
  have cxl := HOx16.out.lt
  obtain ⟨cx0, cx1, cxf, cxg⟩ := HOx16.out
  have cyl := HOy16.out.lt
  obtain ⟨cy0, cy1, cyf, cyg⟩ := HOy16.out
  go_wp2_with fail
  clear ca0 ca1 caf cag cal
  clear cx0 cx1 cxf cxg cxl
  clear cy0 cy1 cyf cyg cyl
  have hB17 : RowKit.Below w.heap.size w ((w16.setCell ⟨w4.heap.size, 0, none⟩ (.bool n3)).setCell ⟨w4.heap.size, 1, none⟩ (.int .i64 v3)) := (HB16.out.setCell (by simp; omega) _).setCell (by simp; omega) _
  have oa : Own2 (w.heap.size) (.bool false) (.int .i64 va) ((w16.setCell ⟨w4.heap.size, 0, none⟩ (.bool n3)).setCell ⟨w4.heap.size, 1, none⟩ (.int .i64 v3)) := own_other HOa16.out HOy16.out (by omega)
  have ox : Own2 (w2.heap.size) (.bool n3) (.int .i64 v3) ((w16.setCell ⟨w4.heap.size, 0, none⟩ (.bool n3)).setCell ⟨w4.heap.size, 1, none⟩ (.int .i64 v3)) := own_other HOx16.out HOy16.out (by omega)
  have oy : Own2 (w4.heap.size) (.bool n3) (.int .i64 v3) ((w16.setCell ⟨w4.heap.size, 0, none⟩ (.bool n3)).setCell ⟨w4.heap.size, 1, none⟩ (.int .i64 v3)) := own_set HOy16.out
  generalize ((w16.setCell ⟨w4.heap.size, 0, none⟩ (.bool n3)).setCell ⟨w4.heap.size, 1, none⟩ (.int .i64 v3)) = W17 at hB17 oa ox oy ⊢
  have HOa17 := Lib.hid oa
  have HOx17 := Lib.hid ox
  have HOy17 := Lib.hid oy
  have HB17 := Lib.hid hB17
  clear hB17 oa ox oy
  refine (neg_calls ⟨false, va⟩ _).mono ?_
  rintro e w18 ⟨rfl, hb⟩
  have HB18 := Lib.hid (below_then HB17.out hb)
  have HOa18 := Lib.hid (HOa17.out.below hb)
  have HOx18 := Lib.hid (HOx17.out.below hb)
  have HOy18 := Lib.hid (HOy17.out.below hb)
  clear hb
  rw [show numV (negP ⟨false, va⟩) = .agg #[.bool false, .int .i64 (-va)] from HNG2.out]
  have cal := HOa18.out.lt
  obtain ⟨ca0, ca1, caf, cag⟩ := HOa18.out
  have cxl := HOx18.out.lt
  obtain ⟨cx0, cx1, cxf, cxg⟩ := HOx18.out
  have cyl := HOy18.out.lt
  obtain ⟨cy0, cy1, cyf, cyg⟩ := HOy18.out
  go_wp2_with fail
  clear ca0 ca1 caf cag cal
  clear cx0 cx1 cxf cxg cxl
  clear cy0 cy1 cyf cyg cyl
  have hB19 : RowKit.Below w.heap.size w (w18.alloc (.cells #[.bool false, .int .i64 (-va)] 23)) := HB18.out.alloc HB18.out.size _
  have oa : Own2 (w.heap.size) (.bool false) (.int .i64 va) (w18.alloc (.cells #[.bool false, .int .i64 (-va)] 23)) := own_alloc HOa18.out _
  have ox : Own2 (w2.heap.size) (.bool n3) (.int .i64 v3) (w18.alloc (.cells #[.bool false, .int .i64 (-va)] 23)) := own_alloc HOx18.out _
  have oy : Own2 (w4.heap.size) (.bool n3) (.int .i64 v3) (w18.alloc (.cells #[.bool false, .int .i64 (-va)] 23)) := own_alloc HOy18.out _
  have oz : Own2 (w18.heap.size) (.bool false) (.int .i64 (-va)) (w18.alloc (.cells #[.bool false, .int .i64 (-va)] 23)) := own_new _ _ _ _
  have laz := HOa18.out.lt
  have lxz := HOx18.out.lt
  have lyz := HOy18.out.lt
  generalize (w18.alloc (.cells #[.bool false, .int .i64 (-va)] 23)) = W19 at hB19 oa ox oy oz ⊢
  have HOa19 := Lib.hid oa
  have HOx19 := Lib.hid ox
  have HOy19 := Lib.hid oy
  have HOz19 := Lib.hid oz
  have HB19 := Lib.hid hB19
  clear hB19 oa ox oy oz
  have ka0 := @cell_regrown W19 ⟨w.heap.size, 0, none⟩ (.bool false) HOa19.out.1
  have ka1 := @cell_regrown W19 ⟨w.heap.size, 1, none⟩ (.int .i64 va) HOa19.out.2.1
  have kx0 := @cell_regrown W19 ⟨w2.heap.size, 0, none⟩ (.bool n3) HOx19.out.1
  have kx1 := @cell_regrown W19 ⟨w2.heap.size, 1, none⟩ (.int .i64 v3) HOx19.out.2.1
  have ky0 := @cell_regrown W19 ⟨w4.heap.size, 0, none⟩ (.bool n3) HOy19.out.1
  have ky1 := @cell_regrown W19 ⟨w4.heap.size, 1, none⟩ (.int .i64 v3) HOy19.out.2.1
  have kz0 := @cell_regrown W19 ⟨w18.heap.size, 0, none⟩ (.bool false) HOz19.out.1
  have kz1 := @cell_regrown W19 ⟨w18.heap.size, 1, none⟩ (.int .i64 (-va)) HOz19.out.2.1
  have qt : ∀ d os, Calls Tryd.prog 34 #[.agg #[.bool false, .int .i64 va]] (grow (redrawn W19 d) os) fun e w'' => e = .returned (.string st) ∧ ∃ p : Regrown, w'' = grow (redrawn W19 p.d) p.os := fun d os => Calls.regrown_of (HT1.out _ (HL.out.below (below_then HB19.out (below_regrown W19 d os))))
  have qr : ∀ d os, Calls Tryd.prog 35 #[.agg #[.bool false, .int .i64 va]] (grow (redrawn W19 d) os) fun e w'' => e = .returned (.string st) ∧ ∃ p : Regrown, w'' = grow (redrawn W19 p.d) p.os := fun d os => Calls.regrown_of (HT2.out _)
  have qo : ∀ d os, Calls Tryd.prog 36 #[.agg #[.bool false, .int .i64 va]] (grow (redrawn W19 d) os) fun e w'' => e = .returned (.bool false) ∧ ∃ p : Regrown, w'' = grow (redrawn W19 p.d) p.os := fun d os => Calls.regrown_of (HO.out _)
  refine wp_region_quiet_below (by kernel_rfl) (by kernel_rfl) ?_
  repeat (go_big_quiet_step (first | with_reducible exact qt _ _ | with_reducible exact qr _ _ | with_reducible exact qo _ _))
  refine wpQuiet_nil ?_
  intro _ hw'
  obtain ⟨⟨dq, osq⟩, hw''⟩ := hw'
  subst hw''
  clear ka0 ka1 kx0 kx1 ky0 ky1 kz0 kz1 qt qr qo
  have HBQ := Lib.hid (below_then HB19.out (below_regrown W19 dq osq))
  go_wp2
  go_ret
  exact ⟨rfl, HBQ.out⟩

theorem law_one (a : Num) (m : Int) (w : World) (hm0 : -9223372036854775808 ≤ m) (hm1 : m ≤ 9223372036854775807) (hL : Laid w) : Calls Tryd.prog 4 #[numV a, .int .i64 m] w (Leaves (.bool true) w) := by
  cases hq : oddN a with
  | true => exact deciOne_odd a m w hL hm0 hm1 hq
  | false => exact deciOne_known a m w hL hm0 hm1 hq

end Go.Proofs.YteddnomneeonhaaDoor
