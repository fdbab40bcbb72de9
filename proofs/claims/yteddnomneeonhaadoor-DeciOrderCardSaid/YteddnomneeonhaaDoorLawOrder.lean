/-
  The law of DeciOrder: of two numbers just one is less, or they are equal; what is added to both leaves that; floor isn't above, ceiling not below. Condition: the library's tables hold what their initialisers lay.
-/
import Derived.Test.YteddnomneeonhaaDoorAwake
import Derived.Test.YteddnomneeonhaaDoorLawBase
import Derived.Test.YteddnomneeonhaaDoorFloors
import Derived.Test.YteddnomneeonhaaDoorRefNum
namespace Go.Proofs.YteddnomneeonhaaDoor
open Go.RowKit Go.Lib Go.Sort

theorem floor_known {a : Num} (h : oddN a = false) : ∃ l : Int, floorP a = (⟨false, l⟩, 0) ∧ lessP a ⟨false, l⟩ = false := by
  obtain ⟨_, h0, h1⟩ := oddN_false.1 h
  have e : floorP a = (⟨false, floorI a.v⟩, 0) := by
    unfold floorP
    rw [h, if_neg (by decide), fit_ok (outB_false.2 (by unfold floorI; omega))]
  exact ⟨_, e, floor_below h e⟩
theorem ceil_known {a : Num} (h : oddN a = false) : ∃ l : Int, ceilP a = (⟨false, l⟩, 0) ∧ lessP ⟨false, l⟩ a = false := by
  obtain ⟨_, h0, h1⟩ := oddN_false.1 h
  have e : ceilP a = (⟨false, -floorI (-a.v)⟩, 0) := by
    unfold ceilP
    rw [h, if_neg (by decide), fit_ok (outB_false.2 (by unfold floorI; omega))]
  exact ⟨_, e, ceil_above h e⟩
theorem order_cases {a b : Num} (ha : oddN a = false) (hb : oddN b = false) : (lessP a b = true ∧ lessP b a = false ∧ equalP a b = false) ∨ (lessP a b = false ∧ lessP b a = true ∧ equalP a b = false) ∨ (lessP a b = false ∧ lessP b a = false ∧ equalP a b = true) := by
  rw [less_known ha hb, less_known hb ha, equal_known ha hb]
  simp only [decide_eq_true_eq, decide_eq_false_iff_not]
  omega

set_option maxRecDepth 100000 in
set_option maxHeartbeats 4000000 in
theorem order_odd (a b c : Num) (w : World) (hL : Laid w) (hq : odd2 a b = true) : Calls Tryd.prog 9 #[numV a, numV b, numV c] w (Leaves (.bool true) w) := by
  have HL := Lib.hid hL
  have H1 : Hid (lessP a b = false) := Lib.hid (odd_less hq)
  have H2 : Hid (lessP b a = false) := Lib.hid (odd_less (by rw [odd2_comm]; exact hq))
  have H3 : Hid (equalP a b = false) := Lib.hid (odd_equal hq)
  have HQ := Lib.hid hq
  obtain ⟨na, va⟩ := a
  obtain ⟨nb, vb⟩ := b
  obtain ⟨nc, vc⟩ := c
  obtain ⟨oa, hoa⟩ : ∃ z, oddN ⟨na, va⟩ = z := ⟨_, rfl⟩
  have HOA := Lib.hid hoa
  have HOB : Hid (oa = false → oddN ⟨nb, vb⟩ = true) := Lib.hid fun h => by have := HQ.out; unfold odd2 at this; rw [hoa, h] at this; exact this
  unfold numV
  clear hL hq hoa
  go_enter Tryd.func9, Tryd.ntmps9
  go_wp2_with fail
  have hB0 : RowKit.Below w.heap.size w (((w.alloc (.cells #[.bool na, .int .i64 va] 23)).alloc (.cells #[.bool nb, .int .i64 vb] 23)).alloc (.cells #[.bool nc, .int .i64 vc] 23)) := ((((Below.refl _ w).alloc (Nat.le_refl _) _).alloc (by simp) _).alloc (by simp; omega) _)
  have oa : Own2 (w.heap.size) (.bool na) (.int .i64 va) (((w.alloc (.cells #[.bool na, .int .i64 va] 23)).alloc (.cells #[.bool nb, .int .i64 vb] 23)).alloc (.cells #[.bool nc, .int .i64 vc] 23)) := ⟨by go_simp, by go_simp, by go_simp, by go_simp⟩
  have ob : Own2 (w.heap.size + 1) (.bool nb) (.int .i64 vb) (((w.alloc (.cells #[.bool na, .int .i64 va] 23)).alloc (.cells #[.bool nb, .int .i64 vb] 23)).alloc (.cells #[.bool nc, .int .i64 vc] 23)) := ⟨by go_simp, by go_simp, by go_simp, by go_simp⟩
  have oc : Own2 (w.heap.size + 1 + 1) (.bool nc) (.int .i64 vc) (((w.alloc (.cells #[.bool na, .int .i64 va] 23)).alloc (.cells #[.bool nb, .int .i64 vb] 23)).alloc (.cells #[.bool nc, .int .i64 vc] 23)) := ⟨by go_simp, by go_simp, by go_simp, by go_simp⟩
  generalize (((w.alloc (.cells #[.bool na, .int .i64 va] 23)).alloc (.cells #[.bool nb, .int .i64 vb] 23)).alloc (.cells #[.bool nc, .int .i64 vc] 23)) = W0 at hB0 oa ob oc ⊢
  have HOa0 := Lib.hid oa
  have HOb0 := Lib.hid ob
  have HOc0 := Lib.hid oc
  have HB0 := Lib.hid hB0
  clear hB0 oa ob oc
  refine (awake_calls W0 (HL.out.below HB0.out)).mono ?_
  rintro e w1 ⟨rfl, hb⟩
  have HB1 := Lib.hid (below_then HB0.out hb)
  have HOa1 := Lib.hid (HOa0.out.below hb)
  have HOb1 := Lib.hid (HOb0.out.below hb)
  have HOc1 := Lib.hid (HOc0.out.below hb)
  clear hb
  have cal := HOa1.out.lt
  obtain ⟨ca0, ca1, caf, cag⟩ := HOa1.out
  have cbl := HOb1.out.lt
  obtain ⟨cb0, cb1, cbf, cbg⟩ := HOb1.out
  have ccl := HOc1.out.lt
  obtain ⟨cc0, cc1, ccf, ccg⟩ := HOc1.out
  go_wp2_with fail
  clear ca0 ca1 caf cag cal
  clear cb0 cb1 cbf cbg cbl
  clear cc0 cc1 ccf ccg ccl
  refine (refOdd_calls ⟨na, va⟩ _).mono ?_
  rintro e w2 ⟨rfl, hb⟩
  rw [HOA.out]
  have HB2 := Lib.hid (below_then HB1.out hb)
  have HOa2 := Lib.hid (HOa1.out.below hb)
  have HOb2 := Lib.hid (HOb1.out.below hb)
  have HOc2 := Lib.hid (HOc1.out.below hb)
  clear hb
  cases oa with
  | true =>
    have cal := HOa2.out.lt
    obtain ⟨ca0, ca1, caf, cag⟩ := HOa2.out
    have cbl := HOb2.out.lt
    obtain ⟨cb0, cb1, cbf, cbg⟩ := HOb2.out
    have ccl := HOc2.out.lt
    obtain ⟨cc0, cc1, ccf, ccg⟩ := HOc2.out
    go_wp2_with fail
    clear ca0 ca1 caf cag cal
    clear cb0 cb1 cbf cbg cbl
    clear cc0 cc1 ccf ccg ccl
    refine (less_calls ⟨na, va⟩ ⟨nb, vb⟩ _).mono ?_
    rintro e w3 ⟨rfl, hb⟩
    rw [H1.out]
    have HB3 := Lib.hid (below_then HB2.out hb)
    have HOa3 := Lib.hid (HOa2.out.below hb)
    have HOb3 := Lib.hid (HOb2.out.below hb)
    have HOc3 := Lib.hid (HOc2.out.below hb)
    clear hb
    have cal := HOa3.out.lt
    obtain ⟨ca0, ca1, caf, cag⟩ := HOa3.out
    have cbl := HOb3.out.lt
    obtain ⟨cb0, cb1, cbf, cbg⟩ := HOb3.out
    have ccl := HOc3.out.lt
    obtain ⟨cc0, cc1, ccf, ccg⟩ := HOc3.out
    go_wp2_with fail
    clear ca0 ca1 caf cag cal
    clear cb0 cb1 cbf cbg cbl
    clear cc0 cc1 ccf ccg ccl
    refine (less_calls ⟨nb, vb⟩ ⟨na, va⟩ _).mono ?_
    rintro e w4 ⟨rfl, hb⟩
    rw [H2.out]
    have HB4 := Lib.hid (below_then HB3.out hb)
    have HOa4 := Lib.hid (HOa3.out.below hb)
    have HOb4 := Lib.hid (HOb3.out.below hb)
    have HOc4 := Lib.hid (HOc3.out.below hb)
    clear hb
    have cal := HOa4.out.lt
    obtain ⟨ca0, ca1, caf, cag⟩ := HOa4.out
    have cbl := HOb4.out.lt
    obtain ⟨cb0, cb1, cbf, cbg⟩ := HOb4.out
    have ccl := HOc4.out.lt
    obtain ⟨cc0, cc1, ccf, ccg⟩ := HOc4.out
    go_wp2_with fail
    clear ca0 ca1 caf cag cal
    clear cb0 cb1 cbf cbg cbl
    clear cc0 cc1 ccf ccg ccl
    refine (equal_calls ⟨na, va⟩ ⟨nb, vb⟩ _).mono ?_
    rintro e w5 ⟨rfl, hb⟩
    rw [H3.out]
    have HB5 := Lib.hid (below_then HB4.out hb)
    have HOa5 := Lib.hid (HOa4.out.below hb)
    have HOb5 := Lib.hid (HOb4.out.below hb)
    have HOc5 := Lib.hid (HOc4.out.below hb)
    clear hb
    go_wp2
    go_ret
    exact ⟨rfl, HB5.out⟩
  | false =>
    have HOB2 := Lib.hid (HOB.out rfl)
    have cal := HOa2.out.lt
    obtain ⟨ca0, ca1, caf, cag⟩ := HOa2.out
    have cbl := HOb2.out.lt
    obtain ⟨cb0, cb1, cbf, cbg⟩ := HOb2.out
    have ccl := HOc2.out.lt
    obtain ⟨cc0, cc1, ccf, ccg⟩ := HOc2.out
    go_wp2_with fail
    clear ca0 ca1 caf cag cal
    clear cb0 cb1 cbf cbg cbl
    clear cc0 cc1 ccf ccg ccl
    refine (refOdd_calls ⟨nb, vb⟩ _).mono ?_
    rintro e w3 ⟨rfl, hb⟩
    rw [HOB2.out]
    have HB3 := Lib.hid (below_then HB2.out hb)
    have HOa3 := Lib.hid (HOa2.out.below hb)
    have HOb3 := Lib.hid (HOb2.out.below hb)
    have HOc3 := Lib.hid (HOc2.out.below hb)
    clear hb
    have cal := HOa3.out.lt
    obtain ⟨ca0, ca1, caf, cag⟩ := HOa3.out
    have cbl := HOb3.out.lt
    obtain ⟨cb0, cb1, cbf, cbg⟩ := HOb3.out
    have ccl := HOc3.out.lt
    obtain ⟨cc0, cc1, ccf, ccg⟩ := HOc3.out
    go_wp2_with fail
    clear ca0 ca1 caf cag cal
    clear cb0 cb1 cbf cbg cbl
    clear cc0 cc1 ccf ccg ccl
    refine (less_calls ⟨na, va⟩ ⟨nb, vb⟩ _).mono ?_
    rintro e w4 ⟨rfl, hb⟩
    rw [H1.out]
    have HB4 := Lib.hid (below_then HB3.out hb)
    have HOa4 := Lib.hid (HOa3.out.below hb)
    have HOb4 := Lib.hid (HOb3.out.below hb)
    have HOc4 := Lib.hid (HOc3.out.below hb)
    clear hb
    have cal := HOa4.out.lt
    obtain ⟨ca0, ca1, caf, cag⟩ := HOa4.out
    have cbl := HOb4.out.lt
    obtain ⟨cb0, cb1, cbf, cbg⟩ := HOb4.out
    have ccl := HOc4.out.lt
    obtain ⟨cc0, cc1, ccf, ccg⟩ := HOc4.out
    go_wp2_with fail
    clear ca0 ca1 caf cag cal
    clear cb0 cb1 cbf cbg cbl
    clear cc0 cc1 ccf ccg ccl
    refine (less_calls ⟨nb, vb⟩ ⟨na, va⟩ _).mono ?_
    rintro e w5 ⟨rfl, hb⟩
    rw [H2.out]
    have HB5 := Lib.hid (below_then HB4.out hb)
    have HOa5 := Lib.hid (HOa4.out.below hb)
    have HOb5 := Lib.hid (HOb4.out.below hb)
    have HOc5 := Lib.hid (HOc4.out.below hb)
    clear hb
    have cal := HOa5.out.lt
    obtain ⟨ca0, ca1, caf, cag⟩ := HOa5.out
    have cbl := HOb5.out.lt
    obtain ⟨cb0, cb1, cbf, cbg⟩ := HOb5.out
    have ccl := HOc5.out.lt
    obtain ⟨cc0, cc1, ccf, ccg⟩ := HOc5.out
    go_wp2_with fail
    clear ca0 ca1 caf cag cal
    clear cb0 cb1 cbf cbg cbl
    clear cc0 cc1 ccf ccg ccl
    refine (equal_calls ⟨na, va⟩ ⟨nb, vb⟩ _).mono ?_
    rintro e w6 ⟨rfl, hb⟩
    rw [H3.out]
    have HB6 := Lib.hid (below_then HB5.out hb)
    have HOa6 := Lib.hid (HOa5.out.below hb)
    have HOb6 := Lib.hid (HOb5.out.below hb)
    have HOc6 := Lib.hid (HOc5.out.below hb)
    clear hb
    go_wp2
    go_ret
    exact ⟨rfl, HB6.out⟩

set_option maxRecDepth 100000 in
set_option maxHeartbeats 8000000 in
theorem order_known (a b c : Num) (w : World) (hL : Laid w) (ha : oddN a = false) (hb : oddN b = false) : Calls Tryd.prog 9 #[numV a, numV b, numV c] w (Leaves (.bool true) w) := by
  have HL := Lib.hid hL
  have hcases := order_cases ha hb
  obtain ⟨l, hl, hll⟩ := floor_known ha
  obtain ⟨h, hh, hhl⟩ := ceil_known ha
  obtain ⟨pl, hpl⟩ : ∃ z, lessP a b = z := ⟨_, rfl⟩
  obtain ⟨pm, hpm⟩ : ∃ z, lessP b a = z := ⟨_, rfl⟩
  obtain ⟨pe, hpe⟩ : ∃ z, equalP a b = z := ⟨_, rfl⟩
  obtain ⟨oc, hoc⟩ : ∃ z, oddN c = z := ⟨_, rfl⟩
  obtain ⟨⟨⟨nx, vx⟩, e⟩, hx⟩ : ∃ d, addP a c = d := ⟨_, rfl⟩
  obtain ⟨⟨⟨ny, vy⟩, f⟩, hy⟩ : ∃ d, addP b c = d := ⟨_, rfl⟩
  obtain ⟨pxy, hpxy⟩ : ∃ z, lessP ⟨nx, vx⟩ ⟨ny, vy⟩ = z := ⟨_, rfl⟩
  have hxy : oc = false → e = 0 → f = 0 → pxy = pl := fun h1 h2 h3 => by
    rw [← hpxy, ← hpl]
    exact less_add ha hb (hoc.trans h1) (by rw [hx, h2]) (by rw [hy, h3])
  rw [hpl, hpm, hpe] at hcases
  obtain ⟨na, va⟩ := a
  obtain ⟨nb, vb⟩ := b
  obtain ⟨nc, vc⟩ := c
  have HOA := Lib.hid ha
  have HOB := Lib.hid hb
  have HOC := Lib.hid hoc
  have HPL := Lib.hid hpl
  have HPM := Lib.hid hpm
  have HPE := Lib.hid hpe
  have HPXY := Lib.hid hpxy
  have HXV : Hid (numC (addP ⟨na, va⟩ ⟨nc, vc⟩) = .tuple #[.agg #[.bool nx, .int .i64 vx], .int .i64 e]) := Lib.hid (by rw [hx]; rfl)
  have HYV : Hid (numC (addP ⟨nb, vb⟩ ⟨nc, vc⟩) = .tuple #[.agg #[.bool ny, .int .i64 vy], .int .i64 f]) := Lib.hid (by rw [hy]; rfl)
  have HLV : Hid (numC (floorP ⟨na, va⟩) = .tuple #[.agg #[.bool false, .int .i64 l], .int .i64 0]) := Lib.hid (by rw [hl]; rfl)
  have HHV : Hid (numC (ceilP ⟨na, va⟩) = .tuple #[.agg #[.bool false, .int .i64 h], .int .i64 0]) := Lib.hid (by rw [hh]; rfl)
  have HLL := Lib.hid hll
  have HHL := Lib.hid hhl
  have HXY := Lib.hid hxy
  unfold numV
  clear hL ha hb hl hll hh hhl hpl hpm hpe hoc hx hy hpxy hxy
  have H4 : Hid (oc = true ∨ (oc = false ∧ (e == 0) = false) ∨ (oc = false ∧ e = 0 ∧ (f == 0) = false) ∨ (oc = false ∧ e = 0 ∧ f = 0)) := Lib.hid (by
    cases oc with
    | true => exact Or.inl rfl
    | false =>
      by_cases he : e = 0
      · by_cases hf : f = 0
        · exact Or.inr (Or.inr (Or.inr ⟨rfl, he, hf⟩))
        · exact Or.inr (Or.inr (Or.inl ⟨rfl, he, by simpa using hf⟩))
      · exact Or.inr (Or.inl ⟨rfl, by simpa using he⟩))
  have split4 : (pl = true ∧ pm = false ∧ pe = false) ∨ (pl = false ∧ pm = true ∧ pe = false) ∨ (pl = false ∧ pm = false ∧ pe = true) := hcases
  clear hcases
  go_enter Tryd.func9, Tryd.ntmps9
  go_wp2_with fail
  have hB0 : RowKit.Below w.heap.size w (((w.alloc (.cells #[.bool na, .int .i64 va] 23)).alloc (.cells #[.bool nb, .int .i64 vb] 23)).alloc (.cells #[.bool nc, .int .i64 vc] 23)) := ((((Below.refl _ w).alloc (Nat.le_refl _) _).alloc (by simp) _).alloc (by simp; omega) _)
  have oa : Own2 (w.heap.size) (.bool na) (.int .i64 va) (((w.alloc (.cells #[.bool na, .int .i64 va] 23)).alloc (.cells #[.bool nb, .int .i64 vb] 23)).alloc (.cells #[.bool nc, .int .i64 vc] 23)) := ⟨by go_simp, by go_simp, by go_simp, by go_simp⟩
  have ob : Own2 (w.heap.size + 1) (.bool nb) (.int .i64 vb) (((w.alloc (.cells #[.bool na, .int .i64 va] 23)).alloc (.cells #[.bool nb, .int .i64 vb] 23)).alloc (.cells #[.bool nc, .int .i64 vc] 23)) := ⟨by go_simp, by go_simp, by go_simp, by go_simp⟩
  have oc : Own2 (w.heap.size + 1 + 1) (.bool nc) (.int .i64 vc) (((w.alloc (.cells #[.bool na, .int .i64 va] 23)).alloc (.cells #[.bool nb, .int .i64 vb] 23)).alloc (.cells #[.bool nc, .int .i64 vc] 23)) := ⟨by go_simp, by go_simp, by go_simp, by go_simp⟩
  generalize (((w.alloc (.cells #[.bool na, .int .i64 va] 23)).alloc (.cells #[.bool nb, .int .i64 vb] 23)).alloc (.cells #[.bool nc, .int .i64 vc] 23)) = W0 at hB0 oa ob oc ⊢
  have HOa0 := Lib.hid oa
  have HOb0 := Lib.hid ob
  have HOc0 := Lib.hid oc
  have HB0 := Lib.hid hB0
  clear hB0 oa ob oc
  refine (awake_calls W0 (HL.out.below HB0.out)).mono ?_
  rintro e w1 ⟨rfl, hb⟩
  have HB1 := Lib.hid (below_then HB0.out hb)
  have HOa1 := Lib.hid (HOa0.out.below hb)
  have HOb1 := Lib.hid (HOb0.out.below hb)
  have HOc1 := Lib.hid (HOc0.out.below hb)
  clear hb
  have cal := HOa1.out.lt
  obtain ⟨ca0, ca1, caf, cag⟩ := HOa1.out
  have cbl := HOb1.out.lt
  obtain ⟨cb0, cb1, cbf, cbg⟩ := HOb1.out
  have ccl := HOc1.out.lt
  obtain ⟨cc0, cc1, ccf, ccg⟩ := HOc1.out
  go_wp2_with fail
  clear ca0 ca1 caf cag cal
  clear cb0 cb1 cbf cbg cbl
  clear cc0 cc1 ccf ccg ccl
  refine (refOdd_calls ⟨na, va⟩ _).mono ?_
  rintro e w2 ⟨rfl, hb⟩
  rw [HOA.out]
  have HB2 := Lib.hid (below_then HB1.out hb)
  have HOa2 := Lib.hid (HOa1.out.below hb)
  have HOb2 := Lib.hid (HOb1.out.below hb)
  have HOc2 := Lib.hid (HOc1.out.below hb)
  clear hb
  have cal := HOa2.out.lt
  obtain ⟨ca0, ca1, caf, cag⟩ := HOa2.out
  have cbl := HOb2.out.lt
  obtain ⟨cb0, cb1, cbf, cbg⟩ := HOb2.out
  have ccl := HOc2.out.lt
  obtain ⟨cc0, cc1, ccf, ccg⟩ := HOc2.out
  go_wp2_with fail
  clear ca0 ca1 caf cag cal
  clear cb0 cb1 cbf cbg cbl
  clear cc0 cc1 ccf ccg ccl
  refine (refOdd_calls ⟨nb, vb⟩ _).mono ?_
  rintro e w3 ⟨rfl, hb⟩
  rw [HOB.out]
  have HB3 := Lib.hid (below_then HB2.out hb)
  have HOa3 := Lib.hid (HOa2.out.below hb)
  have HOb3 := Lib.hid (HOb2.out.below hb)
  have HOc3 := Lib.hid (HOc2.out.below hb)
  clear hb
  have cal := HOa3.out.lt
  obtain ⟨ca0, ca1, caf, cag⟩ := HOa3.out
  have cbl := HOb3.out.lt
  obtain ⟨cb0, cb1, cbf, cbg⟩ := HOb3.out
  have ccl := HOc3.out.lt
  obtain ⟨cc0, cc1, ccf, ccg⟩ := HOc3.out
  go_wp2_with fail
  clear ca0 ca1 caf cag cal
  clear cb0 cb1 cbf cbg cbl
  clear cc0 cc1 ccf ccg ccl
  refine (less_calls ⟨na, va⟩ ⟨nb, vb⟩ _).mono ?_
  rintro e w4 ⟨rfl, hb⟩
  rw [HPL.out]
  have HB4 := Lib.hid (below_then HB3.out hb)
  have HOa4 := Lib.hid (HOa3.out.below hb)
  have HOb4 := Lib.hid (HOb3.out.below hb)
  have HOc4 := Lib.hid (HOc3.out.below hb)
  clear hb
  rcases split4 with ⟨rfl, rfl, rfl⟩ | ⟨rfl, rfl, rfl⟩ | ⟨rfl, rfl, rfl⟩
  all_goals
    have cal := HOa4.out.lt
    obtain ⟨ca0, ca1, caf, cag⟩ := HOa4.out
    have cbl := HOb4.out.lt
    obtain ⟨cb0, cb1, cbf, cbg⟩ := HOb4.out
    have ccl := HOc4.out.lt
    obtain ⟨cc0, cc1, ccf, ccg⟩ := HOc4.out
    go_wp2_with fail
    clear ca0 ca1 caf cag cal
    clear cb0 cb1 cbf cbg cbl
    clear cc0 cc1 ccf ccg ccl
    refine (less_calls ⟨nb, vb⟩ ⟨na, va⟩ _).mono ?_
    rintro e w5 ⟨rfl, hb⟩
    rw [HPM.out]
    have HB5 := Lib.hid (below_then HB4.out hb)
    have HOa5 := Lib.hid (HOa4.out.below hb)
    have HOb5 := Lib.hid (HOb4.out.below hb)
    have HOc5 := Lib.hid (HOc4.out.below hb)
    clear hb
    have cal := HOa5.out.lt
    obtain ⟨ca0, ca1, caf, cag⟩ := HOa5.out
    have cbl := HOb5.out.lt
    obtain ⟨cb0, cb1, cbf, cbg⟩ := HOb5.out
    have ccl := HOc5.out.lt
    obtain ⟨cc0, cc1, ccf, ccg⟩ := HOc5.out
    go_wp2_with fail
    clear ca0 ca1 caf cag cal
    clear cb0 cb1 cbf cbg cbl
    clear cc0 cc1 ccf ccg ccl
    refine (equal_calls ⟨na, va⟩ ⟨nb, vb⟩ _).mono ?_
    rintro e w6 ⟨rfl, hb⟩
    rw [HPE.out]
    have HB6 := Lib.hid (below_then HB5.out hb)
    have HOa6 := Lib.hid (HOa5.out.below hb)
    have HOb6 := Lib.hid (HOb5.out.below hb)
    have HOc6 := Lib.hid (HOc5.out.below hb)
    clear hb
    have cal := HOa6.out.lt
    obtain ⟨ca0, ca1, caf, cag⟩ := HOa6.out
    have cbl := HOb6.out.lt
    obtain ⟨cb0, cb1, cbf, cbg⟩ := HOb6.out
    have ccl := HOc6.out.lt
    obtain ⟨cc0, cc1, ccf, ccg⟩ := HOc6.out
    go_wp2_with fail
    clear ca0 ca1 caf cag cal
    clear cb0 cb1 cbf cbg cbl
    clear cc0 cc1 ccf ccg ccl
    refine (add_calls ⟨na, va⟩ ⟨nc, vc⟩ _).mono ?_
    rintro e w7 ⟨rfl, hb⟩
    rw [HXV.out]
    have HB7 := Lib.hid (below_then HB6.out hb)
    have HOa7 := Lib.hid (HOa6.out.below hb)
    have HOb7 := Lib.hid (HOb6.out.below hb)
    have HOc7 := Lib.hid (HOc6.out.below hb)
    clear hb
    have cal := HOa7.out.lt
    obtain ⟨ca0, ca1, caf, cag⟩ := HOa7.out
    have cbl := HOb7.out.lt
    obtain ⟨cb0, cb1, cbf, cbg⟩ := HOb7.out
    have ccl := HOc7.out.lt
    obtain ⟨cc0, cc1, ccf, ccg⟩ := HOc7.out
    go_wp2_with fail
    clear ca0 ca1 caf cag cal
    clear cb0 cb1 cbf cbg cbl
    clear cc0 cc1 ccf ccg ccl
    have hB8 : RowKit.Below w.heap.size w (w7.alloc (.cells #[.bool nx, .int .i64 vx] 23)) := HB7.out.alloc HB7.out.size _
    have oa : Own2 (w.heap.size) (.bool na) (.int .i64 va) (w7.alloc (.cells #[.bool nx, .int .i64 vx] 23)) := own_alloc HOa7.out _
    have ob : Own2 (w.heap.size + 1) (.bool nb) (.int .i64 vb) (w7.alloc (.cells #[.bool nx, .int .i64 vx] 23)) := own_alloc HOb7.out _
    have oc : Own2 (w.heap.size + 1 + 1) (.bool nc) (.int .i64 vc) (w7.alloc (.cells #[.bool nx, .int .i64 vx] 23)) := own_alloc HOc7.out _
    have ox : Own2 (w7.heap.size) (.bool nx) (.int .i64 vx) (w7.alloc (.cells #[.bool nx, .int .i64 vx] 23)) := own_new _ _ _ _
    have lax := HOa7.out.lt
    have lbx := HOb7.out.lt
    have lcx := HOc7.out.lt
    generalize (w7.alloc (.cells #[.bool nx, .int .i64 vx] 23)) = W8 at hB8 oa ob oc ox ⊢
    have HOa8 := Lib.hid oa
    have HOb8 := Lib.hid ob
    have HOc8 := Lib.hid oc
    have HOx8 := Lib.hid ox
    have HB8 := Lib.hid hB8
    clear hB8 oa ob oc ox
    refine (add_calls ⟨nb, vb⟩ ⟨nc, vc⟩ _).mono ?_
    rintro e w9 ⟨rfl, hb⟩
    rw [HYV.out]
    have HB9 := Lib.hid (below_then HB8.out hb)
    have HOa9 := Lib.hid (HOa8.out.below hb)
    have HOb9 := Lib.hid (HOb8.out.below hb)
    have HOc9 := Lib.hid (HOc8.out.below hb)
    have HOx9 := Lib.hid (HOx8.out.below hb)
    clear hb
    have cal := HOa9.out.lt
    obtain ⟨ca0, ca1, caf, cag⟩ := HOa9.out
    have cbl := HOb9.out.lt
    obtain ⟨cb0, cb1, cbf, cbg⟩ := HOb9.out
    have ccl := HOc9.out.lt
    obtain ⟨cc0, cc1, ccf, ccg⟩ := HOc9.out
    have cxl := HOx9.out.lt
    obtain ⟨cx0, cx1, cxf, cxg⟩ := HOx9.out
    go_wp2_with fail
    clear ca0 ca1 caf cag cal
    clear cb0 cb1 cbf cbg cbl
    clear cc0 cc1 ccf ccg ccl
    clear cx0 cx1 cxf cxg cxl
    have hB10 : RowKit.Below w.heap.size w (w9.alloc (.cells #[.bool ny, .int .i64 vy] 23)) := HB9.out.alloc HB9.out.size _
    have oa : Own2 (w.heap.size) (.bool na) (.int .i64 va) (w9.alloc (.cells #[.bool ny, .int .i64 vy] 23)) := own_alloc HOa9.out _
    have ob : Own2 (w.heap.size + 1) (.bool nb) (.int .i64 vb) (w9.alloc (.cells #[.bool ny, .int .i64 vy] 23)) := own_alloc HOb9.out _
    have oc : Own2 (w.heap.size + 1 + 1) (.bool nc) (.int .i64 vc) (w9.alloc (.cells #[.bool ny, .int .i64 vy] 23)) := own_alloc HOc9.out _
    have ox : Own2 (w7.heap.size) (.bool nx) (.int .i64 vx) (w9.alloc (.cells #[.bool ny, .int .i64 vy] 23)) := own_alloc HOx9.out _
    have oy : Own2 (w9.heap.size) (.bool ny) (.int .i64 vy) (w9.alloc (.cells #[.bool ny, .int .i64 vy] 23)) := own_new _ _ _ _
    have lay := HOa9.out.lt
    have lby := HOb9.out.lt
    have lcy := HOc9.out.lt
    have lxy := HOx9.out.lt
    generalize (w9.alloc (.cells #[.bool ny, .int .i64 vy] 23)) = W10 at hB10 oa ob oc ox oy ⊢
    have HOa10 := Lib.hid oa
    have HOb10 := Lib.hid ob
    have HOc10 := Lib.hid oc
    have HOx10 := Lib.hid ox
    have HOy10 := Lib.hid oy
    have HB10 := Lib.hid hB10
    clear hB10 oa ob oc ox oy
    rcases H4.out with rfl | ⟨rfl, he⟩ | ⟨rfl, rfl, hf⟩ | ⟨rfl, rfl, rfl⟩
    all_goals
      try (obtain rfl := HXY.out rfl rfl rfl)
      clear HXY H4
      have HZC : Hid (∀ W, Calls Tryd.prog 36 #[.agg #[.bool nc, .int .i64 vc]] W (Leaves (.bool (oddN ⟨nc, vc⟩)) W)) := Lib.hid fun W => refOdd_calls ⟨nc, vc⟩ W
      rw [HOC.out] at HZC
      have HZL : Hid (∀ W, Calls Tryd.prog 21 #[.agg #[.bool na, .int .i64 va], .agg #[.bool nb, .int .i64 vb]] W (Leaves (.bool (lessP ⟨na, va⟩ ⟨nb, vb⟩)) W)) := Lib.hid fun W => less_calls ⟨na, va⟩ ⟨nb, vb⟩ W
      rw [HPL.out] at HZL
      have HZX : Hid (∀ W, Calls Tryd.prog 21 #[.agg #[.bool nx, .int .i64 vx], .agg #[.bool ny, .int .i64 vy]] W (Leaves (.bool (lessP ⟨nx, vx⟩ ⟨ny, vy⟩)) W)) := Lib.hid fun W => less_calls ⟨nx, vx⟩ ⟨ny, vy⟩ W
      rw [HPXY.out] at HZX
      have ka0 := @cell_regrown W10 ⟨w.heap.size, 0, none⟩ (.bool na) HOa10.out.1
      have ka1 := @cell_regrown W10 ⟨w.heap.size, 1, none⟩ (.int .i64 va) HOa10.out.2.1
      have kb0 := @cell_regrown W10 ⟨w.heap.size + 1, 0, none⟩ (.bool nb) HOb10.out.1
      have kb1 := @cell_regrown W10 ⟨w.heap.size + 1, 1, none⟩ (.int .i64 vb) HOb10.out.2.1
      have kc0 := @cell_regrown W10 ⟨w.heap.size + 1 + 1, 0, none⟩ (.bool nc) HOc10.out.1
      have kc1 := @cell_regrown W10 ⟨w.heap.size + 1 + 1, 1, none⟩ (.int .i64 vc) HOc10.out.2.1
      have kx0 := @cell_regrown W10 ⟨w7.heap.size, 0, none⟩ (.bool nx) HOx10.out.1
      have kx1 := @cell_regrown W10 ⟨w7.heap.size, 1, none⟩ (.int .i64 vx) HOx10.out.2.1
      have ky0 := @cell_regrown W10 ⟨w9.heap.size, 0, none⟩ (.bool ny) HOy10.out.1
      have ky1 := @cell_regrown W10 ⟨w9.heap.size, 1, none⟩ (.int .i64 vy) HOy10.out.2.1
      have qo : ∀ d os, Calls Tryd.prog 36 #[.agg #[.bool nc, .int .i64 vc]] (grow (redrawn W10 d) os) fun e w'' => e = .returned (.bool _) ∧ ∃ p : Regrown, w'' = grow (redrawn W10 p.d) p.os := fun d os => Calls.regrown_of (HZC.out _)
      have ql : ∀ d os, Calls Tryd.prog 21 #[.agg #[.bool na, .int .i64 va], .agg #[.bool nb, .int .i64 vb]] (grow (redrawn W10 d) os) fun e w'' => e = .returned (.bool _) ∧ ∃ p : Regrown, w'' = grow (redrawn W10 p.d) p.os := fun d os => Calls.regrown_of (HZL.out _)
      have qx : ∀ d os, Calls Tryd.prog 21 #[.agg #[.bool nx, .int .i64 vx], .agg #[.bool ny, .int .i64 vy]] (grow (redrawn W10 d) os) fun e w'' => e = .returned (.bool _) ∧ ∃ p : Regrown, w'' = grow (redrawn W10 p.d) p.os := fun d os => Calls.regrown_of (HZX.out _)
      refine wp_region_quiet_below (by kernel_rfl) (by kernel_rfl) ?_
      repeat (go_big_quiet_step (first | with_reducible exact qo _ _ | with_reducible exact ql _ _ | with_reducible exact qx _ _))
      refine wpQuiet_nil ?_
      intro _ hw'
      obtain ⟨⟨dq, osq⟩, hw''⟩ := hw'
      subst hw''
      clear ka0 ka1 kb0 kb1 kc0 kc1 kx0 kx1 ky0 ky1 qo ql qx
      have HBQ := Lib.hid (below_then HB10.out (below_regrown W10 dq osq))
      have hB11 : RowKit.Below w.heap.size w (grow (redrawn W10 dq) osq) := HBQ.out
      have oa : Own2 (w.heap.size) (.bool na) (.int .i64 va) (grow (redrawn W10 dq) osq) := HOa10.out.below (below_regrown W10 dq osq)
      have ob : Own2 (w.heap.size + 1) (.bool nb) (.int .i64 vb) (grow (redrawn W10 dq) osq) := HOb10.out.below (below_regrown W10 dq osq)
      have oc : Own2 (w.heap.size + 1 + 1) (.bool nc) (.int .i64 vc) (grow (redrawn W10 dq) osq) := HOc10.out.below (below_regrown W10 dq osq)
      have ox : Own2 (w7.heap.size) (.bool nx) (.int .i64 vx) (grow (redrawn W10 dq) osq) := HOx10.out.below (below_regrown W10 dq osq)
      have oy : Own2 (w9.heap.size) (.bool ny) (.int .i64 vy) (grow (redrawn W10 dq) osq) := HOy10.out.below (below_regrown W10 dq osq)
      generalize (grow (redrawn W10 dq) osq) = W11 at hB11 oa ob oc ox oy ⊢
      have HOa11 := Lib.hid oa
      have HOb11 := Lib.hid ob
      have HOc11 := Lib.hid oc
      have HOx11 := Lib.hid ox
      have HOy11 := Lib.hid oy
      have HB11 := Lib.hid hB11
      clear hB11 HBQ oa ob oc ox oy
      have cal := HOa11.out.lt
      obtain ⟨ca0, ca1, caf, cag⟩ := HOa11.out
      have cbl := HOb11.out.lt
      obtain ⟨cb0, cb1, cbf, cbg⟩ := HOb11.out
      have ccl := HOc11.out.lt
      obtain ⟨cc0, cc1, ccf, ccg⟩ := HOc11.out
      have cxl := HOx11.out.lt
      obtain ⟨cx0, cx1, cxf, cxg⟩ := HOx11.out
      have cyl := HOy11.out.lt
      obtain ⟨cy0, cy1, cyf, cyg⟩ := HOy11.out
      go_wp2_with fail
      clear ca0 ca1 caf cag cal
      clear cb0 cb1 cbf cbg cbl
      clear cc0 cc1 ccf ccg ccl
      clear cx0 cx1 cxf cxg cxl
      clear cy0 cy1 cyf cyg cyl
      refine (floorN_calls ⟨na, va⟩ _).mono ?_
      rintro e w12 ⟨rfl, hb⟩
      rw [HLV.out]
      have HB12 := Lib.hid (below_then HB11.out hb)
      have HOa12 := Lib.hid (HOa11.out.below hb)
      have HOb12 := Lib.hid (HOb11.out.below hb)
      have HOc12 := Lib.hid (HOc11.out.below hb)
      have HOx12 := Lib.hid (HOx11.out.below hb)
      have HOy12 := Lib.hid (HOy11.out.below hb)
      clear hb
      have cal := HOa12.out.lt
      obtain ⟨ca0, ca1, caf, cag⟩ := HOa12.out
      have cbl := HOb12.out.lt
      obtain ⟨cb0, cb1, cbf, cbg⟩ := HOb12.out
      have ccl := HOc12.out.lt
      obtain ⟨cc0, cc1, ccf, ccg⟩ := HOc12.out
      have cxl := HOx12.out.lt
      obtain ⟨cx0, cx1, cxf, cxg⟩ := HOx12.out
      have cyl := HOy12.out.lt
      obtain ⟨cy0, cy1, cyf, cyg⟩ := HOy12.out
      go_wp2_with fail
      clear ca0 ca1 caf cag cal
      clear cb0 cb1 cbf cbg cbl
      clear cc0 cc1 ccf ccg ccl
      clear cx0 cx1 cxf cxg cxl
      clear cy0 cy1 cyf cyg cyl
      have hB13 : RowKit.Below w.heap.size w (w12.alloc (.cells #[.bool false, .int .i64 l] 23)) := HB12.out.alloc HB12.out.size _
      have oa : Own2 (w.heap.size) (.bool na) (.int .i64 va) (w12.alloc (.cells #[.bool false, .int .i64 l] 23)) := own_alloc HOa12.out _
      have ob : Own2 (w.heap.size + 1) (.bool nb) (.int .i64 vb) (w12.alloc (.cells #[.bool false, .int .i64 l] 23)) := own_alloc HOb12.out _
      have oc : Own2 (w.heap.size + 1 + 1) (.bool nc) (.int .i64 vc) (w12.alloc (.cells #[.bool false, .int .i64 l] 23)) := own_alloc HOc12.out _
      have ox : Own2 (w7.heap.size) (.bool nx) (.int .i64 vx) (w12.alloc (.cells #[.bool false, .int .i64 l] 23)) := own_alloc HOx12.out _
      have oy : Own2 (w9.heap.size) (.bool ny) (.int .i64 vy) (w12.alloc (.cells #[.bool false, .int .i64 l] 23)) := own_alloc HOy12.out _
      have ol : Own2 (w12.heap.size) (.bool false) (.int .i64 l) (w12.alloc (.cells #[.bool false, .int .i64 l] 23)) := own_new _ _ _ _
      have lal := HOa12.out.lt
      have lbl := HOb12.out.lt
      have lcl := HOc12.out.lt
      have lxl := HOx12.out.lt
      have lyl := HOy12.out.lt
      generalize (w12.alloc (.cells #[.bool false, .int .i64 l] 23)) = W13 at hB13 oa ob oc ox oy ol ⊢
      have HOa13 := Lib.hid oa
      have HOb13 := Lib.hid ob
      have HOc13 := Lib.hid oc
      have HOx13 := Lib.hid ox
      have HOy13 := Lib.hid oy
      have HOl13 := Lib.hid ol
      have HB13 := Lib.hid hB13
      clear hB13 oa ob oc ox oy ol
      refine (ceilN_calls ⟨na, va⟩ _).mono ?_
      rintro e w14 ⟨rfl, hb⟩
      rw [HHV.out]
      have HB14 := Lib.hid (below_then HB13.out hb)
      have HOa14 := Lib.hid (HOa13.out.below hb)
      have HOb14 := Lib.hid (HOb13.out.below hb)
      have HOc14 := Lib.hid (HOc13.out.below hb)
      have HOx14 := Lib.hid (HOx13.out.below hb)
      have HOy14 := Lib.hid (HOy13.out.below hb)
      have HOl14 := Lib.hid (HOl13.out.below hb)
      clear hb
      have cal := HOa14.out.lt
      obtain ⟨ca0, ca1, caf, cag⟩ := HOa14.out
      have cbl := HOb14.out.lt
      obtain ⟨cb0, cb1, cbf, cbg⟩ := HOb14.out
      have ccl := HOc14.out.lt
      obtain ⟨cc0, cc1, ccf, ccg⟩ := HOc14.out
      have cxl := HOx14.out.lt
      obtain ⟨cx0, cx1, cxf, cxg⟩ := HOx14.out
      have cyl := HOy14.out.lt
      obtain ⟨cy0, cy1, cyf, cyg⟩ := HOy14.out
      have cll := HOl14.out.lt
      obtain ⟨cl0, cl1, clf, clg⟩ := HOl14.out
      go_wp2_with fail
      clear ca0 ca1 caf cag cal
      clear cb0 cb1 cbf cbg cbl
      clear cc0 cc1 ccf ccg ccl
      clear cx0 cx1 cxf cxg cxl
      clear cy0 cy1 cyf cyg cyl
      clear cl0 cl1 clf clg cll
      have hB15 : RowKit.Below w.heap.size w (w14.alloc (.cells #[.bool false, .int .i64 h] 23)) := HB14.out.alloc HB14.out.size _
      have oa : Own2 (w.heap.size) (.bool na) (.int .i64 va) (w14.alloc (.cells #[.bool false, .int .i64 h] 23)) := own_alloc HOa14.out _
      have ob : Own2 (w.heap.size + 1) (.bool nb) (.int .i64 vb) (w14.alloc (.cells #[.bool false, .int .i64 h] 23)) := own_alloc HOb14.out _
      have oc : Own2 (w.heap.size + 1 + 1) (.bool nc) (.int .i64 vc) (w14.alloc (.cells #[.bool false, .int .i64 h] 23)) := own_alloc HOc14.out _
      have ox : Own2 (w7.heap.size) (.bool nx) (.int .i64 vx) (w14.alloc (.cells #[.bool false, .int .i64 h] 23)) := own_alloc HOx14.out _
      have oy : Own2 (w9.heap.size) (.bool ny) (.int .i64 vy) (w14.alloc (.cells #[.bool false, .int .i64 h] 23)) := own_alloc HOy14.out _
      have ol : Own2 (w12.heap.size) (.bool false) (.int .i64 l) (w14.alloc (.cells #[.bool false, .int .i64 h] 23)) := own_alloc HOl14.out _
      have oh : Own2 (w14.heap.size) (.bool false) (.int .i64 h) (w14.alloc (.cells #[.bool false, .int .i64 h] 23)) := own_new _ _ _ _
      have lah := HOa14.out.lt
      have lbh := HOb14.out.lt
      have lch := HOc14.out.lt
      have lxh := HOx14.out.lt
      have lyh := HOy14.out.lt
      have llh := HOl14.out.lt
      generalize (w14.alloc (.cells #[.bool false, .int .i64 h] 23)) = W15 at hB15 oa ob oc ox oy ol oh ⊢
      have HOa15 := Lib.hid oa
      have HOb15 := Lib.hid ob
      have HOc15 := Lib.hid oc
      have HOx15 := Lib.hid ox
      have HOy15 := Lib.hid oy
      have HOl15 := Lib.hid ol
      have HOh15 := Lib.hid oh
      have HB15 := Lib.hid hB15
      clear hB15 oa ob oc ox oy ol oh
      have HZ1 : Hid (∀ W, Calls Tryd.prog 21 #[.agg #[.bool na, .int .i64 va], .agg #[.bool false, .int .i64 l]] W (Leaves (.bool false) W)) := Lib.hid fun W => by
        have h := less_calls ⟨na, va⟩ ⟨false, l⟩ W
        rw [HLL.out] at h
        exact h
      have HZ2 : Hid (∀ W, Calls Tryd.prog 21 #[.agg #[.bool false, .int .i64 h], .agg #[.bool na, .int .i64 va]] W (Leaves (.bool false) W)) := Lib.hid fun W => by
        have h2 := less_calls ⟨false, h⟩ ⟨na, va⟩ W
        rw [HHL.out] at h2
        exact h2
      refine (HZ1.out _).mono ?_
      rintro e w16 ⟨rfl, hb⟩
      have HB16 := Lib.hid (below_then HB15.out hb)
      have HOa16 := Lib.hid (HOa15.out.below hb)
      have HOb16 := Lib.hid (HOb15.out.below hb)
      have HOc16 := Lib.hid (HOc15.out.below hb)
      have HOx16 := Lib.hid (HOx15.out.below hb)
      have HOy16 := Lib.hid (HOy15.out.below hb)
      have HOl16 := Lib.hid (HOl15.out.below hb)
      have HOh16 := Lib.hid (HOh15.out.below hb)
      clear hb
      have cal := HOa16.out.lt
      obtain ⟨ca0, ca1, caf, cag⟩ := HOa16.out
      have cbl := HOb16.out.lt
      obtain ⟨cb0, cb1, cbf, cbg⟩ := HOb16.out
      have ccl := HOc16.out.lt
      obtain ⟨cc0, cc1, ccf, ccg⟩ := HOc16.out
      have cxl := HOx16.out.lt
      obtain ⟨cx0, cx1, cxf, cxg⟩ := HOx16.out
      have cyl := HOy16.out.lt
      obtain ⟨cy0, cy1, cyf, cyg⟩ := HOy16.out
      have cll := HOl16.out.lt
      obtain ⟨cl0, cl1, clf, clg⟩ := HOl16.out
      have chl := HOh16.out.lt
      obtain ⟨ch0, ch1, chf, chg⟩ := HOh16.out
      go_wp2_with fail
      clear ca0 ca1 caf cag cal
      clear cb0 cb1 cbf cbg cbl
      clear cc0 cc1 ccf ccg ccl
      clear cx0 cx1 cxf cxg cxl
      clear cy0 cy1 cyf cyg cyl
      clear cl0 cl1 clf clg cll
      clear ch0 ch1 chf chg chl
      refine (HZ2.out _).mono ?_
      rintro e w17 ⟨rfl, hb⟩
      have HB17 := Lib.hid (below_then HB16.out hb)
      have HOa17 := Lib.hid (HOa16.out.below hb)
      have HOb17 := Lib.hid (HOb16.out.below hb)
      have HOc17 := Lib.hid (HOc16.out.below hb)
      have HOx17 := Lib.hid (HOx16.out.below hb)
      have HOy17 := Lib.hid (HOy16.out.below hb)
      have HOl17 := Lib.hid (HOl16.out.below hb)
      have HOh17 := Lib.hid (HOh16.out.below hb)
      clear hb
      go_wp2
      go_ret
      exact ⟨rfl, HB17.out⟩

theorem law_order (a b c : Num) (w : World) (hL : Laid w) : Calls Tryd.prog 9 #[numV a, numV b, numV c] w (Leaves (.bool true) w) := by
  cases hq : odd2 a b with
  | true => exact order_odd a b c w hL hq
  | false => exact order_known a b c w hL (odd2_false.1 hq).1 (odd2_false.1 hq).2

end Go.Proofs.YteddnomneeonhaaDoor
