/-
  The law of DeciBack: what a number's text is is read as that number. Condition: the library's tables hold what their initialisers lay.
-/
import Derived.Test.YteddnomneeonhaaDoorAwake
import Derived.Test.YteddnomneeonhaaDoorLawBase
import Derived.Test.YteddnomneeonhaaDoorRefNum
namespace Go.Proofs.YteddnomneeonhaaDoor
open Go.RowKit Go.Lib Go.Sort

theorem fracT_len {f : Nat} (h : f < 1000000) : (fracT f).length ≤ 7 := by
  obtain ⟨_, _, h2, _, _⟩ := six_split h
  have h3 := trimRightB_len (sixT f) 48
  unfold fracT
  split
  · simp
  · rw [List.length_cons]; omega
theorem textP_len (a : Num) : (textP a).length ≤ 40 := by
  cases h : oddN a with
  | true =>
    unfold textP
    rw [h, if_pos rfl]
    decide
  | false =>
    obtain ⟨_, h0, h1⟩ := oddN_false.1 h
    have l1 := dec_len (u := a.v.natAbs / 1000000) (by omega)
    have l2 := fracT_len (f := a.v.natAbs % 1000000) (Nat.mod_lt _ (by decide))
    unfold textP
    rw [h, if_neg (by decide), List.length_append]
    unfold wholeT
    rw [List.length_append]
    have l3 : (signT a.v).length ≤ 1 := by unfold signT; split <;> simp
    omega

set_option maxRecDepth 100000 in
set_option maxHeartbeats 4000000 in
theorem law_back (a : Num) (w : World) (hL : Laid w) : Calls Tryd.prog 6 #[numV a] w (Leaves (.bool true) w) := by
  have HL := Lib.hid hL
  have hlen := textP_len a
  obtain ⟨st, hst⟩ : ∃ st : ByteArray, (⟨(textP a).toArray⟩ : ByteArray) = st := ⟨_, rfl⟩
  have hsz : st.size ≤ 40 := by rw [← hst, mk_size]; exact hlen
  have HT : Hid (∀ W, Laid W → Calls Tryd.prog 34 #[numV a] W (Leaves (.string st) W)) := Lib.hid fun W h => by rw [← hst]; exact text_calls a W h
  obtain ⟨q, hq⟩ : ∃ q, oddN a = q := ⟨_, rfl⟩
  have HP1 : Hid (q = true → ∀ W, Laid W → Calls Tryd.prog 37 #[.string st] W (Leaves (.tuple #[.agg #[.bool true, .int .i64 0], .int .i64 0]) W)) := Lib.hid fun h W hW => by
    have h1 := parse_calls st W (by omega) hW
    have h2 : textP a = [78, 97, 78] := by unfold textP; rw [hq, h]; rfl
    rw [← hst, mk_toList, h2, parse_nan] at h1
    rw [← hst, h2]
    exact h1
  have HP2 : Hid (q = false → ∀ W, Laid W → Calls Tryd.prog 37 #[.string st] W (Leaves (.tuple #[numV a, .int .i64 0]) W)) := Lib.hid fun h W hW => by
    have h1 := parse_calls st W (by omega) hW
    have h2 := parse_text (hq.trans h)
    rw [← hst, mk_toList, h2, hst] at h1
    exact h1
  have HQ := Lib.hid hq
  obtain ⟨na, va⟩ := a
  unfold numV at HT HP2 ⊢
  clear hL hst hq hlen hsz
  go_enter Tryd.func6, Tryd.ntmps6
  go_wp2_with fail
  have hB0 : RowKit.Below w.heap.size w (w.alloc (.cells #[.bool na, .int .i64 va] 23)) := ((Below.refl _ w).alloc (Nat.le_refl _) _)
  have oa : Own2 (w.heap.size) (.bool na) (.int .i64 va) (w.alloc (.cells #[.bool na, .int .i64 va] 23)) := ⟨by go_simp, by go_simp, by go_simp, by go_simp⟩
  generalize (w.alloc (.cells #[.bool na, .int .i64 va] 23)) = W0 at hB0 oa ⊢
  have HOa0 := Lib.hid oa
  have HB0 := Lib.hid hB0
  clear hB0 oa
  refine (awake_calls W0 (HL.out.below HB0.out)).mono ?_
  rintro e w1 ⟨rfl, hb⟩
  have HB1 := Lib.hid (below_then HB0.out hb)
  have HOa1 := Lib.hid (HOa0.out.below hb)
  clear hb
  have cal := HOa1.out.lt
  obtain ⟨ca0, ca1, caf, cag⟩ := HOa1.out
  go_wp2_with fail
  clear ca0 ca1 caf cag cal
  refine (HT.out _ (HL.out.below HB1.out)).mono ?_
  rintro e w2 ⟨rfl, hb⟩
  have HB2 := Lib.hid (below_then HB1.out hb)
  have HOa2 := Lib.hid (HOa1.out.below hb)
  clear hb
  cases q with
  | true =>
    have cal := HOa2.out.lt
    obtain ⟨ca0, ca1, caf, cag⟩ := HOa2.out
    go_wp2_with fail
    clear ca0 ca1 caf cag cal
    refine (HP1.out (by first | rfl | trivial) _ (HL.out.below HB2.out)).mono ?_
    rintro e w3 ⟨rfl, hb⟩
    have HB3 := Lib.hid (below_then HB2.out hb)
    have HOa3 := Lib.hid (HOa2.out.below hb)
    clear hb
    have cal := HOa3.out.lt
    obtain ⟨ca0, ca1, caf, cag⟩ := HOa3.out
    go_wp2_with fail
    clear ca0 ca1 caf cag cal
    have hB4 : RowKit.Below w.heap.size w (w3.alloc (.cells #[.bool true, .int .i64 0] 23)) := HB3.out.alloc HB3.out.size _
    have oa : Own2 (w.heap.size) (.bool na) (.int .i64 va) (w3.alloc (.cells #[.bool true, .int .i64 0] 23)) := own_alloc HOa3.out _
    have ox : Own2 (w3.heap.size) (.bool true) (.int .i64 0) (w3.alloc (.cells #[.bool true, .int .i64 0] 23)) := own_new _ _ _ _
    have lax := HOa3.out.lt
    generalize (w3.alloc (.cells #[.bool true, .int .i64 0] 23)) = W4 at hB4 oa ox ⊢
    have HOa4 := Lib.hid oa
    have HOx4 := Lib.hid ox
    have HB4 := Lib.hid hB4
    clear hB4 oa ox
    refine (refOdd_calls ⟨na, va⟩ _).mono ?_
    rintro e w5 ⟨rfl, hb⟩
    rw [HQ.out]
    have HB5 := Lib.hid (below_then HB4.out hb)
    have HOa5 := Lib.hid (HOa4.out.below hb)
    have HOx5 := Lib.hid (HOx4.out.below hb)
    clear hb
    have cal := HOa5.out.lt
    obtain ⟨ca0, ca1, caf, cag⟩ := HOa5.out
    have cxl := HOx5.out.lt
    obtain ⟨cx0, cx1, cxf, cxg⟩ := HOx5.out
    go_wp2
    go_ret
    exact ⟨rfl, HB5.out⟩
  | false =>
    have cal := HOa2.out.lt
    obtain ⟨ca0, ca1, caf, cag⟩ := HOa2.out
    go_wp2_with fail
    clear ca0 ca1 caf cag cal
    refine (HP2.out (by first | rfl | trivial) _ (HL.out.below HB2.out)).mono ?_
    rintro e w3 ⟨rfl, hb⟩
    have HB3 := Lib.hid (below_then HB2.out hb)
    have HOa3 := Lib.hid (HOa2.out.below hb)
    clear hb
    have cal := HOa3.out.lt
    obtain ⟨ca0, ca1, caf, cag⟩ := HOa3.out
    go_wp2_with fail
    clear ca0 ca1 caf cag cal
    have hB4 : RowKit.Below w.heap.size w (w3.alloc (.cells #[.bool na, .int .i64 va] 23)) := HB3.out.alloc HB3.out.size _
    have oa : Own2 (w.heap.size) (.bool na) (.int .i64 va) (w3.alloc (.cells #[.bool na, .int .i64 va] 23)) := own_alloc HOa3.out _
    have ox : Own2 (w3.heap.size) (.bool na) (.int .i64 va) (w3.alloc (.cells #[.bool na, .int .i64 va] 23)) := own_new _ _ _ _
    have lax := HOa3.out.lt
    generalize (w3.alloc (.cells #[.bool na, .int .i64 va] 23)) = W4 at hB4 oa ox ⊢
    have HOa4 := Lib.hid oa
    have HOx4 := Lib.hid ox
    have HB4 := Lib.hid hB4
    clear hB4 oa ox
    refine (refOdd_calls ⟨na, va⟩ _).mono ?_
    rintro e w5 ⟨rfl, hb⟩
    rw [HQ.out]
    have HB5 := Lib.hid (below_then HB4.out hb)
    have HOa5 := Lib.hid (HOa4.out.below hb)
    have HOx5 := Lib.hid (HOx4.out.below hb)
    clear hb
    have cal := HOa5.out.lt
    obtain ⟨ca0, ca1, caf, cag⟩ := HOa5.out
    have cxl := HOx5.out.lt
    obtain ⟨cx0, cx1, cxf, cxg⟩ := HOx5.out
    go_wp2_with fail
    clear ca0 ca1 caf cag cal
    clear cx0 cx1 cxf cxg cxl
    refine (refOdd_calls ⟨na, va⟩ _).mono ?_
    rintro e w6 ⟨rfl, hb⟩
    rw [HQ.out]
    have HB6 := Lib.hid (below_then HB5.out hb)
    have HOa6 := Lib.hid (HOa5.out.below hb)
    have HOx6 := Lib.hid (HOx5.out.below hb)
    clear hb
    have cal := HOa6.out.lt
    obtain ⟨ca0, ca1, caf, cag⟩ := HOa6.out
    have cxl := HOx6.out.lt
    obtain ⟨cx0, cx1, cxf, cxg⟩ := HOx6.out
    go_wp2
    go_ret
    exact ⟨rfl, HB6.out⟩

end Go.Proofs.YteddnomneeonhaaDoor
