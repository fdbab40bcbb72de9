/-
  The statements' own fixed answers hold: 'awake' returns true. Condition: the library's tables hold what their initialisers lay.
-/
import Derived.Test.YteddnomneeonhaaDoorMulDiv
import Derived.Test.YteddnomneeonhaaDoorParse
import Derived.Test.YteddnomneeonhaaDoorText
namespace Go.Proofs.YteddnomneeonhaaDoor
open Go.RowKit Go.Lib

theorem fixed1 : divP ⟨false, 1000000⟩ ⟨false, 3000000⟩ = (⟨false, 333333⟩, 0) := by decide +kernel
theorem fixed2 : parseP [32, 45, 49, 46, 53, 48, 32] = (⟨false, -1500000⟩, 0) := by decide +kernel
theorem fixed3 : divP ⟨false, 1000000⟩ ⟨false, 0⟩ = (⟨false, 0⟩, 67) := by decide +kernel
theorem fixed4 : textP ⟨false, -1500000⟩ = [45, 49, 46, 53] := by
  have h1 : decDigits 1 = [49] := decDigits_one (by decide)
  have h2 : decDigits 1500000 = [49, 53, 48, 48, 48, 48, 48] := by
    rw [decDigits_eq, nDigits_unique 6 1500000 (by decide) (by decide)]
    decide +kernel
  have e : textP ⟨false, -1500000⟩ = [45] ++ (decDigits 1 ++ 46 :: trimRightB ((decDigits 1500000).drop 1) 48) := rfl
  rw [e, h1, h2]
  decide +kernel

set_option maxRecDepth 100000 in
set_option maxHeartbeats 2000000 in
theorem awake_calls (w : World) (hL : Laid w) : Calls Tryd.prog 10 #[] w (Leaves (.bool true) w) := by
  have HL := Lib.hid hL
  clear hL
  go_enter Tryd.func10, Tryd.ntmps10
  go_wp2_with fail
  refine (divN_calls ⟨false, 1000000⟩ ⟨false, 3000000⟩ _).mono ?_
  rintro e w1 ⟨rfl, hb1⟩
  rw [fixed1]
  unfold numC numV
  have HB1 := Lib.hid hb1
  clear hb1
  go_wp2_with fail
  have hb2 : RowKit.Below w.heap.size w (w1.alloc (.cells #[.bool false, .int .i64 333333] 23)) := HB1.out.alloc HB1.out.size _
  have o1 : Own2 w1.heap.size (.bool false) (.int .i64 333333) (w1.alloc (.cells #[.bool false, .int .i64 333333] 23)) := ⟨by go_simp, by go_simp, by go_simp, by go_simp⟩
  have hz1 : w1.heap.size < (w1.alloc (.cells #[.bool false, .int .i64 333333] 23)).heap.size := by simp
  generalize w1.alloc (.cells #[.bool false, .int .i64 333333] 23) = W1 at hb2 o1 hz1 ⊢
  refine (parse_calls ⟨#[32, 45, 49, 46, 53, 48, 32]⟩ W1 (by decide) (HL.out.below hb2)).mono ?_
  rintro e w2 ⟨rfl, hb3⟩
  rw [show parseP (⟨#[32, 45, 49, 46, 53, 48, 32]⟩ : ByteArray).data.toList = (⟨false, -1500000⟩, 0) from fixed2]
  unfold numC numV
  have o2 := o1.below hb3
  have HB3 := Lib.hid (below_then hb2 hb3)
  have hz2 : w1.heap.size < w2.heap.size := Nat.lt_of_lt_of_le hz1 hb3.size
  clear hb2 hb3 o1 hz1
  go_wp2_with fail
  have hb4 : RowKit.Below w.heap.size w (w2.alloc (.cells #[.bool false, .int .i64 (-1500000)] 23)) := HB3.out.alloc HB3.out.size _
  have hb4' : RowKit.Below w2.heap.size w2 (w2.alloc (.cells #[.bool false, .int .i64 (-1500000)] 23)) := (Below.refl _ _).alloc (Nat.le_refl _) _
  have o3 : Own2 w2.heap.size (.bool false) (.int .i64 (-1500000)) (w2.alloc (.cells #[.bool false, .int .i64 (-1500000)] 23)) := ⟨by go_simp, by go_simp, by go_simp, by go_simp⟩
  have o4 := o2.below hb4'
  generalize w2.alloc (.cells #[.bool false, .int .i64 (-1500000)] 23) = W2 at hb4 o3 o4 ⊢
  refine (divN_calls ⟨false, 1000000⟩ ⟨false, 0⟩ _).mono ?_
  rintro e w3 ⟨rfl, hb5⟩
  rw [fixed3]
  unfold numC numV
  have o5 := o3.below hb5
  have o6 := o4.below hb5
  have HB5 := Lib.hid (below_then hb4 hb5)
  clear hb4 hb5 o3 o4 o2 hb4'
  have hb6' : RowKit.Below w3.heap.size w3 (w3.alloc (.cells #[.bool false, .int .i64 0] 23)) := (Below.refl _ _).alloc (Nat.le_refl _) _
  have HO5 := Lib.hid (o5.below hb6')
  have HO6 := Lib.hid (o6.below hb6')
  have HB6 := Lib.hid (below_then HB5.out hb6')
  have l5 := o5.lt
  have l6 := o6.lt
  clear o5 o6 hb6'
  obtain ⟨a0, a1, _, _⟩ := HO5.out
  obtain ⟨b0, b1, _, _⟩ := HO6.out
  go_wp2_with fail
  refine (text_calls ⟨false, -1500000⟩ _ (HL.out.below HB6.out)).mono ?_
  rintro e w4 ⟨rfl, hb7⟩
  rw [fixed4]
  have HB7 := Lib.hid (below_then HB6.out hb7)
  clear hb7
  go_wp2
  go_ret
  exact ⟨rfl, HB7.out⟩

end Go.Proofs.YteddnomneeonhaaDoor
