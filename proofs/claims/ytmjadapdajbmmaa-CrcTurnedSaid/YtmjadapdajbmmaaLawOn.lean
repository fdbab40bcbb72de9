/-
  The walk of the law CrcOn at every two slices of bytes. No condition.
-/
import Derived.Test.YtmjadapdajbmmaaApp
namespace Go.Proofs.Ytmjadapdajbmmaa
open Go.RowKit Go.Lib

theorem own_empty (w : World) : (w.alloc (.cells #[] 5)).ownsRow w.heap.size 5 1 (.slice (some ⟨w.heap.size, 0, none⟩) 0 0) 0 [] :=
  World.ownsRow_made w #[] 0 (Nat.le_refl _) (by unfold maxLen; omega) rfl

set_option maxRecDepth 100000 in
set_option maxHeartbeats 1000000 in
theorem law_on (a : Option Addr) (l : List Nat) (n c : Nat) (a2 : Option Addr) (l2 : List Nat) (n2 c2 : Nat) (w : World) (hr : Row w a l) (hn : l.length = n) (hc : a = none → c = 0) (hr2 : Row w a2 l2) (hn2 : l2.length = n2) (hc2 : a2 = none → c2 = 0) :
    Calls Try.prog 4 #[.slice a n c, .slice a2 n2 c2] w (Leaves (.bool true) w) := by
  have HR := Lib.hid hr
  have HR2 := Lib.hid hr2
  have HC := Lib.hid hc
  have HC2 := Lib.hid hc2
  clear hr hr2 hc hc2
  go_enter Try.func4, Try.ntmps4
  go_wp2_with fail
  refine (awake_calls w).mono ?_
  rintro e w1 ⟨rfl, hb1⟩
  have HB1 := Lib.hid hb1
  clear hb1
  by_cases hbig : 8192 < n
  · have hd : decide ((n : Int) > 8192) = true := by simp; omega
    go_wp2
    go_ret
    exact ⟨rfl, HB1.out⟩
  have hd : decide ((n : Int) > 8192) = false := by simp; omega
  by_cases hbig2 : 8192 < n2
  · have hd2 : decide ((n2 : Int) > 8192) = true := by simp; omega
    go_wp2
    go_ret
    exact ⟨rfl, HB1.out⟩
  have hd2 : decide ((n2 : Int) > 8192) = false := by simp; omega
  obtain ⟨s, hs⟩ : ∃ s, uv (sumB (l ++ l2)) = s := ⟨_, rfl⟩
  obtain ⟨t, ht⟩ : ∃ t, uv (sumB l) = t := ⟨_, rfl⟩
  have HS := Lib.hid hs
  have HT := Lib.hid ht
  have hss : (s == s) = true := by simp
  have htt : (t == t) = true := by simp
  have HO : Hid (uv (onB (sumB l) l2) = s) := Lib.hid (by rw [on_sum, hs])
  have HO2 : Hid (uv (onB (sumB l) []) = t) := Lib.hid (by rw [on_nil, ht])
  clear hs ht
  go_wp2_with fail
  refine (sum_calls a l n c w1 (HR.out.below HB1.out) hn (by omega)).mono ?_
  rintro e w2 ⟨rfl, hb2⟩
  have HB2 := Lib.hid (below_then HB1.out hb2)
  clear hb2
  go_wp2_with fail
  refine (on_calls (sumB l) a2 l2 n2 c2 w2 (HR2.out.below HB2.out) hn2 (by omega)).mono ?_
  rintro e w3 ⟨rfl, hb3⟩
  have HB3 := Lib.hid (below_then HB2.out hb3)
  clear hb3
  rw [HO.out]
  have hb4 : Below w.heap.size w (w3.alloc (.cells #[] 5)) := HB3.out.alloc HB3.out.size _
  have HR4 := Lib.hid (HR.out.below hb4)
  have HR5 := Lib.hid (HR2.out.below hb4)
  have hz3 : w.heap.size ≤ w3.heap.size := HB3.out.size
  have HB4 := Lib.hid hb4
  clear hb4
  go_wp2_with (at_builtin; refine append_row rfl (.tmp 19) (.tmp 20) rfl w3.heap.size _ 0 [] rfl (own_empty w3) a n c l rfl hn HR4.out HC.out (by omega) (by simp) ?_)
  intro v4 w4 hown4 hb5
  have HB5 := Lib.hid (HB4.out.trans (hb5.mono hz3))
  have HR6 := Lib.hid (HR2.out.below HB5.out)
  have hz4 : w3.heap.size ≤ w4.heap.size := by have := hb5.size; simp at this; omega
  have HW := Lib.hid hown4
  clear hb5 hown4 HB4
  go_wp2_with (at_builtin; refine append_row rfl (.tmp 21) (.tmp 22) rfl w3.heap.size _ _ _ rfl HW.out a2 n2 c2 l2 rfl hn2 HR6.out HC2.out (by omega) hz4 ?_)
  intro v5 w5 hown5 hb6
  have HB6 := Lib.hid (HB5.out.trans (hb6.mono hz3))
  have hlen : (l ++ l2).length = n + n2 := by rw [List.length_append]; omega
  obtain ⟨a5, c5, rfl, hr5, _⟩ := row_of_own (l := l ++ l2) (fun c hc => (List.mem_append.1 hc).elim (HR.out.1 c) (HR2.out.1 c)) hlen (by rw [cellsN_app]; exact hown5)
  have HR7 := Lib.hid hr5
  clear hown5 hb6 hr5 HW HB5
  go_wp2_with fail
  refine (ref_calls a5 (l ++ l2) _ c5 w5 HR7.out hlen (by omega)).mono ?_
  rintro e w6 ⟨rfl, hb7⟩
  have HB7 := Lib.hid (below_then HB6.out hb7)
  clear hb7
  rw [HS.out]
  go_wp2_with fail
  refine (sum_calls a l n c w6 (HR.out.below HB7.out) hn (by omega)).mono ?_
  rintro e w7 ⟨rfl, hb8⟩
  have HB8 := Lib.hid (below_then HB7.out hb8)
  clear hb8
  go_wp2_with fail
  refine (on_calls (sumB l) none [] 0 0 w7 (row_nil _ _) rfl (by decide)).mono ?_
  rintro e w8 ⟨rfl, hb9⟩
  have HB9 := Lib.hid (below_then HB8.out hb9)
  clear hb9
  rw [HO2.out]
  go_wp2_with fail
  refine (sum_calls a l n c w8 (HR.out.below HB9.out) hn (by omega)).mono ?_
  rintro e w9 ⟨rfl, hb10⟩
  have HB10 := Lib.hid (below_then HB9.out hb10)
  clear hb10
  rw [HT.out]
  go_wp2
  go_ret
  exact ⟨rfl, HB10.out⟩

end Go.Proofs.Ytmjadapdajbmmaa
