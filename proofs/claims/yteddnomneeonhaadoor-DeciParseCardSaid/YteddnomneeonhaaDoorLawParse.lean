/-
  The law of DeciParse: every text is read alike on both sides. Condition: the library's tables hold what their initialisers lay.
-/
import Derived.Test.YteddnomneeonhaaDoorAwake
import Derived.Test.YteddnomneeonhaaDoorLawBase
import Derived.Test.YteddnomneeonhaaDoorRefParse
namespace Go.Proofs.YteddnomneeonhaaDoor
open Go.RowKit Go.Lib Go.Sort

set_option maxRecDepth 100000 in
set_option maxHeartbeats 4000000 in
theorem law_parse (s : ByteArray) (w : World) (hs : s.size ≤ 9223372036854775807) (hL : Laid w) : Calls Tryd.prog 5 #[.string s] w (Leaves (.bool true) w) := by
  have HL := Lib.hid hL
  obtain ⟨⟨⟨n, v⟩, c⟩, hd⟩ : ∃ d, parseP s.data.toList = d := ⟨_, rfl⟩
  have HD : Hid (numC (parseP s.data.toList) = .tuple #[.agg #[.bool n, .int .i64 v], .int .i64 c]) := Lib.hid (by rw [hd]; rfl)
  clear hL hd
  go_enter Tryd.func5, Tryd.ntmps5
  go_wp2_with fail
  have HB0 : Hid (RowKit.Below w.heap.size w w) := Lib.hid (Below.refl _ _)
  refine (awake_calls w HL.out).mono ?_
  rintro e w1 ⟨rfl, hb⟩
  have HB1 := Lib.hid (below_then HB0.out hb)
  clear hb
  by_cases hbig : 1000 < s.size
  · have hd : decide ((s.size : Int) > 1000) = true := decide_eq_true (by omega)
    go_wp2
    go_ret
    exact ⟨rfl, HB1.out⟩
  · have hd : decide ((s.size : Int) > 1000) = false := decide_eq_false (by omega)
    have hsm : s.size ≤ 1000 := by omega
    clear hbig
    go_wp2_with fail
    refine (parse_calls s _ (by omega) (HL.out.below HB1.out)).mono ?_
    rintro e w2 ⟨rfl, hb⟩
    rw [HD.out]
    have HB2 := Lib.hid (below_then HB1.out hb)
    clear hb
    go_wp2_with fail
    have hB3 : RowKit.Below w.heap.size w (w2.alloc (.cells #[.bool n, .int .i64 v] 23)) := HB2.out.alloc HB2.out.size _
    have ox : Own2 (w2.heap.size) (.bool n) (.int .i64 v) (w2.alloc (.cells #[.bool n, .int .i64 v] 23)) := own_new _ _ _ _
    generalize (w2.alloc (.cells #[.bool n, .int .i64 v] 23)) = W3 at hB3 ox ⊢
    have HOx3 := Lib.hid ox
    have HB3 := Lib.hid hB3
    clear hB3 ox
    refine (refParse_calls s _ (by omega)).mono ?_
    rintro e w4 ⟨rfl, hb⟩
    rw [HD.out]
    have HB4 := Lib.hid (below_then HB3.out hb)
    have HOx4 := Lib.hid (HOx3.out.below hb)
    clear hb
    have cxl := HOx4.out.lt
    obtain ⟨cx0, cx1, cxf, cxg⟩ := HOx4.out
    go_wp2
    go_ret
    exact ⟨rfl, HB4.out.alloc HB4.out.size _⟩

end Go.Proofs.YteddnomneeonhaaDoor
