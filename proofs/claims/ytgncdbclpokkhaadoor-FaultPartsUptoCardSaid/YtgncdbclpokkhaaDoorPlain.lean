/-
  The text of a plain error by its contract: "code C at P". Conditions: the code and the place are ints; the library's table of powers of ten is laid.
-/
import Derived.Test.YtgncdbclpokkhaaDoorErr
import Derived.Test.YtgncdbclpokkhaaDoorShelf
import Derived.Lib.QuietBelow
import Derived.Lib.AppendIntMem
import Derived.BigQuiet
import Derived.Lib.ItoaLen
namespace Go.Proofs.YtgncdbclpokkhaaDoor
open Go.RowKit Go.Extern.Stop Go.Stop Go.Extern Go.Sort

/-- The library's table of powers of ten is laid. -/
def Tab (w : World) : Prop := Lib.TabIs Tryd.prog w "internal/strconv.uint64pow10" .u64 Lib.pow10Tab
theorem Tab.below {w w' : World} (h : Tab w) (hb : Below w.heap.size w w') : Tab w' := Lib.tabBelow_of_tabIs h w' hb

theorem itoa_any (n : Int) (h0 : -9223372036854775808 ≤ n) (h1 : n ≤ 9223372036854775807) (w : World) (ht : Tab w) :
    Calls Tryd.prog 37 #[.int .i64 n] w fun e w' => e = .returned (.string ⟨(Lib.itoa n).toArray⟩) ∧ Below w.heap.size w w' := by
  refine (Tryd.strconv_Itoa n h0 h1 w ht).mono ?_
  rintro e w' ⟨rfl, k, os, rfl⟩
  exact ⟨rfl, ⟨rfl, rfl, rfl, by simp [grow], fun k hk => by simp [grow, Array.getElem?_append, hk]⟩⟩

/-- The text of a plain error. -/
def plainText (c a : Int) : List UInt8 := [99, 111, 100, 101, 32] ++ Lib.itoa c ++ [32, 97, 116, 32] ++ Lib.itoa a

theorem app_bytes (x y : List UInt8) : (⟨x.toArray⟩ : ByteArray) ++ ⟨y.toArray⟩ = ⟨(x ++ y).toArray⟩ := by
  apply ByteArray.ext
  simp [ByteArray.data_append]

set_option maxRecDepth 100000 in
set_option maxHeartbeats 1000000 in
theorem error_plain (c a : Int) (hc0 : -9223372036854775808 ≤ c) (hc1 : c ≤ 9223372036854775807) (ha0 : -9223372036854775808 ≤ a) (ha1 : a ≤ 9223372036854775807) (w : World) (ht : Tab w) :
    Calls Tryd.prog 28 #[.agg #[.int .i64 c, .int .i64 a]] w (Leaves1 (.string ⟨(plainText c a).toArray⟩) w) := by
  have hb0 : Below w.heap.size w (w.alloc (.cells #[.int .i64 c, .int .i64 a] 40)) := (Below.refl _ _).alloc (Nat.le_refl _) _
  have k1 := @cell_regrown (w.alloc (.cells #[.int .i64 c, .int .i64 a] 40)) ⟨w.heap.size, 0, none⟩ (.int .i64 c) (by simp)
  have k2 := @cell_regrown (w.alloc (.cells #[.int .i64 c, .int .i64 a] 40)) ⟨w.heap.size, 1, none⟩ (.int .i64 a) (by simp)
  have cC : ∀ d os, Calls Tryd.prog 37 #[.int .i64 c] (grow (redrawn (w.alloc (.cells #[.int .i64 c, .int .i64 a] 40)) d) os) fun e w'' => e = .returned (.string ⟨(Lib.itoa c).toArray⟩) ∧ ∃ p : Regrown, w'' = grow (redrawn (w.alloc (.cells #[.int .i64 c, .int .i64 a] 40)) p.d) p.os :=
    fun d os => Calls.regrown_of (itoa_any c hc0 hc1 _ ((ht.below hb0).below (below_regrown _ d os)))
  have cA : ∀ d os, Calls Tryd.prog 37 #[.int .i64 a] (grow (redrawn (w.alloc (.cells #[.int .i64 c, .int .i64 a] 40)) d) os) fun e w'' => e = .returned (.string ⟨(Lib.itoa a).toArray⟩) ∧ ∃ p : Regrown, w'' = grow (redrawn (w.alloc (.cells #[.int .i64 c, .int .i64 a] 40)) p.d) p.os :=
    fun d os => Calls.regrown_of (itoa_any a ha0 ha1 _ ((ht.below hb0).below (below_regrown _ d os)))
  have lc : (⟨(Lib.itoa c).toArray⟩ : ByteArray).size ≤ 21 := by simpa [ByteArray.size] using Lib.itoa_length_le c hc0 hc1
  have la : (⟨(Lib.itoa a).toArray⟩ : ByteArray).size ≤ 21 := by simpa [ByteArray.size] using Lib.itoa_length_le a ha0 ha1
  clear ht hc0 hc1 ha0 ha1
  generalize hsc : (⟨(Lib.itoa c).toArray⟩ : ByteArray) = sc at cC lc
  generalize hsa : (⟨(Lib.itoa a).toArray⟩ : ByteArray) = sa at cA la
  have HSC := Lib.hid hsc
  have HSA := Lib.hid hsa
  clear hsc hsa
  have n1 : ¬ 9223372036854775807 < 5 + sc.size := by omega
  have n2 : ¬ 9223372036854775807 < 5 + sc.size + 4 := by omega
  have n3 : ¬ 9223372036854775807 < 5 + sc.size + 4 + sa.size := by omega
  go_enter Tryd.func28, Tryd.ntmps28
  go_wp2
  refine wp_region_quiet_below (by kernel_rfl) (by kernel_rfl) ?_
  repeat (quiet_step (first | exact cC _ _ | exact cA _ _))
  refine wpQuiet_nil ?_
  intro _ hw'
  obtain ⟨⟨dq, osq⟩, hw''⟩ := hw'
  subst hw''
  go_wp2
  go_ret
  refine ⟨?_, hb0.trans ((below_regrown _ dq osq).mono (by simp))⟩
  show Ending.returned (.string (⟨[99, 111, 100, 101, 32].toArray⟩ ++ sc ++ ⟨[32, 97, 116, 32].toArray⟩ ++ sa)) = _
  rw [← HSC.out, ← HSA.out, app_bytes, app_bytes, app_bytes]
  rfl
end Go.Proofs.YtgncdbclpokkhaaDoor
