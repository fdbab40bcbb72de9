/-
  Package fault's New, Wrap, Code, At and Is by their contracts, at no error and at errors that wrap a plain one however often. Conditions: the code is not OK where an error stands; errors.errorType holds its handle.
-/
import Derived.Test.YtgncdbclpokkhaaDoorFind
import Derived.Test.YtgncdbclpokkhaaDoorIs
namespace Go.Proofs.YtgncdbclpokkhaaDoor
open Go.RowKit Go.Extern.Stop Go.Stop Go.Extern

theorem field0 (c a : Int) (w : World) : (Instr.field 40 (.agg #[.int .i64 c, .int .i64 a]) 0).run Tryd.prog w = .ok (.int .i64 c) w := by kernel_rfl
theorem field1 (c a : Int) (w : World) : (Instr.field 40 (.agg #[.int .i64 c, .int .i64 a]) 1).run Tryd.prog w = .ok (.int .i64 a) w := by kernel_rfl

def Gives (v : Value) (w : World) (e : Ending) (w' : World) : Prop := e = .returned v ∧ w = w'
/-- A value, and new blocks. -/
def Leaves1 (v : Value) (w : World) (e : Ending) (w' : World) : Prop := e = .returned v ∧ Below w.heap.size w w'

theorem new_ok (a : Int) (w : World) : Calls Tryd.prog 15 #[.int .i64 0, .int .i64 a] w (Gives .nilIface w) := by
  go_enter Tryd.func15, Tryd.ntmps15
  go_wp2
  go_ret
  exact ⟨rfl, rfl⟩
theorem new_code (c a : Int) (w : World) (hc : (c == 0) = false) : Calls Tryd.prog 15 #[.int .i64 c, .int .i64 a] w (Gives (.iface 40 (.agg #[.int .i64 c, .int .i64 a])) w) := by
  go_enter Tryd.func15, Tryd.ntmps15
  go_wp2
  go_ret
  exact ⟨rfl, rfl⟩
theorem wrap_nil (s : ByteArray) (w : World) : Calls Tryd.prog 16 #[.string s, .nilIface] w (Gives .nilIface w) := by
  go_enter Tryd.func16, Tryd.ntmps16
  go_wp2
  go_ret
  exact ⟨rfl, rfl⟩
/-- What Wrap leaves: one new block, which holds the text and the error within. -/
def WrapOut (s : ByteArray) (v : Value) (w : World) (e : Ending) (w' : World) : Prop :=
  e = .returned (.iface 47 (.pointer (some ⟨w.heap.size, 0, none⟩))) ∧ w.alloc (.cells #[.string s, v] 49) = w'
theorem wrap_some (s : ByteArray) (T : TypeId) (v : Value) (w : World) : Calls Tryd.prog 16 #[.string s, .iface T v] w (WrapOut s (.iface T v) w) := by
  go_enter Tryd.func16, Tryd.ntmps16
  go_wp2
  go_ret
  exact ⟨rfl, rfl⟩
theorem wrap_chain {c a : Int} {ss : List ByteArray} {v : Value} {w : World} (s : ByteArray) (h : Chain w (plainV c a) ss v) : Chain (w.alloc (.cells #[.string s, v] 49)) (plainV c a) (s :: ss) (.iface 47 (.pointer (some ⟨w.heap.size, 0, none⟩))) :=
  ⟨w.heap.size, v, rfl, by simp, by simp, h.below ((Below.refl _ _).alloc (Nat.le_refl _) _)⟩

set_option maxRecDepth 100000 in
theorem code_nil (w : World) : Calls Tryd.prog 9 #[.nilIface] w (Leaves1 (.int .i64 0) w) := by
  have H := Lib.hid (find_nil w)
  have fl := field0
  go_enter Tryd.func9, Tryd.ntmps9
  go_wp2_with fail
  refine H.out.mono ?_
  rintro e w' ⟨rfl, hb⟩
  have HB := Lib.hid hb
  clear hb
  go_wp2_with fail
  go_ret
  exact ⟨rfl, HB.out⟩
set_option maxRecDepth 100000 in
theorem at_nil (w : World) : Calls Tryd.prog 10 #[.nilIface] w (Leaves1 (.int .i64 0) w) := by
  have H := Lib.hid (find_nil w)
  have fl := field1
  go_enter Tryd.func10, Tryd.ntmps10
  go_wp2_with fail
  refine H.out.mono ?_
  rintro e w' ⟨rfl, hb⟩
  have HB := Lib.hid hb
  clear hb
  go_wp2_with fail
  go_ret
  exact ⟨rfl, HB.out⟩
set_option maxRecDepth 100000 in
theorem code_chain (c a : Int) (ss : List ByteArray) (v : Value) (w : World) (hc : c ≠ 0) (hch : Chain w (plainV c a) ss v) (hg : Handle w) : Calls Tryd.prog 9 #[v] w (Leaves1 (.int .i64 c) w) := by
  have H := Lib.hid (find_chain c a ss v w hc hch hg)
  clear hc hch hg
  have fl := field0
  go_enter Tryd.func9, Tryd.ntmps9
  go_wp2_with fail
  refine H.out.mono ?_
  rintro e w' ⟨rfl, hb⟩
  have HB := Lib.hid hb
  clear hb
  go_wp2_with fail
  go_ret
  exact ⟨rfl, HB.out⟩
set_option maxRecDepth 100000 in
theorem at_chain (c a : Int) (ss : List ByteArray) (v : Value) (w : World) (hc : c ≠ 0) (hch : Chain w (plainV c a) ss v) (hg : Handle w) : Calls Tryd.prog 10 #[v] w (Leaves1 (.int .i64 a) w) := by
  have H := Lib.hid (find_chain c a ss v w hc hch hg)
  clear hc hch hg
  have fl := field1
  go_enter Tryd.func10, Tryd.ntmps10
  go_wp2_with fail
  refine H.out.mono ?_
  rintro e w' ⟨rfl, hb⟩
  have HB := Lib.hid hb
  clear hb
  go_wp2_with fail
  go_ret
  exact ⟨rfl, HB.out⟩

set_option maxRecDepth 100000 in
theorem is_nil (d : Int) (w : World) : Calls Tryd.prog 14 #[.nilIface, .int .i64 d] w (Leaves1 (.bool ((0 : Int) == d)) w) := by
  have H := Lib.hid (find_nil w)
  go_enter Tryd.func14, Tryd.ntmps14
  go_wp2_with fail
  refine H.out.mono ?_
  rintro e w' ⟨rfl, hb⟩
  have HB := Lib.hid hb
  clear hb
  go_wp2_with fail
  refine (is_plain 0 0 d w').mono ?_
  rintro e w2 ⟨rfl, hb2⟩
  have HB2 := Lib.hid hb2
  clear hb2
  go_wp2_with fail
  go_ret
  exact ⟨rfl, HB.out.trans (HB2.out.mono HB.out.size)⟩
set_option maxRecDepth 100000 in
theorem is_chain (c a d : Int) (ss : List ByteArray) (v : Value) (w : World) (hc : c ≠ 0) (hch : Chain w (plainV c a) ss v) (hg : Handle w) : Calls Tryd.prog 14 #[v, .int .i64 d] w (Leaves1 (.bool (c == d)) w) := by
  have H := Lib.hid (find_chain c a ss v w hc hch hg)
  clear hc hch hg
  go_enter Tryd.func14, Tryd.ntmps14
  go_wp2_with fail
  refine H.out.mono ?_
  rintro e w' ⟨rfl, hb⟩
  have HB := Lib.hid hb
  clear hb
  go_wp2_with fail
  refine (is_plain c a d w').mono ?_
  rintro e w2 ⟨rfl, hb2⟩
  have HB2 := Lib.hid hb2
  clear hb2
  go_wp2_with fail
  go_ret
  exact ⟨rfl, HB.out.trans (HB2.out.mono HB.out.size)⟩
end Go.Proofs.YtgncdbclpokkhaaDoor
