/-
  The place of an error. Conditions: the error is one that fail made, or none; errors.errorType holds its handle.
-/
import Derived.Test.YtkpgbcackphdbaaDoorFCode
namespace Go.Proofs.YtkpgbcackphdbaaDoor
open Go.RowKit Go.Lib Go.Joins

theorem field1 (c a : Int) (w : World) : (Instr.field 47 (.agg #[.int .i64 c, .int .i64 a]) 1).run Tryd.prog w = .ok (.int .i64 a) w := by kernel_rfl
set_option maxRecDepth 100000 in
theorem at_nil (w : World) : Calls Tryd.prog 11 #[.nilIface] w (Leaves1 (.int .i64 0) w) := by
  have H := Lib.hid (find_nil w)
  have fl := field1
  go_enter Tryd.func11, Tryd.ntmps11
  go_wp2_with fail
  refine H.out.mono ?_
  rintro e w' ⟨rfl, hb⟩
  have HB := Lib.hid hb
  clear hb
  go_wp2_with fail
  go_ret
  exact ⟨rfl, HB.out⟩
set_option maxRecDepth 100000 in
theorem at_chain (c a : Int) (ss : List ByteArray) (v : Value) (w : World) (hc : c ≠ 0) (hch : Chain w (plainV c a) ss v) (hg : Handle w) : Calls Tryd.prog 11 #[v] w (Leaves1 (.int .i64 a) w) := by
  have H := Lib.hid (find_chain c a ss v w hc hch hg)
  clear hc hch hg
  have fl := field1
  go_enter Tryd.func11, Tryd.ntmps11
  go_wp2_with fail
  refine H.out.mono ?_
  rintro e w' ⟨rfl, hb⟩
  have HB := Lib.hid hb
  clear hb
  go_wp2_with fail
  go_ret
  exact ⟨rfl, HB.out⟩
/-- At: the place of an error that fail made; 0, if there is none. -/
theorem at_calls {B : Nat} (c n : Int) (v : Value) (w : World) (h : ErrAt B w c n v) (hg : Handle w) : Calls Tryd.prog 11 #[v] w (Leaves1 (.int .i64 (if c = 0 then 0 else n)) w) := by
  by_cases hc : c = 0
  · rcases h with ⟨_, rfl⟩ | ⟨h0, _⟩
    · subst hc; exact at_nil w
    · exact absurd hc h0
  · rw [if_neg hc]
    exact at_chain c n [segS] v w hc (h.chain hc) hg

end Go.Proofs.YtkpgbcackphdbaaDoor
