/-
  errors.Is by its contract, at two plain errors of which the second has the place 0: whether the codes are one. No condition.
-/
import Derived.Test.YtgncdbclpokkhaaDoorChain
import Derived.Laws.StructEq
import Derived.Test.YtgncdbclpokkhaaDoorMore
namespace Go.Proofs.YtgncdbclpokkhaaDoor
open Go.RowKit Go.Extern.Stop Go.Stop Go.Extern

theorem stood40 : Tryd.prog.stoodInHeld 40 = false := by kernel_rfl
theorem equalIn_plain (d : Nat) (c a c' a' : Int) (w : World) :
    (Op.equalIn (d + 2) 40 (.agg #[.int .i64 c, .int .i64 a]) (.agg #[.int .i64 c', .int .i64 a'])).run Tryd.prog w = .ok (c == c' && a == a') w := by
  rw [run_equalIn_struct w (d + 1) 40 _ _ (by simp [Program.fieldsOf, Tryd.underlying40]) stood40]
  simp [Program.fieldsOf, Tryd.underlying40, Op.eqFields, go_sem, Tryd.underlying22, Tryd.underlying3]
  by_cases h : c = c' <;> by_cases h' : a = a' <;> simp [h, h']
theorem eql_plain (c a c' a' : Int) (w : World) :
    (binOp .eql 26 (.iface 40 (.agg #[.int .i64 c, .int .i64 a])) (.iface 40 (.agg #[.int .i64 c', .int .i64 a']))).run Tryd.prog w = .ok (.bool (c == c' && a == a')) w := by
  obtain ⟨i, hi, hcmp⟩ := Option.map_eq_some_iff.1 comp40
  have h : ∀ d : Nat, (Op.equalIn (d + 3) 26 (.iface 40 (.agg #[.int .i64 c, .int .i64 a])) (.iface 40 (.agg #[.int .i64 c', .int .i64 a']))).run Tryd.prog w = .ok (c == c' && a == a') w := by
    intro d
    have hp := equalIn_plain d c a c' a' w
    generalize Value.agg #[.int .i64 c, .int .i64 a] = x at *
    generalize Value.agg #[.int .i64 c', .int .i64 a'] = y at *
    rw [Op.equalIn]
    simp [run_underlying Tryd.underlying26, typeInfo, hi, hcmp, hp]
  simp only [binOp]
  simp [Op.equal, Op.maxDepth, h 9997]

/-- What errors.Is leaves: the answer, and new blocks. -/
def IsOut (b : Bool) (w : World) (e : Ending) (w' : World) : Prop := e = .returned (.bool b) ∧ Below w.heap.size w w'

set_option maxRecDepth 100000 in
set_option maxHeartbeats 1000000 in
theorem is_same (c a : Int) (w : World) (ha : a ≠ 0) :
    Calls Tryd.prog 30 #[.iface 40 (.agg #[.int .i64 c, .int .i64 a]), .iface 40 (.agg #[.int .i64 c, .int .i64 0]), .bool true] w (IsOut true w) := by
  have heq := eql_plain c a c 0 w
  rw [show (c == c && a == (0 : Int)) = false from by simp [ha]] at heq
  have hI := hasIs40
  have h44 := as40at40
  have mI := methodIs
  clear ha
  go_enter Tryd.func30, Tryd.ntmps30
  go_wp2
  refine wp_loop_rounds 1 ?_
  rw [rounds_succ]
  go_wp2
  go_ret
  exact ⟨rfl, ((Below.refl _ _).alloc (Nat.le_refl _) _).alloc (by simp) _⟩

set_option maxRecDepth 100000 in
set_option maxHeartbeats 1000000 in
theorem is_same0 (c : Int) (w : World) :
    Calls Tryd.prog 30 #[.iface 40 (.agg #[.int .i64 c, .int .i64 0]), .iface 40 (.agg #[.int .i64 c, .int .i64 0]), .bool true] w (IsOut true w) := by
  have heq := eql_plain c 0 c 0 w
  rw [show (c == c && (0 : Int) == (0 : Int)) = true from by simp] at heq
  go_enter Tryd.func30, Tryd.ntmps30
  go_wp2
  refine wp_loop_rounds 1 ?_
  rw [rounds_succ]
  go_wp2
  go_ret
  exact ⟨rfl, Below.refl _ _⟩

set_option maxRecDepth 100000 in
set_option maxHeartbeats 1000000 in
theorem is_other (c a d : Int) (w : World) (hd : c ≠ d) :
    Calls Tryd.prog 30 #[.iface 40 (.agg #[.int .i64 c, .int .i64 a]), .iface 40 (.agg #[.int .i64 d, .int .i64 0]), .bool true] w (IsOut false w) := by
  have heq := eql_plain c a d 0 w
  rw [show (c == d && a == (0 : Int)) = false from by simp [hd]] at heq
  have hI := hasIs40
  have h44 := as40at40
  have mI := methodIs
  have nU := noUnwrap40
  have nV := noUnwraps40
  have hcd : (d == c) = false := by simp [Ne.symm hd]
  clear hd
  go_enter Tryd.func30, Tryd.ntmps30
  go_wp2
  refine wp_loop_rounds 1 ?_
  rw [rounds_succ]
  go_wp2
  go_ret
  exact ⟨rfl, ((Below.refl _ _).alloc (Nat.le_refl _) _).alloc (by simp) _⟩

theorem is_inner (c a d : Int) (w : World) :
    Calls Tryd.prog 30 #[.iface 40 (.agg #[.int .i64 c, .int .i64 a]), .iface 40 (.agg #[.int .i64 d, .int .i64 0]), .bool true] w (IsOut (c == d) w) := by
  by_cases h : c = d
  · subst h
    rw [beq_self_eq_true]
    by_cases ha : a = 0
    · subst ha; exact is_same0 c w
    · exact is_same c a w ha
  · rw [beq_eq_false_iff_ne.2 h]
    exact is_other c a d w h

set_option maxRecDepth 100000 in
set_option maxHeartbeats 1000000 in
theorem is_plain (c a d : Int) (w : World) :
    Calls Tryd.prog 22 #[.iface 40 (.agg #[.int .i64 c, .int .i64 a]), .iface 40 (.agg #[.int .i64 d, .int .i64 0])] w (IsOut (c == d) w) := by
  have h29 := @run_callFunc_extern Tryd.prog 29 _ ReflectliteType.typeOf Tryd.func29 (by kernel_rfl) (by kernel_rfl) (by kernel_rfl) (by kernel_rfl)
  have h81 := call81
  have tT := typeOf40
  have mC := methodComparable
  have H := Lib.hid (is_inner c a d w)
  go_enter Tryd.func22, Tryd.ntmps22
  go_wp2_with fail
  refine H.out.mono ?_
  rintro e w' ⟨rfl, hb⟩
  have HB := Lib.hid hb
  clear hb
  go_wp2_with fail
  go_ret
  exact ⟨rfl, HB.out⟩
end Go.Proofs.YtgncdbclpokkhaaDoor
