/-
  More closed facts: the assertions to the concrete types of package fault, and Comparable at a plain error. No condition.
-/
import Derived.Test.YtgncdbclpokkhaaDoorFacts
namespace Go.Proofs.YtgncdbclpokkhaaDoor
open Go.RowKit Go.Extern.Stop Go.Stop Go.Extern
theorem as40at40 (x y : Value) (w : World) : (Instr.typeAssert (.iface 40 (.agg #[x, y])) 26 40 true).run Tryd.prog w = .ok (.tuple #[.agg #[x, y], .bool true]) w := by kernel_rfl
theorem as47at40 (x : Value) (w : World) : (Instr.typeAssert (.iface 47 x) 26 40 true).run Tryd.prog w = .ok (.tuple #[.agg #[.int .i64 0, .int .i64 0], .bool false]) w := by kernel_rfl
theorem as40at47 (x : Value) (w : World) : (Instr.typeAssert (.iface 40 x) 26 47 true).run Tryd.prog w = .ok (.tuple #[.pointer none, .bool false]) w := by kernel_rfl
theorem as47at47 (x : Value) (w : World) : (Instr.typeAssert (.iface 47 x) 26 47 true).run Tryd.prog w = .ok (.tuple #[x, .bool true]) w := by kernel_rfl
theorem asNilat47 (w : World) : (Instr.typeAssert .nilIface 26 47 true).run Tryd.prog w = .ok (.tuple #[.pointer none, .bool false]) w := by kernel_rfl
theorem call81 (w : World) : (callFunc 81 #[.agg #[.pointer (some ⟨5, 40, none⟩)]]).run Tryd.prog w = .ok (.value (.bool true)) w := by kernel_rfl
end Go.Proofs.YtgncdbclpokkhaaDoor
