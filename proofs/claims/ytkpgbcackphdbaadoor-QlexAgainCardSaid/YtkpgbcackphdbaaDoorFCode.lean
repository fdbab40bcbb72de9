/-
  Package fault's Code by its contract: of no error OK, of an error that fail made its code; new blocks alone. Conditions: errors.errorType holds its handle.
-/
import Derived.WalkKit
import Derived.LaidEql
import Derived.Stop.Asserts
import Derived.RowKitTokens
import Derived.Deep.LoopGhost
import Derived.Lib.Hide
import Derived.Outline
import Derived.Deep.DeepFit
import Derived.Defers
import Derived.Recover
import Derived.Laws.ResultCell
import Derived.Test.YtkpgbcackphdbaaDoorSErr
namespace Go.Proofs.YtkpgbcackphdbaaDoor
open Go.RowKit Go.Extern.Stop Go.Stop Go.Extern


theorem et : Tryd.prog.globalNamed "errors.errorType" = some 2 := by kernel_rfl
theorem cells40 : Tryd.prog.cellsOf 47 = 2 := by kernel_rfl

theorem valueOf51 (t : Addr) (w : World) : (ReflectliteValue.unpack (.iface 59 (.pointer (some t)))).run Tryd.prog w
    = .ok (.agg #[.pointer (some ⟨9, 59, none⟩), .pointer (some ⟨w.heap.size, 0, none⟩), .int .u64 150]) (w.alloc (.cells #[.pointer (some t)] 59)) := by kernel_rfl
theorem type51 (a : Addr) (w : World) : (ReflectliteValue.methodAny (ReflectliteValue.valueError "reflectlite.Value.Type" 0) (fun t _ _ _ => ReflectliteType.toType t) #[.agg #[.pointer (some ⟨9, 59, none⟩), .pointer (some a), .int .u64 150]]).run Tryd.prog w
    = .ok (.iface 97 (.agg #[.pointer (some ⟨9, 59, none⟩)])) w := by kernel_rfl
theorem methodKind (h : Value) (w : World) : (Go.method 253 97 (.agg #[h]) "Kind").run Tryd.prog w = .ok (90, h) w := by kernel_rfl
theorem methodElem (h : Value) (w : World) : (Go.method 253 97 (.agg #[h]) "Elem").run Tryd.prog w = .ok (102, .agg #[h]) w := by kernel_rfl
theorem methodImplements (h : Value) (w : World) : (Go.method 253 97 (.agg #[h]) "Implements").run Tryd.prog w = .ok (103, .agg #[h]) w := by kernel_rfl
theorem methodAssignableTo (h : Value) (w : World) : (Go.method 253 97 (.agg #[h]) "AssignableTo").run Tryd.prog w = .ok (100, .agg #[h]) w := by kernel_rfl
theorem methodComparable (h : Value) (w : World) : (Go.method 253 97 (.agg #[h]) "Comparable").run Tryd.prog w = .ok (101, .agg #[h]) w := by kernel_rfl
theorem methodUnwrap (v : Value) (w : World) : (Go.method 253 61 v "Unwrap").run Tryd.prog w = .ok (95, v) w := by kernel_rfl
theorem kind51 (w : World) : ((ReflectliteType.abiMethod fun t => (fun a : Nat => Value.int IntKind.u8 (a : Int)) <$> Rtype.kind t) #[.pointer (some ⟨9, 59, none⟩)]).run Tryd.prog w = .ok (.int .u8 22) w := by kernel_rfl
theorem kind40 (w : World) : ((ReflectliteType.abiMethod fun t => (fun a : Nat => Value.int IntKind.u8 (a : Int)) <$> Rtype.kind t) #[.pointer (some ⟨9, 47, none⟩)]).run Tryd.prog w = .ok (.int .u8 25) w := by kernel_rfl
theorem elem51 (w : World) : (ReflectliteType.method ReflectliteType.elem #[.agg #[.pointer (some ⟨9, 59, none⟩)]]).run Tryd.prog w = .ok (.iface 97 (.agg #[.pointer (some ⟨9, 47, none⟩)])) w := by kernel_rfl
theorem implements40 (w : World) : (ReflectliteType.relation "Implements" ReflectliteType.implements_ #[.agg #[.pointer (some ⟨9, 47, none⟩)], .iface 97 (.agg #[.pointer (some ⟨9, 25, none⟩)])]).run Tryd.prog w = .ok (.bool true) w := by kernel_rfl
theorem typeOf40 (v : Value) (w : World) : (ReflectliteType.typeOf #[.iface 47 v]).run Tryd.prog w = .ok (.iface 97 (.agg #[.pointer (some ⟨9, 47, none⟩)])) w := by kernel_rfl
theorem typeOf47 (v : Value) (w : World) : (ReflectliteType.typeOf #[.iface 61 v]).run Tryd.prog w = .ok (.iface 97 (.agg #[.pointer (some ⟨9, 61, none⟩)])) w := by kernel_rfl
theorem assignable40 (w : World) : (ReflectliteType.relation "AssignableTo" ReflectliteType.assignableTo #[.agg #[.pointer (some ⟨9, 47, none⟩)], .iface 97 (.agg #[.pointer (some ⟨9, 47, none⟩)])]).run Tryd.prog w = .ok (.bool true) w := by kernel_rfl
theorem assignable47 (w : World) : (ReflectliteType.relation "AssignableTo" ReflectliteType.assignableTo #[.agg #[.pointer (some ⟨9, 61, none⟩)], .iface 97 (.agg #[.pointer (some ⟨9, 47, none⟩)])]).run Tryd.prog w = .ok (.bool false) w := by kernel_rfl
theorem comparable40 (w : World) : ((Extern.ReflectliteType.method fun t => (fun a => Value.bool a.comparable) <$> typeInfo t) #[.agg #[.pointer (some ⟨9, 47, none⟩)]]).run Tryd.prog w = .ok (.bool true) w := by kernel_rfl
theorem valueOf40 (c a : Value) (w : World) : (ReflectliteValue.unpack (.iface 47 (.agg #[c, a]))).run Tryd.prog w
    = .ok (.agg #[.pointer (some ⟨9, 47, none⟩), .pointer (some ⟨w.heap.size, 0, none⟩), .int .u64 153]) (w.alloc (.cells #[c, a] 47)) := by kernel_rfl

/-! ### the entries that read or write memory -/
theorem parts51 (a : Addr) (w : World) : (ReflectliteValue.parts (.agg #[.pointer (some ⟨9, 59, none⟩), .pointer (some a), .int .u64 150])).run Tryd.prog w = .ok (some (59, a, 150)) w := by kernel_rfl
theorem method_unfolds (z : Sem Value) (f : TypeId → Addr → Nat → Nat → Sem Value) (v : Value) (t : TypeId) (a : Addr) (fl : Nat) (W : World) (h : (ReflectliteValue.parts v).run Tryd.prog W = .ok (some (t, a, fl)) W) :
    (ReflectliteValue.method z f #[v]).run Tryd.prog W = (f t a fl (fl % 32)).run Tryd.prog W := by
  change Sem.run Tryd.prog (bind (ReflectliteValue.parts v) _) W = _
  rw [Sem.run_bind, h]
  rfl
theorem isNil51 (a p : Addr) (W : World) (ha : W.cell? a = some (.pointer (some p))) :
    (ReflectliteValue.method (ReflectliteValue.valueError "reflectlite.Value.IsNil" 0) ReflectliteValue.isNil #[.agg #[.pointer (some ⟨9, 59, none⟩), .pointer (some a), .int .u64 150]]).run Tryd.prog W = .ok (.bool false) W := by
  rw [method_unfolds _ _ _ _ _ _ _ (parts51 a W)]
  simp [ReflectliteValue.isNil, loadVar, isAgg, underlying, Tryd.underlying59, ha, Result.andThen]
theorem elemOf51 (w : World) : (Rtype.elem? 59).run Tryd.prog w = .ok (some 47) w := by kernel_rfl
theorem mk40 (p : Addr) (w : World) : (ReflectliteValue.mk 47 p ReflectliteValue.flagAddr).run Tryd.prog w = .ok (.agg #[.pointer (some ⟨9, 47, none⟩), .pointer (some p), .int .u64 409]) w := by kernel_rfl
theorem elemV51 (a p : Addr) (W : World) (ha : W.cell? a = some (.pointer (some p))) :
    (ReflectliteValue.method (ReflectliteValue.valueError "reflectlite.Value.Elem" 0) ReflectliteValue.elem #[.agg #[.pointer (some ⟨9, 59, none⟩), .pointer (some a), .int .u64 150]]).run Tryd.prog W
      = .ok (.agg #[.pointer (some ⟨9, 47, none⟩), .pointer (some p), .int .u64 409]) W := by
  rw [method_unfolds _ _ _ _ _ _ _ (parts51 a W)]
  simp [ReflectliteValue.elem, loadVar, isAgg, underlying, Tryd.underlying59, ha, Result.andThen, elemOf51, mk40]
theorem parts40a (a : Addr) (w : World) : (ReflectliteValue.parts (.agg #[.pointer (some ⟨9, 47, none⟩), .pointer (some a), .int .u64 409])).run Tryd.prog w = .ok (some (47, a, 409)) w := by kernel_rfl
theorem parts40 (a : Addr) (w : World) : (ReflectliteValue.parts (.agg #[.pointer (some ⟨9, 47, none⟩), .pointer (some a), .int .u64 153])).run Tryd.prog w = .ok (some (47, a, 153)) w := by kernel_rfl
theorem direct40 (w : World) : (Rtype.directlyAssignable 47 47).run Tryd.prog w = .ok true w := by kernel_rfl
theorem size40 (w : World) : (sizeOf 47).run Tryd.prog w = .ok 2 w := by kernel_rfl

/-! ### the assertions of errors.As and errors.Is -/
theorem noAs47 (v : Value) (xT : TypeId) (w : World) : (Instr.typeAssert (.iface 61 v) xT 102 true).run Tryd.prog w = .ok (.tuple #[.nilIface, .bool false]) w := run_typeAssert_lacksB Tryd.underlying102 (by kernel_rfl) (by kernel_rfl) v xT w
theorem hasUnwrap47 (v : Value) (xT : TypeId) (w : World) : (Instr.typeAssert (.iface 61 v) xT 105 true).run Tryd.prog w = .ok (.tuple #[.iface 61 v, .bool true]) w := run_typeAssert_hasB Tryd.underlying105 (by kernel_rfl) v xT w
theorem noUnwrap40 (v : Value) (xT : TypeId) (w : World) : (Instr.typeAssert (.iface 47 v) xT 105 true).run Tryd.prog w = .ok (.tuple #[.nilIface, .bool false]) w := run_typeAssert_lacksB Tryd.underlying105 (by kernel_rfl) (by kernel_rfl) v xT w
theorem noUnwraps40 (v : Value) (xT : TypeId) (w : World) : (Instr.typeAssert (.iface 47 v) xT 107 true).run Tryd.prog w = .ok (.tuple #[.nilIface, .bool false]) w := run_typeAssert_lacksB Tryd.underlying107 (by kernel_rfl) (by kernel_rfl) v xT w
theorem comp40 : (Tryd.prog.info? 47).map (·.comparable) = some true := by kernel_rfl

theorem set40 (ta b : Addr) (c a : Int) (o0 o1 : Value) (W : World) (hb0 : W.cell? b = some (.int .i64 c)) (hb1 : W.cell? (b.add 1) = some (.int .i64 a))
    (ht0 : W.cell? ta = some o0) (ht1 : W.cell? (ta.add 1) = some o1) (hf0 : W.frozen? ta = false) (hf1 : W.frozen? (ta.add 1) = false) :
    (ReflectliteValue.set #[.agg #[.pointer (some ⟨9, 47, none⟩), .pointer (some ta), .int .u64 409], .agg #[.pointer (some ⟨9, 47, none⟩), .pointer (some b), .int .u64 153]]).run Tryd.prog W
      = .ok (.tuple #[]) ((W.setCell ta (.int .i64 c)).setCell (ta.add 1) (.int .i64 a)) := by
  generalize hV : Value.agg #[.pointer (some ⟨9, 47, none⟩), .pointer (some ta), .int .u64 409] = V
  generalize hX : Value.agg #[.pointer (some ⟨9, 47, none⟩), .pointer (some b), .int .u64 153] = X
  have pV := parts40a ta W
  have pX := parts40 b W
  rw [hV] at pV
  rw [hX] at pX
  have hL : (loadVar 47 b).run Tryd.prog W = .ok (.agg #[.int .i64 c, .int .i64 a]) W := by
    have h2 := run_loadCells_list (P := Tryd.prog) W b [.int .i64 c, .int .i64 a] (by
      intro j v hj
      match j, hj with
      | 0, hj => obtain rfl := Option.some.inj hj; simpa [Addr.add] using hb0
      | 1, hj => obtain rfl := Option.some.inj hj; exact hb1)
    have h3 : (loadCells b 2).run Tryd.prog W = .ok #[.int .i64 c, .int .i64 a] W := h2
    simp [loadVar, isAgg, underlying, Tryd.underlying47, h3, Result.andThen]
  have hne : ta.add 1 ≠ ta := by
    intro h
    have := congrArg Addr.off h
    simp [Addr.add] at this
  have hS : (storeVar 47 ta (.agg #[.int .i64 c, .int .i64 a])).run Tryd.prog W = .ok () ((W.setCell ta (.int .i64 c)).setCell (ta.add 1) (.int .i64 a)) := by
    have hz : ta.add 0 = ta := by simp [Addr.add]
    have s0 : (store ta (.int .i64 c)).run Tryd.prog W = .ok () (W.setCell ta (.int .i64 c)) := by
      rw [run_store Tryd.prog W _ _ _ (by rfl)]
      simp [ht0, hf0]
    have s1 : (store (ta.add 1) (.int .i64 a)).run Tryd.prog (W.setCell ta (.int .i64 c)) = .ok () ((W.setCell ta (.int .i64 c)).setCell (ta.add 1) (.int .i64 a)) := by
      rw [run_store Tryd.prog _ _ _ _ (by rfl), World.cell?_setCell_other (w := W) (a := ta) (b := ta.add 1) (.int .i64 c) hne.symm]
      simp [ht1, hf1]
    simp [storeVar, Value.cells, storeCells, hz, s0, s1, Result.andThen]
  change Sem.run Tryd.prog (bind (ReflectliteValue.parts V) _) W = _
  rw [Sem.run_bind, pV]
  change Sem.run Tryd.prog (bind (ReflectliteValue.parts X) _) W = _
  rw [Sem.run_bind, pX]
  simp [Result.andThen, ReflectliteValue.flagAddr, hL, direct40, hS]


/-- In w the value v is an error that is wrapped by the texts ss (the outermost first) around 'base'. -/
def Chain (w : World) (base : Value) : List ByteArray → Value → Prop
  | [], v => v = base
  | s :: ss, v => ∃ (b : Nat) (v' : Value), v = .iface 61 (.pointer (some ⟨b, 0, none⟩)) ∧ w.cell? ⟨b, 0, none⟩ = some (.string s) ∧ w.cell? ⟨b, 1, none⟩ = some v' ∧ Chain w base ss v'


theorem Chain.below {w w' : World} {base : Value} (hb : Below w.heap.size w w') : ∀ {ss v}, Chain w base ss v → Chain w' base ss v
  | [], _, h => h
  | _ :: _, _, ⟨b, v', h1, h2, h3, h4⟩ => ⟨b, v', h1, (hb.cell (p := ⟨b, 0, none⟩) (lt_of_cell h2)).trans h2, (hb.cell (p := ⟨b, 1, none⟩) (lt_of_cell h3)).trans h3, Chain.below hb h4⟩

/-- A chain's value is an interface value of one of two types. -/
theorem Chain.shape {w : World} {c a : Int} {ss v} (h : Chain w (plainV c a) ss v) : (ss = [] ∧ v = .iface 47 (.agg #[.int .i64 c, .int .i64 a])) ∨ (∃ b, v = .iface 61 (.pointer (some ⟨b, 0, none⟩)) ∧ ss ≠ []) := by
  cases ss with
  | nil => exact Or.inl ⟨rfl, h⟩
  | cons s ss => obtain ⟨b, v', h1, _⟩ := h; exact Or.inr ⟨b, h1, by simp⟩

/-- The same store on both sides. -/
theorem below_setCell {B : Nat} {w w' : World} (h : Below B w w') (p : Addr) (v : Value) : Below B (w.setCell p v) (w'.setCell p v) :=
  ⟨h.os, h.tape, h.output, by simpa [World.setCell] using h.size, fun k hk => by simp [World.setCell, Array.getElem?_modify, h.block k hk]⟩

/-- What errors.As leaves: new blocks, and the target's two cells. -/
def AsOut (tb : Nat) (c a : Int) (w : World) (e : Ending) (w' : World) : Prop :=
  e = .returned (.bool true) ∧ Below w.heap.size ((w.setCell ⟨tb, 0, none⟩ (.int .i64 c)).setCell ⟨tb, 1, none⟩ (.int .i64 a)) w'

set_option maxRecDepth 100000 in
set_option maxHeartbeats 1000000 in
theorem as_inner (c a : Int) (ss : List ByteArray) (v : Value) (tb : Nat) (pa : Addr) (o0 o1 : Value) (w : World) (hch : Chain w (plainV c a) ss v)
    (ht0 : w.cell? ⟨tb, 0, none⟩ = some o0) (ht1 : w.cell? ⟨tb, 1, none⟩ = some o1) (hf0 : w.frozen? ⟨tb, 0, none⟩ = false) (hf1 : w.frozen? ⟨tb, 1, none⟩ = false) (hpa : w.cell? pa = some (.pointer (some ⟨tb, 0, none⟩))) :
    Calls Tryd.prog 50 #[v, .iface 59 (.pointer (some ⟨tb, 0, none⟩)), .agg #[.pointer (some ⟨9, 59, none⟩), .pointer (some pa), .int .u64 150], .iface 97 (.agg #[.pointer (some ⟨9, 47, none⟩)])] w (AsOut tb c a w) := by
  have h29 := @run_callFunc_extern Tryd.prog 59 _ ReflectliteType.typeOf Tryd.func59 (by kernel_rfl) (by kernel_rfl) (by kernel_rfl) (by kernel_rfl)
  have h80 := @run_callFunc_extern Tryd.prog 100 _ (ReflectliteType.relation "AssignableTo" ReflectliteType.assignableTo) Tryd.func100 (by kernel_rfl) (by kernel_rfl) (by kernel_rfl) (by kernel_rfl)
  have h38 := @run_callFunc_extern Tryd.prog 60 _ (ReflectliteValue.method (ReflectliteValue.valueError "reflectlite.Value.Elem" 0) ReflectliteValue.elem) Tryd.func60 (by kernel_rfl) (by kernel_rfl) (by kernel_rfl) (by kernel_rfl)
  have h39 := @run_callFunc_extern Tryd.prog 61 _ ReflectliteValue.set Tryd.func61 (by kernel_rfl) (by kernel_rfl) (by kernel_rfl) (by kernel_rfl)
  have h31 := @run_callFunc_extern Tryd.prog 47 _ (fun args => ReflectliteValue.unpack (args.getD 0 (.tuple #[]))) Tryd.func47 (by kernel_rfl) (by kernel_rfl) (by kernel_rfl) (by kernel_rfl)
  have t40 := typeOf40
  have t47 := typeOf47
  have a40 := assignable40
  have a47 := assignable47
  have v40 := valueOf40
  have mA := methodAssignableTo
  have mU := methodUnwrap
  have nA := noAs47
  have hU := hasUnwrap47
  have htl : tb < w.heap.size := lt_of_cell ht0
  have hpl : pa.block < w.heap.size := by
    rcases Nat.lt_or_ge pa.block w.heap.size with h | h
    · exact h
    · simp [World.cell?, Array.getElem?_eq_none h] at hpa
  have el := elemV51 pa ⟨tb, 0, none⟩ (w.alloc (.cells #[.pointer (some ⟨9, 59, none⟩), .pointer (some pa), .int .u64 150] 76)) (by rw [World.cell?_alloc_lt _ _ pa hpl]; exact hpa)
  have st := set40 ⟨tb, 0, none⟩ ⟨w.heap.size + 1, 0, none⟩ c a o0 o1 ((w.alloc (.cells #[.pointer (some ⟨9, 59, none⟩), .pointer (some pa), .int .u64 150] 76)).alloc (.cells #[.int .i64 c, .int .i64 a] 47))
    (by rw [World.cell?_alloc_at _ _ _ _ (by simp)]; rfl) (by show World.cell? _ ⟨w.heap.size + 1, 1, none⟩ = _; rw [World.cell?_alloc_at _ _ _ _ (by simp)]; rfl)
    (by rw [World.cell?_alloc_lt _ _ ⟨tb, 0, none⟩ (by simp; omega), World.cell?_alloc_lt _ _ ⟨tb, 0, none⟩ htl]; exact ht0)
    (by show World.cell? _ ⟨tb, 1, none⟩ = _; rw [World.cell?_alloc_lt _ _ ⟨tb, 1, none⟩ (by simp; omega), World.cell?_alloc_lt _ _ ⟨tb, 1, none⟩ htl]; exact ht1)
    (by rw [World.frozen?_alloc_old _ _ ⟨tb, 0, none⟩ (by simp; omega), World.frozen?_alloc_old _ _ ⟨tb, 0, none⟩ (Nat.ne_of_lt htl)]; exact hf0)
    (by show World.frozen? _ ⟨tb, 1, none⟩ = _; rw [World.frozen?_alloc_old _ _ ⟨tb, 1, none⟩ (by simp; omega), World.frozen?_alloc_old _ _ ⟨tb, 1, none⟩ (Nat.ne_of_lt htl)]; exact hf1)
  clear ht0 ht1 hf0 hf1
  go_enter Tryd.func50, Tryd.ntmps50
  go_wp2
  go_loopg [0] (ss.length) (fun k x wr => ∃ ss', ss'.length = k ∧ Chain w (plainV c a) ss' x ∧ wr = w.alloc (.cells #[.pointer (some ⟨9, 59, none⟩), .pointer (some pa), .int .u64 150] 76))
  case atStart => exact ⟨ss, rfl, hch, rfl⟩
  case round =>
    obtain ⟨ss', hk, hc, rfl⟩ := hrel
    cases ss' with
    | nil =>
      obtain rfl : _ = plainV c a := hc
      unfold plainV
      clear hk
      go_wp2
      go_ret
      exact ⟨rfl, ((Below.refl _ _).alloc (by simp) _).alloc (by simp) _⟩
    | cons s r =>
      obtain ⟨b, v', rfl, _, hc1, hr⟩ := hc
      have hc1' : (w.alloc (.cells #[.pointer (some ⟨9, 59, none⟩), .pointer (some pa), .int .u64 150] 76)).cell? ⟨b, 1, none⟩ = some v' := by
        rw [World.cell?_alloc_lt _ _ ⟨b, 1, none⟩ (lt_of_cell hc1)]; exact hc1
      have hbl : b < w.heap.size := lt_of_cell hc1
      rcases hr.shape with ⟨rfl, hv⟩ | ⟨b', hv, hne⟩
      · subst hv
        have HK := Lib.hid hk
        have HR := Lib.hid hr
        clear hk hch hr
        go_wp2
        go_roundg 0
        case measure => have := HK.out; simp at this; omega
        case rel => exact ⟨[], rfl, HR.out, rfl⟩
      · subst hv
        have HK := Lib.hid hk
        have HR := Lib.hid hr
        clear hk hch hr hne
        go_wp2
        go_roundg r.length
        case measure => have := HK.out; simp at this; omega
        case rel => exact ⟨r, rfl, HR.out, rfl⟩

set_option maxRecDepth 100000 in
set_option maxHeartbeats 1000000 in
theorem as_chain (c a : Int) (ss : List ByteArray) (v : Value) (tb : Nat) (o0 o1 : Value) (w : World) (hch : Chain w (plainV c a) ss v) (hg : w.cell? ⟨2, 0, none⟩ = some (.iface 97 (.agg #[.pointer (some ⟨9, 25, none⟩)])))
    (ht0 : w.cell? ⟨tb, 0, none⟩ = some o0) (ht1 : w.cell? ⟨tb, 1, none⟩ = some o1) (hf0 : w.frozen? ⟨tb, 0, none⟩ = false) (hf1 : w.frozen? ⟨tb, 1, none⟩ = false) :
    Calls Tryd.prog 33 #[v, .iface 59 (.pointer (some ⟨tb, 0, none⟩))] w (AsOut tb c a w) := by
  have h31 := @run_callFunc_extern Tryd.prog 47 _ (fun args => ReflectliteValue.unpack (args.getD 0 (.tuple #[]))) Tryd.func47 (by kernel_rfl) (by kernel_rfl) (by kernel_rfl) (by kernel_rfl)
  have h32 := @run_callFunc_extern Tryd.prog 48 _ (ReflectliteValue.methodAny (ReflectliteValue.valueError "reflectlite.Value.Type" 0) (fun t _ _ _ => ReflectliteType.toType t)) Tryd.func48 (by kernel_rfl) (by kernel_rfl) (by kernel_rfl) (by kernel_rfl)
  have h33 := @run_callFunc_extern Tryd.prog 49 _ (ReflectliteValue.method (ReflectliteValue.valueError "reflectlite.Value.IsNil" 0) ReflectliteValue.isNil) Tryd.func49 (by kernel_rfl) (by kernel_rfl) (by kernel_rfl) (by kernel_rfl)
  have h69 := @run_callFunc_extern Tryd.prog 90 _ (ReflectliteType.abiMethod fun t => do pure (.int .u8 (← Rtype.kind t))) Tryd.func90 (by kernel_rfl) (by kernel_rfl) (by kernel_rfl) (by kernel_rfl)
  have h82 := @run_callFunc_extern Tryd.prog 102 _ (ReflectliteType.method ReflectliteType.elem) Tryd.func102 (by kernel_rfl) (by kernel_rfl) (by kernel_rfl) (by kernel_rfl)
  have h83 := @run_callFunc_extern Tryd.prog 103 _ (ReflectliteType.relation "Implements" ReflectliteType.implements_) Tryd.func103 (by kernel_rfl) (by kernel_rfl) (by kernel_rfl) (by kernel_rfl)
  have v51 := valueOf51
  have y51 := type51
  have mK := methodKind
  have mE := methodElem
  have mI := methodImplements
  have k51 := kind51
  have k40 := kind40
  have e51 := elem51
  have i40 := implements40
  have htl : tb < w.heap.size := lt_of_cell ht0
  have n33 := isNil51 ⟨w.heap.size, 0, none⟩ ⟨tb, 0, none⟩ ((w.alloc (.cells #[.pointer (some ⟨tb, 0, none⟩)] 59)).alloc (.cells #[.pointer (some ⟨9, 59, none⟩), .pointer (some ⟨w.heap.size, 0, none⟩), .int .u64 150] 76)) (by simp)
  have hlt : 2 < w.heap.size := lt_of_cell hg
  have hg2 : ((w.alloc (.cells #[.pointer (some ⟨tb, 0, none⟩)] 59)).alloc (.cells #[.pointer (some ⟨9, 59, none⟩), .pointer (some ⟨w.heap.size, 0, none⟩), .int .u64 150] 76)).cell? ⟨2, 0, none⟩ = some (.iface 97 (.agg #[.pointer (some ⟨9, 25, none⟩)])) := by
    rw [World.cell?_alloc_lt _ _ ⟨2, 0, none⟩ (by simp; omega), World.cell?_alloc_lt _ _ ⟨2, 0, none⟩ hlt]; exact hg
  have hbl : Below w.heap.size w ((w.alloc (.cells #[.pointer (some ⟨tb, 0, none⟩)] 59)).alloc (.cells #[.pointer (some ⟨9, 59, none⟩), .pointer (some ⟨w.heap.size, 0, none⟩), .int .u64 150] 76)) := ((Below.refl _ _).alloc (Nat.le_refl _) _).alloc (by simp) _
  have H := as_inner c a ss v tb ⟨w.heap.size, 0, none⟩ o0 o1 _ (hch.below hbl) ((hbl.cell (p := ⟨tb, 0, none⟩) htl).trans ht0) ((hbl.cell (p := ⟨tb, 1, none⟩) htl).trans ht1) ((hbl.frozen (p := ⟨tb, 0, none⟩) htl).trans hf0) ((hbl.frozen (p := ⟨tb, 1, none⟩) htl).trans hf1) (by simp)
  have HH := Lib.hid H
  have HS := Lib.hid (below_setCell (below_setCell hbl ⟨tb, 0, none⟩ (.int .i64 c)) ⟨tb, 1, none⟩ (.int .i64 a))
  rcases hch.shape with ⟨_, rfl⟩ | ⟨b', rfl, _⟩
  · clear hch H hbl ht0 ht1 hf0 hf1
    go_enter Tryd.func33, Tryd.ntmps33
    go_wp2_with fail
    refine HH.out.mono ?_
    rintro e w' ⟨rfl, hb⟩
    have HB := Lib.hid hb
    clear hb
    go_wp2_with fail
    go_ret
    exact ⟨rfl, (HS.out).trans (HB.out.mono (by simp; omega))⟩
  · clear hch H hbl ht0 ht1 hf0 hf1
    go_enter Tryd.func33, Tryd.ntmps33
    go_wp2_with fail
    refine HH.out.mono ?_
    rintro e w' ⟨rfl, hb⟩
    have HB := Lib.hid hb
    clear hb
    go_wp2_with fail
    go_ret
    exact ⟨rfl, (HS.out).trans (HB.out.mono (by simp; omega))⟩
theorem as40at40 (x y : Value) (w : World) : (Instr.typeAssert (.iface 47 (.agg #[x, y])) 25 47 true).run Tryd.prog w = .ok (.tuple #[.agg #[x, y], .bool true]) w := by kernel_rfl

/-- The handle of the type 'error' stands in errors.errorType. -/
def Handle (w : World) : Prop := w.cell? ⟨2, 0, none⟩ = some (.iface 97 (.agg #[.pointer (some ⟨9, 25, none⟩)]))
theorem Handle.below {w w' : World} (h : Handle w) (hb : Below w.heap.size w w') : Handle w' := (hb.cell (p := ⟨2, 0, none⟩) (lt_of_cell h)).trans h

theorem catch_idle (p : Addr) (w : World) :
    CallsD Tryd.prog 32 #[.pointer (some p)] .returning w fun e u' w' => e = .returned (.tuple #[]) ∧ u' = .returning ∧ w' = w := by
  refine callsD_of_wpS Tryd.func32 rfl fun c₀ cs hu => ?_
  apply wpS_seq
  apply wpS_region
  simp [wpOpsS, go_sem, recoverD, hu, Tryd.ntmps32, Exit.thenS]
  refine wpS_cond (t := false) (by simp [Act.eval, Array.replicate]) ?_
  simp only [Bool.false_eq_true, if_false]
  refine wpS_of_wp (wp_skip ?_)
  cases c₀
  simp_all [bodyPostS, results, Tryd.results32]

/-- A plain error, and new blocks. -/
def FindOut (c a : Int) (w : World) (e : Ending) (w' : World) : Prop := e = .returned (.agg #[.int .i64 c, .int .i64 a]) ∧ Below w.heap.size w w'

set_option maxRecDepth 100000 in
set_option maxHeartbeats 1000000 in
theorem find_nil (w : World) : Calls Tryd.prog 17 #[.nilIface] w (FindOut 0 0 w) := by
  go_enter_defers Tryd.func17, Tryd.ntmps17
  go_wp2
  simp [bodyPostD, Go.Leaves, results, Tryd.results17, go_sem]
  exact ⟨rfl, (Below.refl _ _).alloc (Nat.le_refl _) _⟩

set_option maxRecDepth 100000 in
set_option maxHeartbeats 1000000 in
theorem find_chain (c a : Int) (ss : List ByteArray) (v : Value) (w : World) (hc : c ≠ 0) (hch : Chain w (plainV c a) ss v) (hg : Handle w) : Calls Tryd.prog 17 #[v] w (FindOut c a w) := by
  have hmf : ∀ (fn : Fn) (first cap : Array Value) (w : World), (Instr.makeFunc fn first cap).run Tryd.prog w = .ok (.func fn first cap) w := fun _ _ _ _ => rfl
  have hb : Below w.heap.size w (w.alloc (.cells #[.int .i64 0, .int .i64 0] 47)) := (Below.refl _ _).alloc (Nat.le_refl _) _
  have HA := Lib.hid (as_chain c a ss v w.heap.size (.int .i64 0) (.int .i64 0) _ (hch.below hb) (hg.below hb) (by simp) (by simp) (by simp) (by simp))
  have h0 : (c == 0) = false := beq_eq_false_iff_ne.2 hc
  rcases hch.shape with ⟨_, rfl⟩ | ⟨b', rfl, _⟩
  · clear hch hg hb hc
    go_enter_defers Tryd.func17, Tryd.ntmps17
    go_wp2_with fail
    refine HA.out.mono ?_
    rintro e w' ⟨rfl, hb⟩
    have hlt : w.heap.size < (w.alloc (.cells #[.int .i64 0, .int .i64 0] 47)).heap.size := by simp
    have h1 : w'.cell? ⟨w.heap.size, 0, none⟩ = some (.int .i64 c) := by
      rw [hb.cell (p := ⟨w.heap.size, 0, none⟩) hlt]; simp [go_sem]
    have h2 : w'.cell? ⟨w.heap.size, 1, none⟩ = some (.int .i64 a) := by
      rw [hb.cell (p := ⟨w.heap.size, 1, none⟩) hlt]; simp [go_sem]
    have f1 : w'.frozen? ⟨w.heap.size, 0, none⟩ = false := by
      rw [hb.frozen (p := ⟨w.heap.size, 0, none⟩) hlt, World.frozen?_setCell, World.frozen?_setCell]; simp
    have f2 : w'.frozen? ⟨w.heap.size, 1, none⟩ = false := by
      rw [hb.frozen (p := ⟨w.heap.size, 1, none⟩) hlt, World.frozen?_setCell, World.frozen?_setCell]; simp
    have HB := Lib.hid hb
    clear hb
    go_wp2_with fail
    refine leaves_cons (f := 32) (args := #[.pointer (some ⟨w.heap.size, 0, none⟩)]) (by simp) (by simp [go_sem]) ?_
    refine (catch_idle ⟨w.heap.size, 0, none⟩ _).mono ?_
    rintro e u' w'' ⟨rfl, rfl, rfl⟩
    simp [Go.Leaves, settle, results, Tryd.results17, go_sem, h1, h2]
    have k0 : Below w.heap.size w (((w.alloc (.cells #[.int .i64 0, .int .i64 0] 47)).setCell ⟨w.heap.size, 0, none⟩ (.int .i64 c)).setCell ⟨w.heap.size, 1, none⟩ (.int .i64 a)) :=
      Below.setCell (Below.setCell ((Below.refl _ _).alloc (Nat.le_refl _) _) (p := ⟨w.heap.size, 0, none⟩) (Nat.le_refl _) _) (p := ⟨w.heap.size, 1, none⟩) (Nat.le_refl _) _
    have k1 := k0.trans (HB.out.mono (by simp))
    exact ⟨rfl, Below.setCell (Below.setCell k1 (p := ⟨w.heap.size, 0, none⟩) (Nat.le_refl _) _) (p := ⟨w.heap.size, 1, none⟩) (Nat.le_refl _) _⟩
  · clear hch hg hb hc
    go_enter_defers Tryd.func17, Tryd.ntmps17
    go_wp2_with fail
    refine HA.out.mono ?_
    rintro e w' ⟨rfl, hb⟩
    have hlt : w.heap.size < (w.alloc (.cells #[.int .i64 0, .int .i64 0] 47)).heap.size := by simp
    have h1 : w'.cell? ⟨w.heap.size, 0, none⟩ = some (.int .i64 c) := by
      rw [hb.cell (p := ⟨w.heap.size, 0, none⟩) hlt]; simp [go_sem]
    have h2 : w'.cell? ⟨w.heap.size, 1, none⟩ = some (.int .i64 a) := by
      rw [hb.cell (p := ⟨w.heap.size, 1, none⟩) hlt]; simp [go_sem]
    have f1 : w'.frozen? ⟨w.heap.size, 0, none⟩ = false := by
      rw [hb.frozen (p := ⟨w.heap.size, 0, none⟩) hlt, World.frozen?_setCell, World.frozen?_setCell]; simp
    have f2 : w'.frozen? ⟨w.heap.size, 1, none⟩ = false := by
      rw [hb.frozen (p := ⟨w.heap.size, 1, none⟩) hlt, World.frozen?_setCell, World.frozen?_setCell]; simp
    have HB := Lib.hid hb
    clear hb
    go_wp2_with fail
    refine leaves_cons (f := 32) (args := #[.pointer (some ⟨w.heap.size, 0, none⟩)]) (by simp) (by simp [go_sem]) ?_
    refine (catch_idle ⟨w.heap.size, 0, none⟩ _).mono ?_
    rintro e u' w'' ⟨rfl, rfl, rfl⟩
    simp [Go.Leaves, settle, results, Tryd.results17, go_sem, h1, h2]
    have k0 : Below w.heap.size w (((w.alloc (.cells #[.int .i64 0, .int .i64 0] 47)).setCell ⟨w.heap.size, 0, none⟩ (.int .i64 c)).setCell ⟨w.heap.size, 1, none⟩ (.int .i64 a)) :=
      Below.setCell (Below.setCell ((Below.refl _ _).alloc (Nat.le_refl _) _) (p := ⟨w.heap.size, 0, none⟩) (Nat.le_refl _) _) (p := ⟨w.heap.size, 1, none⟩) (Nat.le_refl _) _
    have k1 := k0.trans (HB.out.mono (by simp))
    exact ⟨rfl, Below.setCell (Below.setCell k1 (p := ⟨w.heap.size, 0, none⟩) (Nat.le_refl _) _) (p := ⟨w.heap.size, 1, none⟩) (Nat.le_refl _) _⟩
theorem field0 (c a : Int) (w : World) : (Instr.field 47 (.agg #[.int .i64 c, .int .i64 a]) 0).run Tryd.prog w = .ok (.int .i64 c) w := by kernel_rfl

/-- A value, and new blocks. -/
def Leaves1 (v : Value) (w : World) (e : Ending) (w' : World) : Prop := e = .returned v ∧ Below w.heap.size w w'


set_option maxRecDepth 100000 in
theorem code_nil (w : World) : Calls Tryd.prog 8 #[.nilIface] w (Leaves1 (.int .i64 0) w) := by
  have H := Lib.hid (find_nil w)
  have fl := field0
  go_enter Tryd.func8, Tryd.ntmps8
  go_wp2_with fail
  refine H.out.mono ?_
  rintro e w' ⟨rfl, hb⟩
  have HB := Lib.hid hb
  clear hb
  go_wp2_with fail
  go_ret
  exact ⟨rfl, HB.out⟩

set_option maxRecDepth 100000 in
theorem code_chain (c a : Int) (ss : List ByteArray) (v : Value) (w : World) (hc : c ≠ 0) (hch : Chain w (plainV c a) ss v) (hg : Handle w) : Calls Tryd.prog 8 #[v] w (Leaves1 (.int .i64 c) w) := by
  have H := Lib.hid (find_chain c a ss v w hc hch hg)
  clear hc hch hg
  have fl := field0
  go_enter Tryd.func8, Tryd.ntmps8
  go_wp2_with fail
  refine H.out.mono ?_
  rintro e w' ⟨rfl, hb⟩
  have HB := Lib.hid hb
  clear hb
  go_wp2_with fail
  go_ret
  exact ⟨rfl, HB.out⟩

theorem ErrAt.chain {B : Nat} {w : World} {c n : Int} {v : Value} (h : ErrAt B w c n v) (hc : c ≠ 0) : Chain w (plainV c n) [segS] v := by
  rcases h with ⟨h, _⟩ | ⟨_, b, h1, h2, h3, _⟩
  · exact absurd h hc
  · exact ⟨b, _, h1, h2, h3, rfl⟩
/-- Code: the code of an error that fail made. -/
theorem code_calls {B : Nat} (c n : Int) (v : Value) (w : World) (h : ErrAt B w c n v) (hg : Handle w) : Calls Tryd.prog 8 #[v] w (Leaves1 (.int .i64 c) w) := by
  by_cases hc : c = 0
  · rcases h with ⟨_, rfl⟩ | ⟨h0, _⟩
    · subst hc; exact code_nil w
    · exact absurd hc h0
  · exact code_chain c n [segS] v w hc (h.chain hc) hg

end Go.Proofs.YtkpgbcackphdbaaDoor
