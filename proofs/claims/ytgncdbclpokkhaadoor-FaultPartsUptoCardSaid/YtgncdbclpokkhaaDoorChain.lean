/-
  errors.As by its contract, at an error that wraps a plain one however often: true, and the target's two cells are the plain error's. Conditions: the target's cells are there and not frozen; errors.errorType holds its handle.
-/
import Derived.Test.YtgncdbclpokkhaaDoorSet
import Derived.Deep.LoopGhost
import Derived.Lib.Hide
import Derived.Outline
import Derived.Deep.DeepFit
namespace Go.Proofs.YtgncdbclpokkhaaDoor
open Go.RowKit Go.Extern.Stop Go.Stop Go.Extern

/-- A plain error's value. -/
def plainV (c a : Int) : Value := .iface 40 (.agg #[.int .i64 c, .int .i64 a])

/-- In w the value v is an error that is wrapped by the texts ss (the outermost first) around 'base'. -/
def Chain (w : World) (base : Value) : List ByteArray → Value → Prop
  | [], v => v = base
  | s :: ss, v => ∃ (b : Nat) (v' : Value), v = .iface 47 (.pointer (some ⟨b, 0, none⟩)) ∧ w.cell? ⟨b, 0, none⟩ = some (.string s) ∧ w.cell? ⟨b, 1, none⟩ = some v' ∧ Chain w base ss v'

theorem lt_of_cell {w : World} {b o : Nat} {v : Value} (h : w.cell? ⟨b, o, none⟩ = some v) : b < w.heap.size := by
  rcases Nat.lt_or_ge b w.heap.size with h' | h'
  · exact h'
  · simp [World.cell?, Array.getElem?_eq_none h'] at h

theorem Chain.below {w w' : World} {base : Value} (hb : Below w.heap.size w w') : ∀ {ss v}, Chain w base ss v → Chain w' base ss v
  | [], _, h => h
  | _ :: _, _, ⟨b, v', h1, h2, h3, h4⟩ => ⟨b, v', h1, (hb.cell (p := ⟨b, 0, none⟩) (lt_of_cell h2)).trans h2, (hb.cell (p := ⟨b, 1, none⟩) (lt_of_cell h3)).trans h3, Chain.below hb h4⟩

/-- A chain's value is an interface value of one of two types. -/
theorem Chain.shape {w : World} {c a : Int} {ss v} (h : Chain w (plainV c a) ss v) : (ss = [] ∧ v = .iface 40 (.agg #[.int .i64 c, .int .i64 a])) ∨ (∃ b, v = .iface 47 (.pointer (some ⟨b, 0, none⟩)) ∧ ss ≠ []) := by
  cases ss with
  | nil => exact Or.inl ⟨rfl, h⟩
  | cons s ss => obtain ⟨b, v', h1, _⟩ := h; exact Or.inr ⟨b, h1, by simp⟩

/-- The same store on both sides. -/
theorem below_setCell {B : Nat} {w w' : World} (h : Below B w w') (p : Addr) (v : Value) : Below B (w.setCell p v) (w'.setCell p v) :=
  ⟨h.os, h.tape, h.output, by simpa [World.setCell] using h.size, fun k hk => by simp [World.setCell, Array.getElem?_modify, h.block k hk]⟩

/-- What errors.As leaves: new blocks, and the target's two cells. -/
def AsOut (tb : Nat) (c a : Int) (w : World) (e : Ending) (w' : World) : Prop :=
  e = .returned (.bool true) ∧ Below w.heap.size ((w.setCell ⟨tb, 0, none⟩ (.int .i64 c)).setCell ⟨tb, 1, none⟩ (.int .i64 a)) w'

set_option maxRecDepth 100000 in
set_option maxHeartbeats 1000000 in
theorem as_inner (c a : Int) (ss : List ByteArray) (v : Value) (tb : Nat) (pa : Addr) (o0 o1 : Value) (w : World) (hch : Chain w (plainV c a) ss v)
    (ht0 : w.cell? ⟨tb, 0, none⟩ = some o0) (ht1 : w.cell? ⟨tb, 1, none⟩ = some o1) (hf0 : w.frozen? ⟨tb, 0, none⟩ = false) (hf1 : w.frozen? ⟨tb, 1, none⟩ = false) (hpa : w.cell? pa = some (.pointer (some ⟨tb, 0, none⟩))) :
    Calls Tryd.prog 34 #[v, .iface 51 (.pointer (some ⟨tb, 0, none⟩)), .agg #[.pointer (some ⟨5, 51, none⟩), .pointer (some pa), .int .u64 150], .iface 77 (.agg #[.pointer (some ⟨5, 40, none⟩)])] w (AsOut tb c a w) := by
  have h29 := @run_callFunc_extern Tryd.prog 29 _ ReflectliteType.typeOf Tryd.func29 (by kernel_rfl) (by kernel_rfl) (by kernel_rfl) (by kernel_rfl)
  have h80 := @run_callFunc_extern Tryd.prog 80 _ (ReflectliteType.relation "AssignableTo" ReflectliteType.assignableTo) Tryd.func80 (by kernel_rfl) (by kernel_rfl) (by kernel_rfl) (by kernel_rfl)
  have h38 := @run_callFunc_extern Tryd.prog 38 _ (ReflectliteValue.method (ReflectliteValue.valueError "reflectlite.Value.Elem" 0) ReflectliteValue.elem) Tryd.func38 (by kernel_rfl) (by kernel_rfl) (by kernel_rfl) (by kernel_rfl)
  have h39 := @run_callFunc_extern Tryd.prog 39 _ ReflectliteValue.set Tryd.func39 (by kernel_rfl) (by kernel_rfl) (by kernel_rfl) (by kernel_rfl)
  have h31 := @run_callFunc_extern Tryd.prog 31 _ (fun args => ReflectliteValue.unpack (args.getD 0 (.tuple #[]))) Tryd.func31 (by kernel_rfl) (by kernel_rfl) (by kernel_rfl) (by kernel_rfl)
  have t40 := typeOf40
  have t47 := typeOf47
  have a40 := assignable40
  have a47 := assignable47
  have v40 := valueOf40
  have mA := methodAssignableTo
  have mU := methodUnwrap
  have nA := noAs47
  have hU := hasUnwrap47
  have htl : tb < w.heap.size := lt_of_cell ht0
  have hpl : pa.block < w.heap.size := by
    rcases Nat.lt_or_ge pa.block w.heap.size with h | h
    · exact h
    · simp [World.cell?, Array.getElem?_eq_none h] at hpa
  have el := elemV51 pa ⟨tb, 0, none⟩ (w.alloc (.cells #[.pointer (some ⟨5, 51, none⟩), .pointer (some pa), .int .u64 150] 68)) (by rw [World.cell?_alloc_lt _ _ pa hpl]; exact hpa)
  have st := set40 ⟨tb, 0, none⟩ ⟨w.heap.size + 1, 0, none⟩ c a o0 o1 ((w.alloc (.cells #[.pointer (some ⟨5, 51, none⟩), .pointer (some pa), .int .u64 150] 68)).alloc (.cells #[.int .i64 c, .int .i64 a] 40))
    (by rw [World.cell?_alloc_at _ _ _ _ (by simp)]; rfl) (by show World.cell? _ ⟨w.heap.size + 1, 1, none⟩ = _; rw [World.cell?_alloc_at _ _ _ _ (by simp)]; rfl)
    (by rw [World.cell?_alloc_lt _ _ ⟨tb, 0, none⟩ (by simp; omega), World.cell?_alloc_lt _ _ ⟨tb, 0, none⟩ htl]; exact ht0)
    (by show World.cell? _ ⟨tb, 1, none⟩ = _; rw [World.cell?_alloc_lt _ _ ⟨tb, 1, none⟩ (by simp; omega), World.cell?_alloc_lt _ _ ⟨tb, 1, none⟩ htl]; exact ht1)
    (by rw [World.frozen?_alloc_old _ _ ⟨tb, 0, none⟩ (by simp; omega), World.frozen?_alloc_old _ _ ⟨tb, 0, none⟩ (Nat.ne_of_lt htl)]; exact hf0)
    (by show World.frozen? _ ⟨tb, 1, none⟩ = _; rw [World.frozen?_alloc_old _ _ ⟨tb, 1, none⟩ (by simp; omega), World.frozen?_alloc_old _ _ ⟨tb, 1, none⟩ (Nat.ne_of_lt htl)]; exact hf1)
  clear ht0 ht1 hf0 hf1
  go_enter Tryd.func34, Tryd.ntmps34
  go_wp2
  go_loopg [0] (ss.length) (fun k x wr => ∃ ss', ss'.length = k ∧ Chain w (plainV c a) ss' x ∧ wr = w.alloc (.cells #[.pointer (some ⟨5, 51, none⟩), .pointer (some pa), .int .u64 150] 68))
  case atStart => exact ⟨ss, rfl, hch, rfl⟩
  case round =>
    obtain ⟨ss', hk, hc, rfl⟩ := hrel
    cases ss' with
    | nil =>
      obtain rfl : _ = plainV c a := hc
      unfold plainV
      clear hk
      go_wp2
      go_ret
      exact ⟨rfl, ((Below.refl _ _).alloc (by simp) _).alloc (by simp) _⟩
    | cons s r =>
      obtain ⟨b, v', rfl, _, hc1, hr⟩ := hc
      have hc1' : (w.alloc (.cells #[.pointer (some ⟨5, 51, none⟩), .pointer (some pa), .int .u64 150] 68)).cell? ⟨b, 1, none⟩ = some v' := by
        rw [World.cell?_alloc_lt _ _ ⟨b, 1, none⟩ (lt_of_cell hc1)]; exact hc1
      have hbl : b < w.heap.size := lt_of_cell hc1
      rcases hr.shape with ⟨rfl, hv⟩ | ⟨b', hv, hne⟩
      · subst hv
        have HK := Lib.hid hk
        have HR := Lib.hid hr
        clear hk hch hr
        go_wp2
        go_roundg 0
        case measure => have := HK.out; simp at this; omega
        case rel => exact ⟨[], rfl, HR.out, rfl⟩
      · subst hv
        have HK := Lib.hid hk
        have HR := Lib.hid hr
        clear hk hch hr hne
        go_wp2
        go_roundg r.length
        case measure => have := HK.out; simp at this; omega
        case rel => exact ⟨r, rfl, HR.out, rfl⟩

end Go.Proofs.YtgncdbclpokkhaaDoor
