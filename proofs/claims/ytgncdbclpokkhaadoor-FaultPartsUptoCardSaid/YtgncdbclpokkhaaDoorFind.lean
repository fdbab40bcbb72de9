/-
  Package fault's find by its contract: of no error OK and 0; of an error that wraps a plain one however often that one's code and place; new blocks alone. Conditions: the code is not OK; errors.errorType holds its handle.
-/
import Derived.Test.YtgncdbclpokkhaaDoorAs
import Derived.Test.YtgncdbclpokkhaaDoorMore
import Derived.Defers
import Derived.Recover
import Derived.Laws.ResultCell
namespace Go.Proofs.YtgncdbclpokkhaaDoor
open Go.RowKit Go.Extern.Stop Go.Stop Go.Extern

/-- The handle of the type 'error' stands in errors.errorType. -/
def Handle (w : World) : Prop := w.cell? ⟨0, 0, none⟩ = some (.iface 77 (.agg #[.pointer (some ⟨5, 26, none⟩)]))
theorem Handle.below {w w' : World} (h : Handle w) (hb : Below w.heap.size w w') : Handle w' := (hb.cell (p := ⟨0, 0, none⟩) (lt_of_cell h)).trans h

theorem catch_idle (p : Addr) (w : World) :
    CallsD Tryd.prog 23 #[.pointer (some p)] .returning w fun e u' w' => e = .returned (.tuple #[]) ∧ u' = .returning ∧ w' = w := by
  refine callsD_of_wpS Tryd.func23 rfl fun c₀ cs hu => ?_
  apply wpS_seq
  apply wpS_region
  simp [wpOpsS, go_sem, recoverD, hu, Tryd.ntmps23, Exit.thenS]
  refine wpS_cond (t := false) (by simp [Act.eval, Array.replicate]) ?_
  simp only [Bool.false_eq_true, if_false]
  refine wpS_of_wp (wp_skip ?_)
  cases c₀
  simp_all [bodyPostS, results, Tryd.results23]

/-- A plain error, and new blocks. -/
def FindOut (c a : Int) (w : World) (e : Ending) (w' : World) : Prop := e = .returned (.agg #[.int .i64 c, .int .i64 a]) ∧ Below w.heap.size w w'

set_option maxRecDepth 100000 in
set_option maxHeartbeats 1000000 in
theorem find_nil (w : World) : Calls Tryd.prog 17 #[.nilIface] w (FindOut 0 0 w) := by
  go_enter_defers Tryd.func17, Tryd.ntmps17
  go_wp2
  simp [bodyPostD, Leaves, settle, results, Tryd.results17, go_sem]
  exact ⟨rfl, (Below.refl _ _).alloc (Nat.le_refl _) _⟩

set_option maxRecDepth 100000 in
set_option maxHeartbeats 1000000 in
theorem find_chain (c a : Int) (ss : List ByteArray) (v : Value) (w : World) (hc : c ≠ 0) (hch : Chain w (plainV c a) ss v) (hg : Handle w) : Calls Tryd.prog 17 #[v] w (FindOut c a w) := by
  have hmf : ∀ (fn : Fn) (first cap : Array Value) (w : World), (Instr.makeFunc fn first cap).run Tryd.prog w = .ok (.func fn first cap) w := fun _ _ _ _ => rfl
  have hb : Below w.heap.size w (w.alloc (.cells #[.int .i64 0, .int .i64 0] 40)) := (Below.refl _ _).alloc (Nat.le_refl _) _
  have HA := Lib.hid (as_chain c a ss v w.heap.size (.int .i64 0) (.int .i64 0) _ (hch.below hb) (hg.below hb) (by simp) (by simp) (by simp) (by simp))
  have h0 : (c == 0) = false := beq_eq_false_iff_ne.2 hc
  rcases hch.shape with ⟨_, rfl⟩ | ⟨b', rfl, _⟩
  · clear hch hg hb hc
    go_enter_defers Tryd.func17, Tryd.ntmps17
    go_wp2_with fail
    refine HA.out.mono ?_
    rintro e w' ⟨rfl, hb⟩
    have hlt : w.heap.size < (w.alloc (.cells #[.int .i64 0, .int .i64 0] 40)).heap.size := by simp
    have h1 : w'.cell? ⟨w.heap.size, 0, none⟩ = some (.int .i64 c) := by
      rw [hb.cell (p := ⟨w.heap.size, 0, none⟩) hlt]; simp [go_sem]
    have h2 : w'.cell? ⟨w.heap.size, 1, none⟩ = some (.int .i64 a) := by
      rw [hb.cell (p := ⟨w.heap.size, 1, none⟩) hlt]; simp [go_sem]
    have f1 : w'.frozen? ⟨w.heap.size, 0, none⟩ = false := by
      rw [hb.frozen (p := ⟨w.heap.size, 0, none⟩) hlt, World.frozen?_setCell, World.frozen?_setCell]; simp
    have f2 : w'.frozen? ⟨w.heap.size, 1, none⟩ = false := by
      rw [hb.frozen (p := ⟨w.heap.size, 1, none⟩) hlt, World.frozen?_setCell, World.frozen?_setCell]; simp
    have HB := Lib.hid hb
    clear hb
    go_wp2_with fail
    refine leaves_cons (f := 23) (args := #[.pointer (some ⟨w.heap.size, 0, none⟩)]) (by simp) (by simp [go_sem]) ?_
    refine (catch_idle ⟨w.heap.size, 0, none⟩ _).mono ?_
    rintro e u' w'' ⟨rfl, rfl, rfl⟩
    simp [Leaves, settle, results, Tryd.results17, go_sem, h1, h2]
    have k0 : Below w.heap.size w (((w.alloc (.cells #[.int .i64 0, .int .i64 0] 40)).setCell ⟨w.heap.size, 0, none⟩ (.int .i64 c)).setCell ⟨w.heap.size, 1, none⟩ (.int .i64 a)) :=
      Below.setCell (Below.setCell ((Below.refl _ _).alloc (Nat.le_refl _) _) (p := ⟨w.heap.size, 0, none⟩) (Nat.le_refl _) _) (p := ⟨w.heap.size, 1, none⟩) (Nat.le_refl _) _
    have k1 := k0.trans (HB.out.mono (by simp))
    exact ⟨rfl, Below.setCell (Below.setCell k1 (p := ⟨w.heap.size, 0, none⟩) (Nat.le_refl _) _) (p := ⟨w.heap.size, 1, none⟩) (Nat.le_refl _) _⟩
  · clear hch hg hb hc
    go_enter_defers Tryd.func17, Tryd.ntmps17
    go_wp2_with fail
    refine HA.out.mono ?_
    rintro e w' ⟨rfl, hb⟩
    have hlt : w.heap.size < (w.alloc (.cells #[.int .i64 0, .int .i64 0] 40)).heap.size := by simp
    have h1 : w'.cell? ⟨w.heap.size, 0, none⟩ = some (.int .i64 c) := by
      rw [hb.cell (p := ⟨w.heap.size, 0, none⟩) hlt]; simp [go_sem]
    have h2 : w'.cell? ⟨w.heap.size, 1, none⟩ = some (.int .i64 a) := by
      rw [hb.cell (p := ⟨w.heap.size, 1, none⟩) hlt]; simp [go_sem]
    have f1 : w'.frozen? ⟨w.heap.size, 0, none⟩ = false := by
      rw [hb.frozen (p := ⟨w.heap.size, 0, none⟩) hlt, World.frozen?_setCell, World.frozen?_setCell]; simp
    have f2 : w'.frozen? ⟨w.heap.size, 1, none⟩ = false := by
      rw [hb.frozen (p := ⟨w.heap.size, 1, none⟩) hlt, World.frozen?_setCell, World.frozen?_setCell]; simp
    have HB := Lib.hid hb
    clear hb
    go_wp2_with fail
    refine leaves_cons (f := 23) (args := #[.pointer (some ⟨w.heap.size, 0, none⟩)]) (by simp) (by simp [go_sem]) ?_
    refine (catch_idle ⟨w.heap.size, 0, none⟩ _).mono ?_
    rintro e u' w'' ⟨rfl, rfl, rfl⟩
    simp [Leaves, settle, results, Tryd.results17, go_sem, h1, h2]
    have k0 : Below w.heap.size w (((w.alloc (.cells #[.int .i64 0, .int .i64 0] 40)).setCell ⟨w.heap.size, 0, none⟩ (.int .i64 c)).setCell ⟨w.heap.size, 1, none⟩ (.int .i64 a)) :=
      Below.setCell (Below.setCell ((Below.refl _ _).alloc (Nat.le_refl _) _) (p := ⟨w.heap.size, 0, none⟩) (Nat.le_refl _) _) (p := ⟨w.heap.size, 1, none⟩) (Nat.le_refl _) _
    have k1 := k0.trans (HB.out.mono (by simp))
    exact ⟨rfl, Below.setCell (Below.setCell k1 (p := ⟨w.heap.size, 0, none⟩) (Nat.le_refl _) _) (p := ⟨w.heap.size, 1, none⟩) (Nat.le_refl _) _⟩
end Go.Proofs.YtgncdbclpokkhaaDoor
