/-
  What reflectlite's Set does at a plain error: the two cells of the target's variable get the two of the Value's. Conditions: the cells are there and not frozen.
-/
import Derived.Test.YtgncdbclpokkhaaDoorFacts
namespace Go.Proofs.YtgncdbclpokkhaaDoor
open Go.RowKit Go.Extern.Stop Go.Stop Go.Extern

theorem set40 (ta b : Addr) (c a : Int) (o0 o1 : Value) (W : World) (hb0 : W.cell? b = some (.int .i64 c)) (hb1 : W.cell? (b.add 1) = some (.int .i64 a))
    (ht0 : W.cell? ta = some o0) (ht1 : W.cell? (ta.add 1) = some o1) (hf0 : W.frozen? ta = false) (hf1 : W.frozen? (ta.add 1) = false) :
    (ReflectliteValue.set #[.agg #[.pointer (some ⟨5, 40, none⟩), .pointer (some ta), .int .u64 409], .agg #[.pointer (some ⟨5, 40, none⟩), .pointer (some b), .int .u64 153]]).run Tryd.prog W
      = .ok (.tuple #[]) ((W.setCell ta (.int .i64 c)).setCell (ta.add 1) (.int .i64 a)) := by
  generalize hV : Value.agg #[.pointer (some ⟨5, 40, none⟩), .pointer (some ta), .int .u64 409] = V
  generalize hX : Value.agg #[.pointer (some ⟨5, 40, none⟩), .pointer (some b), .int .u64 153] = X
  have pV := parts40a ta W
  have pX := parts40 b W
  rw [hV] at pV
  rw [hX] at pX
  have hL : (loadVar 40 b).run Tryd.prog W = .ok (.agg #[.int .i64 c, .int .i64 a]) W := by
    have h2 := run_loadCells_list (P := Tryd.prog) W b [.int .i64 c, .int .i64 a] (by
      intro j v hj
      match j, hj with
      | 0, hj => obtain rfl := Option.some.inj hj; simpa [Addr.add] using hb0
      | 1, hj => obtain rfl := Option.some.inj hj; exact hb1)
    have h3 : (loadCells b 2).run Tryd.prog W = .ok #[.int .i64 c, .int .i64 a] W := h2
    simp [loadVar, isAgg, underlying, Tryd.underlying40, h3, Result.andThen]
  have hne : ta.add 1 ≠ ta := by
    intro h
    have := congrArg Addr.off h
    simp [Addr.add] at this
  have hS : (storeVar 40 ta (.agg #[.int .i64 c, .int .i64 a])).run Tryd.prog W = .ok () ((W.setCell ta (.int .i64 c)).setCell (ta.add 1) (.int .i64 a)) := by
    have hz : ta.add 0 = ta := by simp [Addr.add]
    have s0 : (store ta (.int .i64 c)).run Tryd.prog W = .ok () (W.setCell ta (.int .i64 c)) := by
      rw [run_store Tryd.prog W _ _ _ (by rfl)]
      simp [ht0, hf0]
    have s1 : (store (ta.add 1) (.int .i64 a)).run Tryd.prog (W.setCell ta (.int .i64 c)) = .ok () ((W.setCell ta (.int .i64 c)).setCell (ta.add 1) (.int .i64 a)) := by
      rw [run_store Tryd.prog _ _ _ _ (by rfl), World.cell?_setCell_other (w := W) (a := ta) (b := ta.add 1) (.int .i64 c) hne.symm]
      simp [ht1, hf1]
    simp [storeVar, Value.cells, storeCells, hz, s0, s1, Result.andThen]
  change Sem.run Tryd.prog (bind (ReflectliteValue.parts V) _) W = _
  rw [Sem.run_bind, pV]
  change Sem.run Tryd.prog (bind (ReflectliteValue.parts X) _) W = _
  rw [Sem.run_bind, pX]
  simp [Result.andThen, ReflectliteValue.flagAddr, hL, direct40, hS]
end Go.Proofs.YtgncdbclpokkhaaDoor
