/-
  A range over a function whose value is called on any memory: the statement out of the call's own end, a round out of its body's walk, at the wide fence. What a loop's record holds is said at each step, so that an iterator may hold memory of its own between two rounds. No condition.
-/
import Derived.Test.YtiolchdfjlffoaaDoorIX
import Derived.RangeFuncNested
import Derived.RangeFuncBound
import Derived.RangeFuncCalls
import Derived.RangeFuncLeaves
import Derived.Shelf.Abstract
import Derived.Shelf.RegionOpen
import Derived.OwnWalkIn
import Derived.TacticsInMore
import Derived.LoopNIn
import Derived.LoopIn
namespace Go.Proofs.YtiolchdfjlffoaaDoor
open Go.RowKit Go.Lib Go.Joins Go.Shelf
attribute [local go_sem] Oper.semAt_some

/-- A loop's record. -/
def recR (fn : FuncId) (tmps : Array Value) (ps : Array Tmp) (assign body : Code) (D : Nat) (st : LoopState) (pe : Option Code) : Loop :=
  { state := st, pending := pe, fn := fn, tmps := tmps, params := ps, assign := assign, body := body, defers := D }
def markA (a : Act) (D : Nat) : Act := { a with defers := { target := .collected D, args := #[] } :: a.defers }

theorem rf_law {P : Program} {n : Nat} (hn : 1 ≤ n) {g : Operand} {ps : Array Tmp} {assign body : Code} {Q : Exit → Act → World → Prop} {a : Act} {w : World} {gf : Nat} {lb : Array Value}
    (hg : a.eval g = .func (.func gf) #[] lb) (eg : ∀ args w, (callFunc gf args).run P w = .ok (.enter gf args) w)
    (h : ∀ fn : FuncId, CallsIn Fence.wide (n - 1) P gf (#[.func (.yield (w.heap.size + 1)) #[] #[]] ++ lb) ((w.alloc (.deferred (some []))).alloc (.loop (recR fn a.tmps ps assign body w.heap.size .ready none)))
      (fun e W2 => (∃ v, e = .returned v) ∧
        ((W2.heap[w.heap.size + 1]? = some (.loop (recR fn a.tmps ps assign body w.heap.size .ready none)) ∧ Q .normal (markA a w.heap.size) (W2.putObj (w.heap.size + 1) (.loop (recR fn a.tmps ps assign body w.heap.size .exhausted none)))) ∨
        (∃ c, W2.heap[w.heap.size + 1]? = some (.loop (recR fn a.tmps ps assign body w.heap.size .done (some c))) ∧ c.wpIn Fence.wide n P Q (markA a w.heap.size) (W2.putObj (w.heap.size + 1) (.loop (recR fn a.tmps ps assign body w.heap.size .exhausted (some c)))))))) :
    (Code.rangeFunc g ps assign body).wpIn Fence.wide n P Q a w := by
  refine wpIn_rangeFunc ?_
  intro fn _
  obtain ⟨W1, hW1⟩ : ∃ W1, (w.alloc (.deferred (some []))).alloc (.loop (recR fn a.tmps ps assign body w.heap.size .ready none)) = W1 := ⟨_, rfl⟩
  have h' := h fn
  rw [hW1] at h'
  refine ⟨w.heap.size + 1, [{ target := .collected w.heap.size, args := #[] }], W1, { target := .fn (.func gf) lb, args := #[.func (.yield (w.heap.size + 1)) #[] #[]] }, W1, gf,
    #[.func (.yield (w.heap.size + 1)) #[] #[]] ++ lb, W1, by rw [← hW1]; exact run_enterLoop_outer _ _ _ _ _, ?_, ?_, ?_, fun _ => hn, ?_⟩
  · simp only [resolve, hg]
    simp [go_sem]
  · intro _ _
    trivial
  · simp [invoke, go_sem, eg]
  · refine h'.mono ?_
    rintro e W2 ⟨⟨v, rfl⟩, h2 | ⟨c, h2, h3⟩⟩
    · exact ⟨none, _, run_endLoop h2.1 (by simp [recR]), h2.2⟩
    · exact ⟨some c, _, run_endLoop h2 (by simp [recR]), h3⟩

/-- How the body of a round may be left. -/
def rdPost (l : Nat) (busy ready : Obj) (stop : Obj) (R : Ending → World → Prop) : Exit → Act → World → Prop
  | .normal, _, W3 => W3.heap[l]? = some busy ∧ R (.returned (.bool true)) (W3.putObj l ready)
  | .ret, _, W3 => W3.heap[l]? = some busy ∧ R (.returned (.bool false)) (W3.putObj l stop)
  | _, _, _ => False

theorem yield_law {P : Program} {m : Nat} {l : Nat} {W : World} {R : Ending → World → Prop} {args : Array Value} {fn : FuncId} {tmps : Array Value} {ps : Array Tmp} {assign body : Code} {D : Nat}
    (hl : W.heap[l]? = some (.loop (recR fn tmps ps assign body D .ready none))) (hsz : args.size = ps.size) (a1 : Act)
    (hassign : ∀ K : Act → World → Prop, K a1 W → assign.wpIn (Fence.wide.inRound l) m P (Exit.then K (fun _ _ _ => False)) { tmps := (ps.zip args).foldl (fun t (p, v) => t.setIfInBounds p v) tmps, defers := [] } W)
    (hbody : body.wpIn (Fence.wide.inRound l) m P (rdPost l (.loop (recR fn tmps ps assign body D .busy none)) (.loop (recR fn tmps ps assign body D .ready none)) (.loop (recR fn tmps ps assign body D .done (some .ret))) R) a1 (W.putObj l (.loop (recR fn tmps ps assign body D .busy none)))) :
    YieldAt Fence.wide m P l args W R := by
  refine ⟨_, _, _, _, run_yield hl hsz, roundIn_of_wpIn trivial (hassign _ ⟨_, run_beginRound hl rfl, wpIn_mono hbody ?_⟩)⟩
  rintro e a3 W3 hp
  cases e with
  | normal => exact ⟨_, _, run_endRound none hp.1, hp.2⟩
  | ret => exact ⟨_, _, run_endRound (some .ret) hp.1, hp.2⟩
  | exit id => exact hp.elim
  | goto t => exact hp.elim
  | panic ch => exact hp.elim
  | outgrown => exact hp.elim

theorem keeps_put {O : Nat → Prop} {w w' : World} (h : Keeps O w w') {l : Nat} (hl : O l ∨ w.heap.size ≤ l) (o : Obj) : Keeps O w (w'.putObj l o) :=
  h.grown (grownBy_putObj' w' l o) (fun k e => by cases e; exact hl)
theorem put_other {W : World} {l k : Nat} (h : k ≠ l) (o : Obj) : (W.putObj l o).heap[k]? = W.heap[k]? := World.putObj_heap_other h
theorem put_same {W : World} {l : Nat} {o : Obj} (h : W.heap[l]? = some o) (o' : Obj) : (W.putObj l o').heap[l]? = some o' := World.putObj_heap_same (lt_of_block h)


theorem round_in {F : Fence} {n : Nat} {P : Program} {l : Nat} {f : FuncId} {tmps : Array Value} {assign body : Code} {w : World} {R : Ending → World → Prop} (l' : Nat) (h : RoundIn F n P l f tmps assign body w R) : RoundIn (F.inRound l') n P l f tmps assign body w R := h
/-- The statement, its loop's record named. -/
theorem rf_use {P : Program} {n : Nat} (hn : 1 ≤ n) {g : Operand} {ps : Array Tmp} {assign body : Code} {Q : Exit → Act → World → Prop} {a : Act} {w : World} {gf : Nat} {lb : Array Value}
    (hg : a.eval g = .func (.func gf) #[] lb) (eg : ∀ args w, (callFunc gf args).run P w = .ok (.enter gf args) w)
    (h : ∀ (fn : FuncId) (rec : LoopState → Option Code → Obj), (∀ st pe, rec st pe = .loop (recR fn a.tmps ps assign body w.heap.size st pe)) → CallsIn Fence.wide (n - 1) P gf (#[.func (.yield (w.heap.size + 1)) #[] #[]] ++ lb) ((w.alloc (.deferred (some []))).alloc (rec .ready none))
      (fun e W2 => (∃ v, e = .returned v) ∧
        ((W2.heap[w.heap.size + 1]? = some (rec .ready none) ∧ Q .normal (markA a w.heap.size) (W2.putObj (w.heap.size + 1) (rec .exhausted none))) ∨
        (∃ c, W2.heap[w.heap.size + 1]? = some (rec .done (some c)) ∧ c.wpIn Fence.wide n P Q (markA a w.heap.size) (W2.putObj (w.heap.size + 1) (rec .exhausted (some c))))))) :
    (Code.rangeFunc g ps assign body).wpIn Fence.wide n P Q a w :=
  rf_law hn hg eg (fun fn => h fn _ (fun _ _ => rfl))
theorem yield_use {P : Program} {m : Nat} {l : Nat} {W : World} {R : Ending → World → Prop} {args : Array Value} {fn : FuncId} {tmps : Array Value} {ps : Array Tmp} {assign body : Code} {D : Nat} {rec : LoopState → Option Code → Obj}
    (hrec : ∀ st pe, rec st pe = .loop (recR fn tmps ps assign body D st pe)) (hl : W.heap[l]? = some (rec .ready none)) (hsz : args.size = ps.size) (a1 : Act)
    (hassign : ∀ K : Act → World → Prop, K a1 W → assign.wpIn (Fence.wide.inRound l) m P (Exit.then K (fun _ _ _ => False)) { tmps := (ps.zip args).foldl (fun t (p, v) => t.setIfInBounds p v) tmps, defers := [] } W)
    (hbody : body.wpIn (Fence.wide.inRound l) m P (rdPost l (rec .busy none) (rec .ready none) (rec .done (some .ret)) R) a1 (W.putObj l (rec .busy none))) :
    YieldAt Fence.wide m P l args W R := by
  rw [hrec] at hl
  rw [hrec, hrec, hrec] at hbody
  exact yield_law hl hsz a1 hassign hbody
/-- append, as one step inside a fence. -/
theorem step_appIn {F : Fence} {n : Nat} {P : Program} {ops : Array Oper} {rest : List Oper} {o : Oper} {a : Act} {w w' : World} {Q : Exit → Act → World → Prop} {t t' : TypeId} {vs vx v : Value}
    (hrun : ∀ ty, (Builtin.append_ #[t, t'] ty #[vs, vx]).run P w = .ok v w') (s x : Operand) (hg : o.guard = none) (hop : o.op = Op.call { callee := Callee.builtin Builtin.append, args := #[s, x], argTypes := #[t, t'] })
    (hs : a.eval s = vs) (hx : a.eval x = vx) (hK : wpListIn F n P ops Q rest (a.put o.dst v) w') : wpListIn F n P ops Q (o :: rest) a w := by
  refine wpListIn_plain hg fun K hK' => ?_
  unfold Oper.wpIn
  refine ⟨?_, ?_⟩
  · simp [Oper.about, hop, resolve, Target.leads, Sem.run_pure]
  · rw [Oper.semAt_plain F _ _ (by rw [hop]; intro c hc'; cases hc')]
    simp [execOp, hop, resolve, invoke, builtin, hs, hx, hrun, Result.andThen]
    exact hK' _ _ hK
end Go.Proofs.YtiolchdfjlffoaaDoor
