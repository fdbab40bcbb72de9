/-
  From a row's list of laid variables to what the walks ask of the world; the wrap of a row that lists variables and keeps the world's shape. No condition.
-/
import Derived.Test.YtbaehldglmibeaaDoorAwake
import Derived.Test.YtbaehldglmibeaaDoorRows
import Derived.HandedShaped
import Derived.Lib.LaidU8T
import Derived.PinnedBridge
import Derived.Lay
import Derived.ChangeOld
import Derived.OpenShut
import Derived.ShutString
import Derived.LaidEql
import Derived.LaidOnce
import Derived.SevenTiedAt
namespace Go.Proofs.YtbaehldglmibeaaDoor
open Go.ChangeShapes Go.WideShapes Go.ChangeAt Go.RowKit Go.Lib

def laidL : List (String × DataW Unit) := Rows.utfNextRow.laid

theorem own : ownKnob Tryd.prog.godebug = none := by kernel_rfl
theorem laidOut : laidOutB Tryd.prog = true := by kernel_rfl

theorem u8x : U8Extra Tryd.prog Tryd.lays196_ren := ⟨by kernel_rfl, by kernel_rfl, by kernel_rfl, by kernel_rfl, by kernel_rfl, by kernel_rfl, by kernel_rfl⟩

theorem accept_data : (Rows.laid_unicode_utf8_acceptRanges : DataW Unit) = acceptData := by kernel_rfl

theorem flat_even : ∀ (t : List (Int × Int)) (i : Nat), (flatT t)[2 * i]? = (t[i]?).map (fun p => .int .i32 p.1)
  | [], i => by simp [flatT]
  | p :: t, 0 => rfl
  | p :: t, i + 1 => by
    have := flat_even t i
    simp only [flatT, List.flatMap_cons] at *
    rw [show 2 * (i + 1) = 2 * i + 2 from by omega]
    simpa using this
theorem flat_odd : ∀ (t : List (Int × Int)) (i : Nat), (flatT t)[2 * i + 1]? = (t[i]?).map (fun p => .int .i32 p.2)
  | [], i => by simp [flatT]
  | p :: t, 0 => rfl
  | p :: t, i + 1 => by
    have := flat_odd t i
    simp only [flatT, List.flatMap_cons] at *
    rw [show 2 * (i + 1) + 1 = 2 * i + 1 + 2 from by omega]
    simpa using this

def pairData (p : Int × Int) : DataW Unit := tabData .i32 [p.1, p.2]
def tabDataW (t : List (Int × Int)) : DataW Unit := .agg (t.map pairData)

theorem under38 : Tryd.prog.underlying 38 = some (.array 2 21) := by kernel_rfl
theorem under21 : Tryd.prog.underlying 21 = some (.int .i32) := by kernel_rfl
theorem cells38 : Tryd.prog.cellsOf 38 = 2 := by kernel_rfl
theorem cells21 : Tryd.prog.cellsOf 21 = 1 := by kernel_rfl

theorem tabAt_of_reads {w : World} {name : String} {t : List (Int × Int)} {g : Nat} {ty : TypeId} {n : Nat} (hn : t.length = n) (hg : Tryd.prog.globalNamed name = some g) (hty : (Tryd.prog.globals[g]?).map (·.type) = some ty)
    (hu : Tryd.prog.underlying ty = some (.array n 38)) (h : VarReads Tryd.prog w name (tabDataW t)) : TabAt g t w := by
  obtain ⟨g', t', cs, fuel, p, hg', hty', hvar, hd⟩ := h
  obtain rfl := Option.some.inj (hg.symm.trans hg')
  obtain rfl := Option.some.inj (hty.symm.trans hty')
  have pair : ∀ i q, t[i]? = some q → w.cell? ⟨g, 2 * i, none⟩ = some (.int .i32 q.1) ∧ w.cell? ⟨g, 2 * i + 1, none⟩ = some (.int .i32 q.2) := by
    intro i q hq
    have hi : i < n := by rw [← hn]; exact (List.getElem?_eq_some_iff.1 hq).1
    obtain ⟨fuel', d, r, hdi, he⟩ := array_elem hu hd i hi
    rw [List.getElem?_map, hq] at hdi
    obtain rfl := Option.some.inj hdi
    rw [cells38] at he
    have hcs := cells_of_tab under38 under21 cells21 cells38 he
    have e0 := congrArg (·[0]?) hcs
    have e1 := congrArg (·[1]?) hcs
    simp only [List.getElem?_take, List.getElem?_drop] at e0 e1
    constructor
    · rw [World.var?_cell hg hvar (2 * i), ← Array.getElem?_toList]
      simpa [Nat.mul_comm] using e0
    · rw [World.var?_cell hg hvar (2 * i + 1), ← Array.getElem?_toList]
      simpa [Nat.mul_comm] using e1
  intro j v hj
  rw [Nat.zero_add]
  rcases Nat.mod_two_eq_zero_or_one j with h | h
  · obtain ⟨i, rfl⟩ : ∃ i, j = 2 * i := ⟨j / 2, by omega⟩
    rw [flat_even] at hj
    obtain ⟨q, hq, rfl⟩ := Option.map_eq_some_iff.1 hj
    exact (pair i q hq).1
  · obtain ⟨i, rfl⟩ : ∃ i, j = 2 * i + 1 := ⟨j / 2, by omega⟩
    rw [flat_odd] at hj
    obtain ⟨q, hq, rfl⟩ := Option.map_eq_some_iff.1 hj
    exact (pair i q hq).2

theorem laid_of_met {w : World} (h : laidMetH Tryd.prog laidL w) : Laid w := by
  rw [MakeChecks.laidMetH_plain _ _ _ (by kernel_rfl)] at h
  have a0 : VarReads Tryd.prog w "unicode/utf8.acceptRanges" acceptData := accept_data ▸ Lib.laidMet.reads h (.head _)
  have a1 : VarReads Tryd.prog w "recension/utf.chars" (tabDataW charsT) := (show (Rows.laid_recension_utf_chars : DataW Unit) = tabDataW charsT by kernel_rfl) ▸ Lib.laidMet.reads h (.tail _ (.head _))
  have a2 : VarReads Tryd.prog w "recension/utf.first" (tabDataW firstsT) := (show (Rows.laid_recension_utf_first : DataW Unit) = tabDataW firstsT by kernel_rfl) ▸ Lib.laidMet.reads h (.tail _ (.tail _ (.head _)))
  have a3 : VarReads Tryd.prog w "recension/utf.further" (tabDataW furtherT) := (show (Rows.laid_recension_utf_further : DataW Unit) = tabDataW furtherT by kernel_rfl) ▸ Lib.laidMet.reads h (.tail _ (.tail _ (.tail _ (.head _))))
  have a4 : VarReads Tryd.prog w "unicode/utf8.first" firstData := Pinned.utf8First_eq ▸ Lib.laidMet.reads h (.tail _ (.tail _ (.tail _ (.tail _ (.head _)))))
  exact ⟨utf8Tabs_of_readsT (U8Types.of196 Tryd.lays196) u8x a4 a0, tabAt_of_reads rfl (by kernel_rfl) (by kernel_rfl) under39 a1, tabAt_of_reads rfl (by kernel_rfl) (by kernel_rfl) under40 a2, tabAt_of_reads rfl (by kernel_rfl) (by kernel_rfl) under39 a3⟩

theorem maxLen_of_shape {w : World} (h : w.ShapedOpen Tryd.prog) : MaxLen w :=
  cell_of_shapedOpen_int h (g := 5) (t := 3) (by decide +kernel) (zero := #[.int .i64 0]) (by kernel_rfl) rfl (by kernel_rfl) (by kernel_rfl) (by kernel_rfl)

variable {H : Type} {enc : TypeId × Value → H}

theorem returnsLaid {C : Checked} {os : Os} {f : FuncId} {fn : Func} {s : ChangeSpec} {X : World → Array Value → Prop}
    (hX : ∀ (w w' : World) (args : Array Value), w.heap = w'.heap → X w args → X w' args)
    (own : ownKnob C.prog.godebug = none) (started : os.Started) (noInit : C.prog.inits.idxOf? f = none) (hfn : C.prog.funcs[f]? = some fn)
    (witness : ∃ (w : World) (tape : Tape) (i : Input), w.os = os ∧ (w.forCall tape i).Shaped C.prog ∧ i.vars = [] ∧ Input.okWide C.prog (w.forCall tape i) .any w.heap.size f i ∧
      ((s.pre enc C.prog fn [] false (w.forCall tape i).memory i.args ∧ X (w.forCall tape i).memory i.args) ∧ sizedMet enc C.prog fn (OpenSpec.ofChange s) false (w.forCall tape i).memory i.args) ∧ ({} : Assume).holds C.prog (lone (Frame.enter C.prog f i.args .normal) [] (w.forCall tape i)))
    (contract : ∀ (W : World) (base : Nat) (args : Array Value) (ds gs : List (DataW H)) (before : List MemPlace),
      (∀ (j : Nat) t v, fn.params[j]? = some t → args[j]? = some v → Value.okWide C.prog W .any base t v) →
      DataW.Whole enc C.prog fn.params.toList s.vars false W args.toList ds gs before → X W args → W.ShapedOpen C.prog →
      Calls C.prog f args W fun e W' => ∃ v, e = .returned v ∧ s.post enc C.prog fn false true false false W args v W') :
    ReturnsInHanded {} C os f .any (fun w args => (s.pre enc C.prog fn [] false w args ∧ X w args) ∧ sizedMet enc C.prog fn (OpenSpec.ofChange s) false w args) (s.post enc C.prog fn false true false false) := by
  refine returnsInHanded_of_calls own started noInit witness ?_
  intro w tape i _ hsh _ hok hpre _
  obtain ⟨_, _, _, fn', hfn', _, _, _, _, hval⟩ := hok
  obtain rfl : fn' = fn := Option.some.inj (hfn'.symm.trans hfn)
  obtain ⟨⟨⟨ds, gs, before, hw, _⟩, hx⟩, _⟩ := hpre
  refine (contract (w.forCall tape i) w.heap.size i.args ds gs before hval (DataW.Whole.of_heap (w' := w.forCall tape i) (by rfl) hw) (hX _ _ _ (by rfl) hx) hsh).mono fun e W' ⟨v, he, hp⟩ => ?_
  subst he
  exact ChangeSpec.post_blind hp

end Go.Proofs.YtbaehldglmibeaaDoor
