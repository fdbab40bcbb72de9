/-
  From a row's list of laid variables to what the walks ask of memory; the wrap of a row that lists variables, keeps the world's shape and says how large what it reads is; a world in which the listed variables hold what the program's text lays. No condition.
-/
import Derived.Test.YtkpgbcackphdbaaDoorQL
import Derived.LaidMore
import Derived.LaidSub
import Derived.LaidHandle
import Derived.Lib.LaidTab
import Derived.Test.YtkpgbcackphdbaaDoorRows
import Derived.HandedShaped
import Derived.Lib.LaidU8T
import Derived.PinnedBridge
import Derived.Lay
import Derived.ChangeOld
import Derived.OpenShut
import Derived.ShutString
import Derived.LaidEql
import Derived.LaidOnce
import Derived.SevenTiedAt
namespace Go.Proofs.YtkpgbcackphdbaaDoor
open Go.ChangeShapes Go.WideShapes Go.ChangeAt Go.RowKit Go.Lib

def laidL : List (String × DataW Unit) := Rows.qlexAgainRow.laid

theorem own : ownKnob Tryd.prog.godebug = none := by kernel_rfl
theorem laidOut : laidOutB Tryd.prog = true := by kernel_rfl

theorem u8x : U8Extra Tryd.prog Tryd.lays161_ren := ⟨by kernel_rfl, by kernel_rfl, by kernel_rfl, by kernel_rfl, by kernel_rfl, by kernel_rfl, by kernel_rfl⟩

theorem accept_data : (Rows.laid_unicode_utf8_acceptRanges : DataW Unit) = acceptData := by kernel_rfl

theorem flat_even : ∀ (t : List (Int × Int)) (i : Nat), (flatT t)[2 * i]? = (t[i]?).map (fun p => .int .i32 p.1)
  | [], i => by simp [flatT]
  | p :: t, 0 => rfl
  | p :: t, i + 1 => by
    have := flat_even t i
    simp only [flatT, List.flatMap_cons] at *
    rw [show 2 * (i + 1) = 2 * i + 2 from by omega]
    simpa using this
theorem flat_odd : ∀ (t : List (Int × Int)) (i : Nat), (flatT t)[2 * i + 1]? = (t[i]?).map (fun p => .int .i32 p.2)
  | [], i => by simp [flatT]
  | p :: t, 0 => rfl
  | p :: t, i + 1 => by
    have := flat_odd t i
    simp only [flatT, List.flatMap_cons] at *
    rw [show 2 * (i + 1) + 1 = 2 * i + 1 + 2 from by omega]
    simpa using this

def pairData (p : Int × Int) : DataW Unit := tabData .i32 [p.1, p.2]
def tabDataW (t : List (Int × Int)) : DataW Unit := .agg (t.map pairData)

theorem under38 : Tryd.prog.underlying 86 = some (.array 2 21) := by kernel_rfl
theorem under21 : Tryd.prog.underlying 21 = some (.int .i32) := by kernel_rfl
theorem cells38 : Tryd.prog.cellsOf 86 = 2 := by kernel_rfl
theorem cells21 : Tryd.prog.cellsOf 21 = 1 := by kernel_rfl

theorem tabAt_of_reads {w : World} {name : String} {t : List (Int × Int)} {g : Nat} {ty : TypeId} {n : Nat} (hn : t.length = n) (hg : Tryd.prog.globalNamed name = some g) (hty : (Tryd.prog.globals[g]?).map (·.type) = some ty)
    (hu : Tryd.prog.underlying ty = some (.array n 86)) (h : VarReads Tryd.prog w name (tabDataW t)) : TabAt g t w := by
  obtain ⟨g', t', cs, fuel, p, hg', hty', hvar, hd⟩ := h
  obtain rfl := Option.some.inj (hg.symm.trans hg')
  obtain rfl := Option.some.inj (hty.symm.trans hty')
  have pair : ∀ i q, t[i]? = some q → w.cell? ⟨g, 2 * i, none⟩ = some (.int .i32 q.1) ∧ w.cell? ⟨g, 2 * i + 1, none⟩ = some (.int .i32 q.2) := by
    intro i q hq
    have hi : i < n := by rw [← hn]; exact (List.getElem?_eq_some_iff.1 hq).1
    obtain ⟨fuel', d, r, hdi, he⟩ := array_elem hu hd i hi
    rw [List.getElem?_map, hq] at hdi
    obtain rfl := Option.some.inj hdi
    rw [cells38] at he
    have hcs := cells_of_tab under38 under21 cells21 cells38 he
    have e0 := congrArg (·[0]?) hcs
    have e1 := congrArg (·[1]?) hcs
    simp only [List.getElem?_take, List.getElem?_drop] at e0 e1
    constructor
    · rw [World.var?_cell hg hvar (2 * i), ← Array.getElem?_toList]
      simpa [Nat.mul_comm] using e0
    · rw [World.var?_cell hg hvar (2 * i + 1), ← Array.getElem?_toList]
      simpa [Nat.mul_comm] using e1
  intro j v hj
  rw [Nat.zero_add]
  rcases Nat.mod_two_eq_zero_or_one j with h | h
  · obtain ⟨i, rfl⟩ : ∃ i, j = 2 * i := ⟨j / 2, by omega⟩
    rw [flat_even] at hj
    obtain ⟨q, hq, rfl⟩ := Option.map_eq_some_iff.1 hj
    exact (pair i q hq).1
  · obtain ⟨i, rfl⟩ : ∃ i, j = 2 * i + 1 := ⟨j / 2, by omega⟩
    rw [flat_odd] at hj
    obtain ⟨q, hq, rfl⟩ := Option.map_eq_some_iff.1 hj
    exact (pair i q hq).2

theorem u8t : U8Types Tryd.prog Tryd.lays161_ren := ⟨Tryd.underlying5, Tryd.underlying110, Tryd.underlying113, Tryd.underlying114⟩
theorem met_reads {w : World} (h : laidMetH Tryd.prog laidL w) {n : String} {d : DataW Unit} (hm : (n, d) ∈ laidL) (hd : d.handleName?.isNone = true) : VarReads Tryd.prog w n d :=
  Lib.laidMet.reads (laidMetH_iff.1 h).1 (List.mem_filter.2 ⟨hm, hd⟩)
set_option maxRecDepth 100000 in
theorem signsAt_of_reads {w : World} {name : String} {t : List (List UInt8)} {g : Nat} {ty : TypeId} {n : Nat} (hn : t.length = n) (hg : Tryd.prog.globalNamed name = some g) (hty : (Tryd.prog.globals[g]?).map (·.type) = some ty)
    (hu : Tryd.prog.underlying ty = some (.array n 9)) (h : VarReads Tryd.prog w name (.agg (t.map fun x => .lit (.string x)))) : SignsAt g t w := by
  obtain ⟨g', t', cs, fuel, p, hg', hty', hvar, hd⟩ := h
  obtain rfl := Option.some.inj (hg.symm.trans hg')
  obtain rfl := Option.some.inj (hty.symm.trans hty')
  have hC : Tryd.prog.cellsOf 9 = 1 := by kernel_rfl
  intro j v hj
  rw [Nat.zero_add]
  unfold strsV at hj
  rw [List.getElem?_map] at hj
  obtain ⟨q, hq, rfl⟩ := Option.map_eq_some_iff.1 hj
  have hi : j < n := by rw [← hn]; exact (List.getElem?_eq_some_iff.1 hq).1
  obtain ⟨fuel', d, r, hdi, he⟩ := array_elem hu hd j hi
  rw [List.getElem?_map, hq] at hdi
  obtain rfl := Option.some.inj hdi
  rw [hC, Nat.mul_one] at he
  obtain ⟨s0, e0, x0, _⟩ := DataW.trod_string Tryd.underlying9 he
  have hs : q = s0.data.toList := by
    have := congrArg Prod.fst x0
    injection this with this
    injection this
  have e1 := congrArg (·[0]?) e0
  simp only [List.getElem?_take, List.getElem?_drop] at e1
  rw [World.var?_cell hg hvar j, ← Array.getElem?_toList, hs, strB_back]
  simpa using e1
set_option maxRecDepth 100000 in
theorem laid_of_met {w : World} (h : laidMetH Tryd.prog laidL w) : Laid w := by
  have a0 : VarReads Tryd.prog w "unicode/utf8.acceptRanges" acceptData := accept_data ▸ met_reads h (d := Rows.laid_unicode_utf8_acceptRanges) (.head _) rfl
  have a1 : VarReads Tryd.prog w "recension/utf.chars" (tabDataW charsT) := (show (Rows.laid_recension_utf_chars : DataW Unit) = tabDataW charsT by kernel_rfl) ▸ met_reads h (d := Rows.laid_recension_utf_chars) (.tail _ (.tail _ (.head _))) rfl
  have a2 : VarReads Tryd.prog w "recension/utf.first" (tabDataW firstsT) := (show (Rows.laid_recension_utf_first : DataW Unit) = tabDataW firstsT by kernel_rfl) ▸ met_reads h (d := Rows.laid_recension_utf_first) (.tail _ (.tail _ (.tail _ (.head _)))) rfl
  have a3 : VarReads Tryd.prog w "recension/utf.further" (tabDataW furtherT) := (show (Rows.laid_recension_utf_further : DataW Unit) = tabDataW furtherT by kernel_rfl) ▸ met_reads h (d := Rows.laid_recension_utf_further) (.tail _ (.tail _ (.tail _ (.tail _ (.head _))))) rfl
  have a4 : VarReads Tryd.prog w "unicode/utf8.first" firstData := Pinned.utf8First_eq ▸ met_reads h (d := Rows.laid_unicode_utf8_first) (.tail _ (.tail _ (.tail _ (.tail _ (.tail _ (.tail _ (.tail _ (.head _)))))))) (by kernel_rfl)
  exact ⟨utf8Tabs_of_readsT u8t u8x a4 a0, tabAt_of_reads rfl (by kernel_rfl) (by kernel_rfl) under39 a1, tabAt_of_reads rfl (by kernel_rfl) (by kernel_rfl) under40 a2, tabAt_of_reads rfl (by kernel_rfl) (by kernel_rfl) under39 a3⟩
set_option maxRecDepth 100000 in
theorem signs_of_met {w : World} (h : laidMetH Tryd.prog laidL w) : SignsAt 0 marksQ w ∧ SignsAt 1 opsQ w := by
  have a5 : VarReads Tryd.prog w "recension/qlex.marks" (.agg (marksQ.map fun x => .lit (.string x))) := (show (Rows.laid_recension_qlex_marks : DataW Unit) = .agg (marksQ.map fun x => .lit (.string x)) by kernel_rfl) ▸ met_reads h (d := Rows.laid_recension_qlex_marks) (.tail _ (.tail _ (.tail _ (.tail _ (.tail _ (.head _)))))) rfl
  have a6 : VarReads Tryd.prog w "recension/qlex.operators" (.agg (opsQ.map fun x => .lit (.string x))) := (show (Rows.laid_recension_qlex_operators : DataW Unit) = .agg (opsQ.map fun x => .lit (.string x)) by kernel_rfl) ▸ met_reads h (d := Rows.laid_recension_qlex_operators) (.tail _ (.tail _ (.tail _ (.tail _ (.tail _ (.tail _ (.head _))))))) rfl
  exact ⟨signsAt_of_reads rfl (by kernel_rfl) (by kernel_rfl) under9s a5, signsAt_of_reads rfl (by kernel_rfl) (by kernel_rfl) under11s a6⟩
theorem zrt : (Tryd.prog.cutTypes.find? (·.1 == "internal/reflectlite.rtype")).map (·.2) = some 97 := by kernel_rfl
theorem handle_of_met {W : World} (h : laidMetH Tryd.prog laidL W) : Handle W := by
  obtain ⟨_, h2⟩ := laidMetH_iff.1 h
  obtain ⟨name, u, ty, e1, e2, e3, e4, e5⟩ := h2 ("errors.errorType", Rows.laid_errors_errorType) (List.mem_filter.2 ⟨.tail _ (.head _), by rfl⟩)
  have en : name = [101, 114, 114, 111, 114] := (Option.some.inj e1).symm
  subst en
  obtain rfl := Option.some.inj (zrt.symm.trans e2)
  have hone : ((List.range Tryd.prog.types.size).filter fun t => Tryd.prog.rowNamed t [101, 114, 114, 111, 114]) = [25] := by kernel_rfl
  have hm : ty ∈ (List.range Tryd.prog.types.size).filter fun t => Tryd.prog.rowNamed t [101, 114, 114, 111, 114] := List.mem_filter.2 ⟨List.mem_range.2 e3, e4⟩
  rw [hone] at hm
  obtain rfl := List.mem_singleton.1 hm
  have hh : typeHandle Tryd.prog 25 = .pointer (some ⟨9, 25, none⟩) := by kernel_rfl
  rw [hh] at e5
  simpa [Handle] using World.var?_cell et e5 0
theorem maxLen_of_shape {w : World} (h : w.ShapedOpen Tryd.prog) : MaxLen w :=
  cell_of_shapedOpen_int h (g := 8) (t := 3) (by decide +kernel) (zero := #[.int .i64 0]) (by kernel_rfl) rfl (by kernel_rfl) (by kernel_rfl) (by kernel_rfl)

theorem env_of_met {W : World} (h : laidMetH Tryd.prog laidL W) (hs : W.ShapedOpen Tryd.prog) : AwE W := ⟨⟨laid_of_met h, maxLen_of_shape hs, (signs_of_met h).1, (signs_of_met h).2⟩, handle_of_met h⟩

variable {H : Type} {enc : TypeId × Value → H}

theorem u8_wf {z : Int} (h : (Lit.int .u8 z).wf = true) : 0 ≤ z ∧ z < 256 := by
  simp [Lit.wf, IntKind.min, IntKind.max, IntKind.signed, IntKind.bits] at h
  omega
theorem u32_wf {z : Int} (h : (Lit.int .u32 z).wf = true) : 0 ≤ z ∧ z < 4294967296 := by
  simp [Lit.wf, IntKind.min, IntKind.max, IntKind.signed, IntKind.bits] at h
  omega
theorem arg_below {W : World} {base : Nat} {spare : Nat → Bool} {held : Bool} {t : TypeId} {v : Value} {d : DataW H} {p : List MemPlace} (h : DataW.Trod enc Tryd.prog W base spare held t v d p) : ∀ x ∈ p, x.block < W.heap.size := by
  obtain ⟨m, hm⟩ := h
  exact DataW.trod_lt m _ _ _ hm
theorem returnsLaid {C : Checked} {os : Os} {f : FuncId} {fn : Func} {s : ChangeSpec} {X : World → Array Value → Prop}
    (hX : ∀ (w w' : World) (args : Array Value), w.heap = w'.heap → X w args → X w' args)
    (own : ownKnob C.prog.godebug = none) (started : os.Started) (noInit : C.prog.inits.idxOf? f = none) (hfn : C.prog.funcs[f]? = some fn)
    (witness : ∃ (w : World) (tape : Tape) (i : Input), w.os = os ∧ (w.forCall tape i).Shaped C.prog ∧ i.vars = [] ∧ Input.okWide C.prog (w.forCall tape i) .any w.heap.size f i ∧
      ((s.pre enc C.prog fn [] false (w.forCall tape i).memory i.args ∧ X (w.forCall tape i).memory i.args) ∧ sizedMet enc C.prog fn (OpenSpec.ofChange s) false (w.forCall tape i).memory i.args) ∧ ({} : Assume).holds C.prog (lone (Frame.enter C.prog f i.args .normal) [] (w.forCall tape i)))
    (contract : ∀ (W : World) (base : Nat) (args : Array Value) (ds gs : List (DataW H)) (before : List MemPlace),
      (∀ (j : Nat) t v, fn.params[j]? = some t → args[j]? = some v → Value.okWide C.prog W .any base t v) →
      DataW.Whole enc C.prog fn.params.toList s.vars false W args.toList ds gs before → (DataW.weightsEach C.prog (fn.params.toList ++ s.plain.varTypes C.prog) (ds ++ gs)).all (· ≤ reachBytes) = true → X W args → W.ShapedOpen C.prog →
      Calls C.prog f args W fun e W' => ∃ v, e = .returned v ∧ s.post enc C.prog fn false true false false W args v W') :
    ReturnsInHanded {} C os f .any (fun w args => (s.pre enc C.prog fn [] false w args ∧ X w args) ∧ sizedMet enc C.prog fn (OpenSpec.ofChange s) false w args) (s.post enc C.prog fn false true false false) := by
  refine returnsInHanded_of_calls own started noInit witness ?_
  intro w tape i _ hsh _ hok hpre _
  obtain ⟨_, _, _, fn', hfn', _, _, _, _, hval⟩ := hok
  obtain rfl : fn' = fn := Option.some.inj (hfn'.symm.trans hfn)
  obtain ⟨⟨⟨ds, gs, before, hw, _⟩, hx⟩, hz⟩ := hpre
  refine (contract (w.forCall tape i) w.heap.size i.args ds gs before hval (DataW.Whole.of_heap (w' := w.forCall tape i) (by rfl) hw) (hz.weights hw) (hX _ _ _ (by rfl) hx) hsh).mono fun e W' ⟨v, he, hp⟩ => ?_
  subst he
  exact ChangeSpec.post_blind hp

end Go.Proofs.YtkpgbcackphdbaaDoor
namespace Go.Proofs.YtkpgbcackphdbaaDoor
open Go.ChangeShapes Go.WideShapes Go.ChangeAt Go.RowKit Go.Lib
/-- The listed variables that are no handle. -/
def zl : List (String × DataW Unit) := laidL.filter fun x => x.2.handleName?.isNone
noncomputable def zbase (os : Os) : World := (World.holding Tryd.prog os ⟨#[], #[], []⟩).setCell ⟨2, 0, none⟩ (.iface 97 (.agg #[.pointer (some ⟨9, 25, none⟩)]))
noncomputable def zw (os : Os) : World := (zbase os).layVars Tryd.prog zl
theorem zw_os (os : Os) : (zw os).os = os := World.layVars_os _ _ _
set_option maxRecDepth 100000 in
theorem zplain (os : Os) (args : Array Value) : laidMet Tryd.prog zl ((zw os).forCall (fun _ _ => 0) ⟨#[], args, []⟩).memory := by
  have e1 : (zl.filter fun x => (zl.map (·.1)).contains x.1) = zl := List.filter_eq_self.2 fun x hx => List.contains_iff_mem.2 (List.mem_map.2 ⟨x, hx, rfl⟩)
  have e2 : (zl.filter fun x => !(zl.map (·.1)).contains x.1) = [] := List.filter_eq_nil_iff.2 fun x hx => by rw [List.contains_iff_mem.2 (List.mem_map.2 ⟨x, hx, rfl⟩)]; simp
  have h : laidMet Tryd.prog zl (zw os) := laidMet_layVars (w0 := zbase os) (zl.map (·.1)) [] (by rw [e1]; rfl) (by rw [e1]; kernel_rfl) (by rw [e1]; kernel_rfl) (by rw [e2]; exact LaidIn.none)
  exact h.of_heap (by simp [World.memory, World.forCall, Input.heap])
set_option maxRecDepth 100000 in
theorem zmet (os : Os) (args : Array Value) : laidMetH Tryd.prog laidL ((zw os).forCall (fun _ _ => 0) ⟨#[], args, []⟩).memory :=
  laidMetH_of_parts3 (fuel := 8) (zplain os args) (by kernel_rfl) (by kernel_rfl)
end Go.Proofs.YtkpgbcackphdbaaDoor
