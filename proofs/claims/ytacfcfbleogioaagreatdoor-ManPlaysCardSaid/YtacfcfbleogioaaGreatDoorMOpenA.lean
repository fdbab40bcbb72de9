/-
  Blocks of before. No condition.
  From the readings of the laws' arguments to what the walks ask of them: manifests, numbers, troubles; the laid variables' cells. No condition.
-/
import Derived.Test.YtacfcfbleogioaaGreatDoorMNew
import Derived.Test.YtacfcfbleogioaaGreatDoorFCodeA
import Derived.Test.YtacfcfbleogioaaGreatDoorRows
import Derived.ProofKit
import Derived.LaidMore
import Derived.LaidSub
import Derived.LaidHandle
import Derived.OpenShut
import Derived.SizedLaws
import Derived.Carry
import Derived.Deep.Slices
import Derived.Deep.Fields
import Derived.Lib.SmallJoins
import Derived.ChangeSame
namespace Go.Proofs.YtacfcfbleogioaaGreatDoor
open Go.RowKit Go.Lib Go.Joins

/-- Blocks of before. -/
def Was0 (w0 : World) : Nat → Prop := fun k => k < w0.heap.size
end Go.Proofs.YtacfcfbleogioaaGreatDoor

namespace Go.Proofs.YtacfcfbleogioaaGreatDoor
open Go.ChangeShapes Go.WideShapes Go.ChangeAt Go.RowKit Go.Deep Go.Joins

theorem zown : ownKnob Tryz.prog.godebug = none := by kernel_rfl
theorem zrt : (Tryz.prog.cutTypes.find? (·.1 == "internal/reflectlite.rtype")).map (·.2) = some 189 := by kernel_rfl
theorem zoneRow : ((List.range 282).filter fun t => Tryz.prog.rowNamed t [101, 114, 114, 111, 114]) = [46] := by kernel_rfl
theorem ztsize : Tryz.prog.types.size = 282 := by kernel_rfl
theorem gPow : Tryz.prog.globalNamed "internal/strconv.uint64pow10" = some 1 := by kernel_rfl
theorem tPow : (Tryz.prog.globals[1]?).map (·.type) = some 240 := by kernel_rfl
theorem gSyn : Tryz.prog.globalNamed "strconv.ErrSyntax" = some 3 := by kernel_rfl
theorem tSyn : (Tryz.prog.globals[3]?).map (·.type) = some 46 := by kernel_rfl
theorem gRng : Tryz.prog.globalNamed "strconv.ErrRange" = some 4 := by kernel_rfl
theorem tRng : (Tryz.prog.globals[4]?).map (·.type) = some 46 := by kernel_rfl
theorem cellsU64 : Tryz.prog.cellsOf 206 = 1 := by kernel_rfl
theorem cellsPow : Tryz.prog.cellsOf 240 = 20 := by kernel_rfl

/-- The rows' list of laid variables. -/
def laidZ : List (String × DataW Unit) := [("math/bits.deBruijn32tab", Rows.laid_math_bits_deBruijn32tab), ("math/bits.deBruijn64tab", Rows.laid_math_bits_deBruijn64tab), ("internal/strconv.uint64pow10", Rows.laid_internal_strconv_uint64pow10), ("errors.errorType", Rows.laid_errors_errorType), ("strconv.ErrRange", Rows.laid_strconv_ErrRange), ("strconv.ErrSyntax", Rows.laid_strconv_ErrSyntax)]
theorem pow_data : (Rows.laid_internal_strconv_uint64pow10 : DataW Unit) = Lib.tabData .u64 Lib.pow10Tab := by kernel_rfl
theorem zmet (os : Os) (args : Array Value) : laidMetH Tryz.prog laidZ ((World.doorLaid Tryz.prog 400 os).forCall (fun _ _ => 0) ⟨#[], args, []⟩).memory :=
  laidMetH_of_parts3 (fuel := 8) (laidMet_of_run' 8 (by kernel_rfl) (by kernel_rfl)) (by kernel_rfl) (by kernel_rfl)

theorem ztab {W : World} (h : laidMetH Tryz.prog laidZ W) : Tab W := by
  obtain ⟨h1, _⟩ := laidMetH_iff.1 h
  have h2 := h1.filter (fun x => x.1 == "internal/strconv.uint64pow10")
  have e : ((laidZ.filter fun x => x.2.handleName?.isNone).filter fun x => x.1 == "internal/strconv.uint64pow10") = [("internal/strconv.uint64pow10", Lib.tabData .u64 Lib.pow10Tab)] := by
    rw [← pow_data]; rfl
  rw [e] at h2
  exact Lib.tabIs_of_head gPow tPow Tryz.underlying240 Tryz.underlying206 cellsU64 cellsPow h2
theorem zhandle {W : World} (h : laidMetH Tryz.prog laidZ W) : Handle W := by
  obtain ⟨_, h2⟩ := laidMetH_iff.1 h
  obtain ⟨name, u, ty, e1, e2, e3, e4, e5⟩ := h2 ("errors.errorType", Rows.laid_errors_errorType) (by simp [laidZ, Rows.laid_errors_errorType, Rows.laid_internal_strconv_uint64pow10, Rows.laid_math_bits_deBruijn32tab, Rows.laid_math_bits_deBruijn64tab, Rows.laid_strconv_ErrRange, Rows.laid_strconv_ErrSyntax, DataW.handleName?])
  have en : name = [101, 114, 114, 111, 114] := (Option.some.inj e1).symm
  subst en
  obtain rfl := Option.some.inj (zrt.symm.trans e2)
  have hm : ty ∈ (List.range 282).filter fun t => Tryz.prog.rowNamed t [101, 114, 114, 111, 114] := List.mem_filter.2 ⟨List.mem_range.2 (by rw [← ztsize]; exact e3), e4⟩
  rw [zoneRow] at hm
  obtain rfl := List.mem_singleton.1 hm
  have hh : typeHandle Tryz.prog 46 = .pointer (some ⟨7, 46, none⟩) := by kernel_rfl
  rw [hh] at e5
  simpa [Handle] using World.var?_cell et e5 0
theorem iface_of_head {P : Program} {W : World} {name n : String} {d : DataW Unit} {rest : List (String × DataW Unit)} {g : Nat} {t : TypeId} {ms : Array (String × TypeId)} (hg : P.globalNamed name = some g) (hty : (P.globals[g]?).map (·.type) = some t) (ht : P.underlying t = some (.interface ms))
    (h : laidMet P ((name, .iface n d) :: rest) W) : ∃ ev, W.cell? ⟨g, 0, none⟩ = some ev ∧ (ev = .nilIface ∨ ∃ te pe, ev = .iface te pe) := by
  obtain ⟨ps, ⟨g', t', cs, fuel, p, q, hg', ht', hvar, hd, _, _⟩, _⟩ := h
  obtain rfl := Option.some.inj (hg.symm.trans hg')
  obtain rfl := Option.some.inj (hty.symm.trans ht')
  obtain ⟨_, u, v, hcs, _, _⟩ := iface_of_trod ht hd
  have hc := World.var?_cell hg hvar 0
  refine ⟨.iface u v, ?_, .inr ⟨u, v, rfl⟩⟩
  rw [hc]
  have : cs = #[.iface u v] := by
    rw [← Array.toArray_toList (xs := cs), hcs]
  rw [this]
  rfl
theorem zerrs {W : World} (h : laidMetH Tryz.prog laidZ W) : Errs W := by
  obtain ⟨h1, _⟩ := laidMetH_iff.1 h
  refine ⟨?_, ?_⟩
  · have h2 := h1.filter (fun x => x.1 == "strconv.ErrSyntax")
    have e : ((laidZ.filter fun x => x.2.handleName?.isNone).filter fun x => x.1 == "strconv.ErrSyntax") = [("strconv.ErrSyntax", Rows.laid_strconv_ErrSyntax)] := rfl
    rw [e] at h2
    exact iface_of_head gSyn tSyn Tryz.underlying46 h2
  · have h2 := h1.filter (fun x => x.1 == "strconv.ErrRange")
    have e : ((laidZ.filter fun x => x.2.handleName?.isNone).filter fun x => x.1 == "strconv.ErrRange") = [("strconv.ErrRange", Rows.laid_strconv_ErrRange)] := rfl
    rw [e] at h2
    exact iface_of_head gRng tRng Tryz.underlying46 h2

theorem list_of {α : Type} {P : Nat → α → Prop} : ∀ n, (∀ i, i < n → ∃ x, P i x) → ∃ l : List α, l.length = n ∧ ∀ i x, l[i]? = some x → P i x
  | 0, _ => ⟨[], rfl, fun i x h => by simp at h⟩
  | n + 1, h => by
    obtain ⟨l, hl, hp⟩ := list_of n (fun i hi => h i (by omega))
    obtain ⟨x, hx⟩ := h n (by omega)
    refine ⟨l ++ [x], by rw [List.length_append, hl]; rfl, fun i y hi => ?_⟩
    by_cases hlt : i < n
    · rw [List.getElem?_append_left (by omega)] at hi
      exact hp i y hi
    · rw [List.getElem?_append_right (by omega)] at hi
      have hi0 : i - l.length = 0 := by
        have := (List.getElem?_eq_some_iff.1 hi).1
        simp at this
        omega
      rw [hi0] at hi
      obtain rfl : x = y := by simpa using hi
      obtain rfl : i = n := by omega
      exact hx
variable {H : Type} {enc : TypeId × Value → H}

theorem weightsAll_mem {P : Program} {e : TypeId} : ∀ {l : List (DataW H)} {d : DataW H}, d ∈ l → ∀ n ∈ d.weights P e, n ∈ DataW.weightsAll P e l
  | x :: l, d, hd, n, hn => by
    unfold DataW.weightsAll
    rcases List.mem_cons.1 hd with rfl | hd
    · exact List.mem_append_left _ hn
    · exact List.mem_append_right _ (weightsAll_mem hd n hn)
theorem open_slice_fields {P : Program} {w : World} {base : Nat} {spare : Nat → Bool} {held : Bool} {t e : TypeId} {fs : Array Field} {fuel : Nat} {cs : List Value} {x : DataW H × List MemPlace} (ht : P.underlying t = some (.slice e)) (he : P.underlying e = some (.struct fs))
    (hone : oneCellFields P fs = true) (hC : P.cellsOf e = fs.size) (h : DataW.trod enc P w base spare held fuel t cs = some x) :
    (cs = [.slice none 0 0] ∧ x = (.nil, [])) ∨
    ∃ (a : Addr) (len cap m : Nat) (D : Nat → DataW H) (Pl : Nat → List MemPlace), cs = [.slice (some a) len cap] ∧ base ≤ a.block ∧ len ≤ cap ∧ cap ≤ maxLen ∧ m = (if spare a.block then cap else len) ∧
      x = (.slice ((List.range len).map D) ((List.range (m - len)).map fun j => D (len + j)), MemPlace.row a (m * fs.size) ++ (List.range m).flatMap Pl) ∧
      ∀ i, i < m → ∃ (ys : List (DataW H × List MemPlace)) (n : Nat), D i = .agg (ys.map (·.1)) ∧ Pl i = ys.flatMap (·.2) ∧ ys.length = fs.size ∧
        ∀ (j : Nat) (f : Field), fs[j]? = some f → ∃ (v : Value) (y : DataW H × List MemPlace), w.cell? (a.add (i * fs.size + j)) = some v ∧ ys[j]? = some y ∧ DataW.trod enc P w base spare held n f.type [v] = some y := by
  rcases open_slice ht h with h0 | ⟨a, len, cap, m, n, D, Pl, hcs, hb, hl, hm, hmm, hx, hi⟩
  · exact .inl h0
  · refine .inr ⟨a, len, cap, m, D, Pl, hcs, hb, hl, hm, hmm, by rw [hC] at hx; exact hx, fun i him => ?_⟩
    obtain ⟨cs', hc, ht'⟩ := hi i him
    rw [hC] at hc
    obtain ⟨ys, n', hn', hy, hlen, hyl, hf⟩ := DataW.trod_struct he ht'
    obtain ⟨_, hcl, hat⟩ := World.cells?_some hc
    simp only [Prod.mk.injEq] at hy
    refine ⟨ys, n', hy.1, hy.2, hyl, fun j f hj => ?_⟩
    obtain ⟨ho, hk⟩ := hone_of hone j f hj
    have hjl : j < fs.size := (Array.getElem?_eq_some_iff.1 hj).1
    have hcell := hat j hjl
    have hv : cs'[j]? = some (cs'[j]'(by omega)) := List.getElem?_eq_getElem (by omega)
    have h1 := hf j f hj
    rw [ho, hk] at h1
    have hone' : (cs'.drop j).take 1 = [cs'[j]'(by omega)] := by
      rw [List.drop_eq_getElem_cons (by omega)]
      rfl
    rw [hone'] at h1
    have hys : ys[j]? = some (ys[j]'(by omega)) := List.getElem?_eq_getElem (by omega)
    refine ⟨_, _, ?_, hys, h1.trans hys⟩
    rw [← Go.Deep.add_add, hcell, hv]
set_option maxRecDepth 100000 in
/-- A slice of numbers, read. -/
theorem ints8_of {W : World} {base : Nat} {spare : Nat → Bool} {held : Bool} {n : Nat} {v : Value} {y : DataW H × List MemPlace} (h : DataW.trod enc Tryz.prog W base spare held n 23 [v] = some y) :
    ∃ a len cap, ∃ l : List Int, v = .slice a len cap ∧ IRow W (Was0 W) a l ∧ l.length = len ∧ (a = none → cap = 0) ∧ len ≤ cap ∧ cap ≤ maxLen ∧ ((∀ k ∈ y.1.weights Tryz.prog 23, k ≤ reachBytes) → len ≤ reachBytes) := by
  rcases open_ints Tryz.underlying23 Tryz.underlying3 (by kernel_rfl) h with ⟨hcs, _⟩ | ⟨x, len, cap, zs, hcs, _, hl, hm, hz, hy, hcell, _⟩
  · simp at hcs
    subst hcs
    exact ⟨none, 0, 0, [], rfl, .inl rfl, rfl, fun _ => rfl, Nat.le_refl _, Nat.zero_le _, fun _ => Nat.zero_le _⟩
  · simp at hcs
    subst hcs
    have hzl : len ≤ zs.length := by rw [hz]; split <;> omega
    by_cases h0 : len = 0
    · subst h0
      exact ⟨some x, 0, cap, [], rfl, .inl rfl, rfl, (fun e => by cases e), hl, hm, fun _ => Nat.zero_le _⟩
    · obtain ⟨b, off, spot⟩ := x
      have hspot : spot = none := by simpa [Addr.add] using World.cell?_spot (hcell 0 (by omega))
      subst hspot
      have hb : b < W.heap.size := by
        have hc := hcell 0 (by omega)
        rw [Addr.add_mid] at hc
        exact lt_of_cell hc
      refine ⟨_, len, cap, zs.take len, rfl, .inr ⟨b, off, rfl, hb, fun i z hi => ?_⟩, by rw [List.length_take]; omega, (fun e => by cases e), hl, hm, fun hw => ?_⟩
      · have hlt : i < len := by
          have := (List.getElem?_eq_some_iff.1 hi).1
          rw [List.length_take] at this
          omega
        rw [List.getElem?_take_of_lt hlt] at hi
        have hc := hcell i (by omega)
        rw [Addr.add_mid, List.getD_eq_getElem?_getD, hi, Option.getD_some] at hc
        exact hc
      · rw [hy] at hw
        have := hw (((lits .i64 (zs.take len)).length + (lits .i64 (zs.drop len)).length) * Tryz.prog.bytesOf 3) (by simp only [DataW.weights, Tryz.underlying23]; exact List.mem_cons_self ..)
        have hb8 : Tryz.prog.bytesOf 3 = 8 := by kernel_rfl
        rw [hb8] at this
        simp only [lits, List.length_map, List.length_take, List.length_drop] at this
        omega
theorem reach_le : reachBytes ≤ 140737488355328 := by decide

set_option maxRecDepth 100000 in
/-- A slice of troubles, read. -/
theorem tros_of {W : World} {base : Nat} {spare : Nat → Bool} {held : Bool} {n : Nat} {v : Value} {y : DataW H × List MemPlace} (h : DataW.trod enc Tryz.prog W base spare held n 26 [v] = some y) :
    ∃ a len cap, ∃ l : List Tro, v = .slice a len cap ∧ RowT W (Was0 W) a l ∧ l.length = len ∧ (∀ t ∈ l, (Lit.int .i64 t.at_).wf = true) ∧ ((∀ k ∈ y.1.weights Tryz.prog 26, k ≤ reachBytes) → len ≤ reachBytes) := by
  rcases open_slice_fields Tryz.underlying26 Tryz.underlying95 (by kernel_rfl) (by kernel_rfl) h with ⟨hcs, _⟩ | ⟨x, len, cap, m, D, Pl, hcs, _, hl, hm, hmm, hx, hi⟩
  · simp at hcs
    subst hcs
    exact ⟨none, 0, 0, [], rfl, .inl rfl, rfl, (fun t ht => by cases ht), fun _ => Nat.zero_le _⟩
  · simp at hcs
    subst hcs
    have hml : len ≤ m := by rw [hmm]; split <;> omega
    by_cases h00 : len = 0
    · subst h00
      exact ⟨some x, 0, cap, [], rfl, .inl rfl, rfl, (fun t ht => by cases ht), fun _ => Nat.zero_le _⟩
    · obtain ⟨b, off, spot⟩ := x
      have hspot : spot = none := by
        obtain ⟨ys, n, _, _, _, hfl⟩ := hi 0 (by omega)
        obtain ⟨v0, y0, c0, _⟩ := hfl 0 _ rfl
        simpa [Addr.add] using World.cell?_spot c0
      subst hspot
      obtain ⟨L, hL, hP⟩ := list_of (P := fun i (t : Tro) => (W.cell? ⟨b, off + i * 3, none⟩ = some (.int .i64 t.at_) ∧ W.cell? ⟨b, off + i * 3 + 1, none⟩ = some (.int .i64 t.kind) ∧ W.cell? ⟨b, off + i * 3 + 2, none⟩ = some (.int .i64 t.part)) ∧
          (Lit.int .i64 t.at_).wf = true) len (fun i hil => by
        obtain ⟨ys, n, hD, _, hyl, hfl⟩ := hi i (by omega)
        obtain ⟨u0, y0, c0, k0, t0⟩ := hfl 0 _ rfl
        obtain ⟨u1, y1, c1, k1, t1⟩ := hfl 1 _ rfl
        obtain ⟨u2, y2, c2, k2, t2⟩ := hfl 2 _ rfl
        obtain ⟨z0, e0, _, w0⟩ := DataW.trod_int Tryz.underlying3 t0
        obtain ⟨z1, e1, _, _⟩ := DataW.trod_int Tryz.underlying3 t1
        obtain ⟨z2, e2, _, _⟩ := DataW.trod_int Tryz.underlying3 t2
        simp at e0 e1 e2
        subst e0 e1 e2
        rw [Addr.add_mid] at c0 c1 c2
        exact ⟨⟨z0, z1, z2⟩, ⟨c0, by rw [Nat.add_assoc]; exact c1, by rw [Nat.add_assoc]; exact c2⟩, w0⟩)
      have hbS : Was0 W b := by
        obtain ⟨ys, n, _, _, _, hfl⟩ := hi 0 (by omega)
        obtain ⟨v0, y0, c0, _⟩ := hfl 0 _ rfl
        rw [Addr.add_mid] at c0
        exact lt_of_cell c0
      refine ⟨_, len, cap, L, rfl, .inr ⟨b, off, rfl, hbS, fun i t hit => (hP i t hit).1⟩, hL, fun t ht => ?_, fun hw => ?_⟩
      · obtain ⟨i, hit⟩ := List.mem_iff_getElem?.1 ht
        exact (hP i t hit).2
      · subst hx
        have := hw _ (by simp only [DataW.weights, Tryz.underlying26]; exact List.mem_cons_self ..)
        have hb24 : Tryz.prog.bytesOf 95 = 24 := by kernel_rfl
        rw [hb24] at this
        simp only [List.length_map, List.length_range] at this
        omega

set_option maxRecDepth 100000 in
/-- A manifest as an argument. -/
theorem man_arg {W : World} {base b0 : Nat} {spare : Nat → Bool} {held : Bool} {v : Value} {d : DataW H} {p : List MemPlace} (hv : Value.okWide Tryz.prog W .any b0 25 v) (h0 : DataW.Trod enc Tryz.prog W base spare held 25 v d p) (hw : ∀ k ∈ d.weights Tryz.prog 25, k ≤ reachBytes) :
    ∃ g l a n c, ∃ segs : List Int, v = .agg #[.int .i64 g, .int .i64 l, .slice a n c] ∧ IRow W (Was0 W) a segs ∧ segs.length = n ∧ n ≤ 140737488355328 ∧ (a = none → c = 0) := by
  obtain ⟨v0, v1, v2, y0, y1, y2, m, rfl, rfl, _, t0, t1, t2⟩ := open_agg3 Tryz.underlying25 (by kernel_rfl) (by kernel_rfl) hv h0
  obtain ⟨g, e0, _, _⟩ := DataW.trod_int Tryz.underlying3 t0
  obtain ⟨l, e1, _, _⟩ := DataW.trod_int Tryz.underlying3 t1
  simp at e0 e1
  subst e0 e1
  obtain ⟨a, len, cap, segs, rfl, h1, h2, h3, _, _, h6⟩ := ints8_of t2
  refine ⟨g, l, a, len, cap, segs, rfl, h1, h2, Nat.le_trans (h6 fun k hk => hw k ?_) reach_le, h3⟩
  simp only [DataW.weights, Tryz.underlying25]
  exact List.mem_append_right _ (List.mem_append_right _ (List.mem_append_left _ hk))

end Go.Proofs.YtacfcfbleogioaaGreatDoor
