/-
  From the readings of the laws' arguments to what the walks ask of them: rows, numbers, troubles, steps; the laid variables' cells. No condition.
-/
import Derived.Test.YtjhiekijbcjohaaGreatDoorRows
import Derived.Test.YtjhiekijbcjohaaGreatDoorSDo
import Derived.Test.YtjhiekijbcjohaaGreatDoorFCode
import Derived.ProofKit
import Derived.LaidMore
import Derived.LaidSub
import Derived.LaidHandle
import Derived.OpenShut
import Derived.SizedLaws
import Derived.Carry
import Derived.Deep.Slices
import Derived.Deep.Fields
import Derived.ChangeSame
namespace Go.Proofs.YtjhiekijbcjohaaGreatDoor
open Go.ChangeShapes Go.WideShapes Go.ChangeAt Go.RowKit Go.Deep Go.Joins

theorem lown : ownKnob Tryz.prog.godebug = none := by kernel_rfl
theorem lrt : (Tryz.prog.cutTypes.find? (·.1 == "internal/reflectlite.rtype")).map (·.2) = some 189 := by kernel_rfl
theorem loneRow : ((List.range 260).filter fun t => Tryz.prog.rowNamed t [101, 114, 114, 111, 114]) = [39] := by kernel_rfl
theorem ltsize : Tryz.prog.types.size = 260 := by kernel_rfl
theorem lPow : Tryz.prog.globalNamed "internal/strconv.uint64pow10" = some 3 := by kernel_rfl
theorem ltPow : (Tryz.prog.globals[3]?).map (·.type) = some 213 := by kernel_rfl
theorem lcells1 : Tryz.prog.cellsOf 152 = 1 := by kernel_rfl
theorem lcells20 : Tryz.prog.cellsOf 213 = 20 := by kernel_rfl

/-- The rows' list of laid variables. -/
def laidL : List (String × DataW Unit) := [("math/bits.deBruijn32tab", Rows.laid_math_bits_deBruijn32tab), ("math/bits.deBruijn64tab", Rows.laid_math_bits_deBruijn64tab), ("internal/strconv.uint64pow10", Rows.laid_internal_strconv_uint64pow10), ("errors.errorType", Rows.laid_errors_errorType)]
theorem lpow_data : (Rows.laid_internal_strconv_uint64pow10 : DataW Unit) = Lib.tabData .u64 Lib.pow10Tab := by kernel_rfl
theorem lmet (os : Os) (args : Array Value) : laidMetH Tryz.prog laidL ((World.doorLaid Tryz.prog 400 os).forCall (fun _ _ => 0) ⟨#[], args, []⟩).memory :=
  laidMetH_of_parts3 (fuel := 8) (laidMet_of_run' 8 (by kernel_rfl) (by kernel_rfl)) (by kernel_rfl) (by kernel_rfl)
theorem lhandle {W : World} (h : laidMetH Tryz.prog laidL W) : Handle W := by
  obtain ⟨_, h2⟩ := laidMetH_iff.1 h
  obtain ⟨name, u, ty, e1, e2, e3, e4, e5⟩ := h2 ("errors.errorType", Rows.laid_errors_errorType) (by simp [laidL, Rows.laid_errors_errorType, Rows.laid_internal_strconv_uint64pow10, Rows.laid_math_bits_deBruijn32tab, Rows.laid_math_bits_deBruijn64tab, DataW.handleName?])
  have en : name = [101, 114, 114, 111, 114] := (Option.some.inj e1).symm
  subst en
  obtain rfl := Option.some.inj (lrt.symm.trans e2)
  have hm : ty ∈ (List.range 260).filter fun t => Tryz.prog.rowNamed t [101, 114, 114, 111, 114] := List.mem_filter.2 ⟨List.mem_range.2 (by rw [← ltsize]; exact e3), e4⟩
  rw [loneRow] at hm
  obtain rfl := List.mem_singleton.1 hm
  have hh : typeHandle Tryz.prog 39 = .pointer (some ⟨7, 39, none⟩) := by kernel_rfl
  rw [hh] at e5
  simpa [Handle] using World.var?_cell et e5 0
theorem ltab {W : World} (h : laidMetH Tryz.prog laidL W) : Tab W := by
  obtain ⟨h1, _⟩ := laidMetH_iff.1 h
  have h2 := h1.filter (fun x => x.1 == "internal/strconv.uint64pow10")
  have e : ((laidL.filter fun x => x.2.handleName?.isNone).filter fun x => x.1 == "internal/strconv.uint64pow10") = [("internal/strconv.uint64pow10", Lib.tabData .u64 Lib.pow10Tab)] := by
    rw [← lpow_data]; rfl
  rw [e] at h2
  exact Lib.tabIs_of_head lPow ltPow Tryz.underlying213 Tryz.underlying152 lcells1 lcells20 h2

/-- Blocks that are there. -/
def Old (w : World) : Nat → Prop := fun k => k < w.heap.size
theorem list_of {α : Type} {P : Nat → α → Prop} : ∀ n, (∀ i, i < n → ∃ x, P i x) → ∃ l : List α, l.length = n ∧ ∀ i x, l[i]? = some x → P i x
  | 0, _ => ⟨[], rfl, fun i x h => by simp at h⟩
  | n + 1, h => by
    obtain ⟨l, hl, hp⟩ := list_of n (fun i hi => h i (by omega))
    obtain ⟨x, hx⟩ := h n (by omega)
    refine ⟨l ++ [x], by rw [List.length_append, hl]; rfl, fun i y hi => ?_⟩
    by_cases hlt : i < n
    · rw [List.getElem?_append_left (by omega)] at hi
      exact hp i y hi
    · rw [List.getElem?_append_right (by omega)] at hi
      have hi0 : i - l.length = 0 := by
        have := (List.getElem?_eq_some_iff.1 hi).1
        simp at this
        omega
      rw [hi0] at hi
      obtain rfl : x = y := by simpa using hi
      obtain rfl : i = n := by omega
      exact hx
theorem u8_bounds {z : Int} (h : (Lit.int .u8 z).wf = true) : 0 ≤ z ∧ z < 256 := by
  simp [Lit.wf, IntKind.min, IntKind.max, IntKind.signed, IntKind.bits] at h
  omega
theorem row_of {W : World} {a : Addr} {len : Nat} {zs : List Int} (hz : len ≤ zs.length) (hb : a.block < W.heap.size)
    (hcell : ∀ i, i < zs.length → W.cell? (a.add i) = some (.int .u8 (zs.getD i 0))) (hwz : ∀ n ∈ zs, (Lit.int .u8 n).wf = true) :
    ∃ l : List Nat, Row W (Old W) (some a) l ∧ l.length = len := by
  refine ⟨(zs.take len).map Int.toNat, ⟨?_, ?_⟩, by rw [List.length_map, List.length_take]; omega⟩
  · intro c hc
    obtain ⟨z, hz1, rfl⟩ := List.mem_map.1 hc
    have := u8_bounds (hwz z (List.mem_of_mem_take hz1))
    omega
  · by_cases h0 : len = 0
    · left; rw [h0]; rfl
    · obtain ⟨b, off, spot⟩ := a
      have hspot : spot = none := by simpa [Addr.add] using World.cell?_spot (hcell 0 (by omega))
      subst hspot
      refine Or.inr ⟨b, off, rfl, hb, fun i c hi => ?_⟩
      rw [List.getElem?_map] at hi
      obtain ⟨z, hz1, rfl⟩ := Option.map_eq_some_iff.1 hi
      have hlt : i < zs.length := by
        have := (List.getElem?_eq_some_iff.1 hz1).1
        rw [List.length_take] at this
        omega
      have hg : zs[i]? = some z := by
        rw [List.getElem?_take] at hz1
        split at hz1
        · exact hz1
        · cases hz1
      have hc := hcell i hlt
      rw [Addr.add_mid, List.getD_eq_getElem?_getD, hg, Option.getD_some] at hc
      rw [hc]
      have := u8_bounds (hwz z (List.mem_of_getElem? hg))
      congr 2
      omega

variable {H : Type} {enc : TypeId × Value → H}

set_option maxRecDepth 100000 in
/-- A slice of bytes, read. -/
theorem bytes_of {W : World} {base : Nat} {spare : Nat → Bool} {held : Bool} {n : Nat} {v : Value} {y : DataW H × List MemPlace} (h : DataW.trod enc Tryz.prog W base spare held n 27 [v] = some y) :
    ∃ a len cap l, v = .slice a len cap ∧ Row W (Old W) a l ∧ l.length = len ∧ (a = none → cap = 0) ∧ len ≤ cap ∧ cap ≤ maxLen ∧ ((∀ k ∈ y.1.weights Tryz.prog 27, k ≤ reachBytes) → len ≤ reachBytes) := by
  rcases open_ints Tryz.underlying27 Tryz.underlying5 (by kernel_rfl) h with ⟨hcs, _⟩ | ⟨x, len, cap, zs, hcs, _, hl, hm, hz, hy, hcell, hwz⟩
  · simp at hcs
    subst hcs
    exact ⟨none, 0, 0, [], rfl, ⟨(fun c hc => by cases hc), Or.inl rfl⟩, rfl, fun _ => rfl, Nat.le_refl _, Nat.zero_le _, fun _ => Nat.zero_le _⟩
  · simp at hcs
    subst hcs
    have hzl : len ≤ zs.length := by rw [hz]; split <;> omega
    by_cases h0 : len = 0
    · subst h0
      exact ⟨some x, 0, cap, [], rfl, ⟨(fun c hc => by cases hc), Or.inl rfl⟩, rfl, (fun e => by cases e), hl, hm, fun _ => Nat.zero_le _⟩
    · have hb : x.block < W.heap.size := by
        have hc := hcell 0 (by omega)
        obtain ⟨b, off, spot⟩ := x
        have hspot : spot = none := by simpa [Addr.add] using World.cell?_spot hc
        subst hspot
        rw [Addr.add_mid] at hc
        exact lt_of_cell hc
      obtain ⟨l, h1, h2⟩ := row_of (W := W) (a := x) (len := len) (zs := zs) hzl hb hcell hwz
      refine ⟨_, _, _, l, rfl, h1, h2, (fun e => by cases e), hl, hm, fun hw => ?_⟩
      rw [hy] at hw
      have := hw (((lits .u8 (zs.take len)).length + (lits .u8 (zs.drop len)).length) * Tryz.prog.bytesOf 5) (by simp only [DataW.weights, Tryz.underlying27]; exact List.mem_cons_self ..)
      have hb5 : Tryz.prog.bytesOf 5 = 1 := by kernel_rfl
      rw [hb5] at this
      simp only [lits, List.length_map, List.length_take, List.length_drop] at this
      omega
theorem weightsAll_mem {P : Program} {e : TypeId} : ∀ {l : List (DataW H)} {d : DataW H}, d ∈ l → ∀ n ∈ d.weights P e, n ∈ DataW.weightsAll P e l
  | x :: l, d, hd, n, hn => by
    unfold DataW.weightsAll
    rcases List.mem_cons.1 hd with rfl | hd
    · exact List.mem_append_left _ hn
    · exact List.mem_append_right _ (weightsAll_mem hd n hn)
theorem recs_mk {w : World} {S : Nat → Prop} {b o : Nat} {L : List (List Nat)} (hS : S b)
    (h : ∀ i l, L[i]? = some l → ∃ v, w.cell? ⟨b, o + i, none⟩ = some v ∧ Byt w S v l) :
    Recs w S (some ⟨b, o, none⟩) L := by
  obtain ⟨cells, hl, hc⟩ := list_of (P := fun j v => w.cell? ⟨b, o + j, none⟩ = some v) L.length (fun i hi => by
    obtain ⟨v, h1, _⟩ := h i L[i] (List.getElem?_eq_getElem hi)
    exact ⟨v, h1⟩)
  refine ⟨cells, ⟨hl, fun i l hi => ?_⟩, .inr ⟨b, o, rfl, hS, hc⟩⟩
  have hlt := (List.getElem?_eq_some_iff.1 hi).1
  obtain ⟨v, h1, h2⟩ := h i l hi
  have h3 : cells[i]? = some (cells[i]'(by omega)) := List.getElem?_eq_getElem _
  have h4 := hc i _ h3
  rw [h4] at h1
  exact ⟨v, by rw [h3, Option.some.inj h1], h2⟩
set_option maxRecDepth 100000 in
/-- A slice of slices of bytes, read. -/
theorem recs_of {W : World} {base : Nat} {spare : Nat → Bool} {held : Bool} {nn : Nat} {v : Value} {y : DataW H × List MemPlace} (hf : DataW.trod enc Tryz.prog W base spare held nn 53 [v] = some y) :
    ∃ a len cap L, v = .slice a len cap ∧ Recs W (Old W) a L ∧ L.length = len ∧ (a = none → cap = 0) ∧ len ≤ cap ∧ cap ≤ maxLen ∧ ((∀ k ∈ y.1.weights Tryz.prog 53, k ≤ reachBytes) → len ≤ reachBytes ∧ ∀ f ∈ L, f.length ≤ reachBytes) := by
  have hC : Tryz.prog.cellsOf 27 = 1 := by kernel_rfl
  rcases open_slice Tryz.underlying53 hf with ⟨hcs, _⟩ | ⟨x, len, cap, m, n, D, Pl, hcs, _, hl, hm, hmm, hx, hi⟩
  · simp at hcs
    subst hcs
    exact ⟨none, 0, 0, [], rfl, ⟨[], RCells.nil _ _, .inl rfl⟩, rfl, fun _ => rfl, Nat.le_refl _, Nat.zero_le _, fun _ => ⟨Nat.zero_le _, fun f hf => by cases hf⟩⟩
  · simp at hcs
    subst hcs
    have hml : len ≤ m := by rw [hmm]; split <;> omega
    subst hx
    have hcell : ∀ i, i < m → ∃ u, W.cell? (x.add i) = some u ∧ DataW.trod enc Tryz.prog W base spare held n 27 [u] = some (D i, Pl i) := fun i him => by
      obtain ⟨cs', hc, ht'⟩ := hi i him
      rw [hC, Nat.mul_one] at hc
      obtain ⟨_, hcl, hat⟩ := World.cells?_some hc
      have hc0 := hat 0 (by omega)
      have hv0 : cs' = [cs'[0]'(by omega)] := by
        match cs', hcl with
        | [z], _ => rfl
      refine ⟨cs'[0]'(by omega), ?_, by rw [← hv0]; exact ht'⟩
      rw [List.getElem?_eq_getElem (by omega)] at hc0
      simpa [Addr.add] using hc0
    by_cases h00 : len = 0
    · subst h00
      exact ⟨some x, 0, cap, [], rfl, ⟨[], RCells.nil _ _, .inl rfl⟩, rfl, (fun e => by cases e), hl, hm, fun _ => ⟨Nat.zero_le _, fun f hf => by cases hf⟩⟩
    · obtain ⟨b, off, spot⟩ := x
      have hspot : spot = none := by
        obtain ⟨u0, c0, _⟩ := hcell 0 (by omega)
        simpa [Addr.add] using World.cell?_spot c0
      subst hspot
      obtain ⟨L, hL, hP⟩ := list_of (P := fun i (l : List Nat) => (∃ v, W.cell? ⟨b, off + i, none⟩ = some v ∧ Byt W (Old W) v l) ∧ ((∀ k ∈ (D i).weights Tryz.prog 27, k ≤ reachBytes) → l.length ≤ reachBytes)) len (fun i hil => by
        obtain ⟨u0, c0, t0⟩ := hcell i (by omega)
        obtain ⟨a, bl, bc, l, hu, hr, hln, hn0, hbc, hbm, hwt⟩ := bytes_of t0
        subst hu hln
        rw [Addr.add_mid] at c0
        exact ⟨l, ⟨_, c0, ⟨⟨a, bc, rfl, hr, hn0, hbc, hbm⟩⟩⟩, hwt⟩)
      have hbS : Old W b := by
        obtain ⟨u0, c0, _⟩ := hcell 0 (by omega)
        rw [Addr.add_mid] at c0
        exact lt_of_cell c0
      refine ⟨_, len, cap, L, rfl, recs_mk hbS (fun i f hif => (hP i f hif).1), hL, (fun e => by cases e), hl, hm, fun hw => ⟨?_, fun f hf => ?_⟩⟩
      · have := hw _ (by simp only [DataW.weights, Tryz.underlying53]; exact List.mem_cons_self ..)
        have hb24 : Tryz.prog.bytesOf 27 = 24 := by kernel_rfl
        rw [hb24] at this
        simp only [List.length_map, List.length_range] at this
        omega
      · obtain ⟨i, hif⟩ := List.mem_iff_getElem?.1 hf
        refine (hP i f hif).2 (fun k hk => hw k ?_)
        simp only [DataW.weights, Tryz.underlying53]
        refine List.mem_cons_of_mem _ (List.mem_append_left _ (weightsAll_mem (List.mem_map.2 ⟨i, List.mem_range.2 ?_, rfl⟩) k hk))
        have := (List.getElem?_eq_some_iff.1 hif).1
        omega
theorem open_slice_fields {P : Program} {w : World} {base : Nat} {spare : Nat → Bool} {held : Bool} {t e : TypeId} {fs : Array Field} {fuel : Nat} {cs : List Value} {x : DataW H × List MemPlace} (ht : P.underlying t = some (.slice e)) (he : P.underlying e = some (.struct fs))
    (hone : oneCellFields P fs = true) (hC : P.cellsOf e = fs.size) (h : DataW.trod enc P w base spare held fuel t cs = some x) :
    (cs = [.slice none 0 0] ∧ x = (.nil, [])) ∨
    ∃ (a : Addr) (len cap m : Nat) (D : Nat → DataW H) (Pl : Nat → List MemPlace), cs = [.slice (some a) len cap] ∧ base ≤ a.block ∧ len ≤ cap ∧ cap ≤ maxLen ∧ m = (if spare a.block then cap else len) ∧
      x = (.slice ((List.range len).map D) ((List.range (m - len)).map fun j => D (len + j)), MemPlace.row a (m * fs.size) ++ (List.range m).flatMap Pl) ∧
      ∀ i, i < m → ∃ (ys : List (DataW H × List MemPlace)) (n : Nat), D i = .agg (ys.map (·.1)) ∧ Pl i = ys.flatMap (·.2) ∧ ys.length = fs.size ∧
        ∀ (j : Nat) (f : Field), fs[j]? = some f → ∃ (v : Value) (y : DataW H × List MemPlace), w.cell? (a.add (i * fs.size + j)) = some v ∧ ys[j]? = some y ∧ DataW.trod enc P w base spare held n f.type [v] = some y := by
  rcases open_slice ht h with h0 | ⟨a, len, cap, m, n, D, Pl, hcs, hb, hl, hm, hmm, hx, hi⟩
  · exact .inl h0
  · refine .inr ⟨a, len, cap, m, D, Pl, hcs, hb, hl, hm, hmm, by rw [hC] at hx; exact hx, fun i him => ?_⟩
    obtain ⟨cs', hc, ht'⟩ := hi i him
    rw [hC] at hc
    obtain ⟨ys, n', hn', hy, hlen, hyl, hf⟩ := DataW.trod_struct he ht'
    obtain ⟨_, hcl, hat⟩ := World.cells?_some hc
    simp only [Prod.mk.injEq] at hy
    refine ⟨ys, n', hy.1, hy.2, hyl, fun j f hj => ?_⟩
    obtain ⟨ho, hk⟩ := hone_of hone j f hj
    have hjl : j < fs.size := (Array.getElem?_eq_some_iff.1 hj).1
    have hcell := hat j hjl
    have hv : cs'[j]? = some (cs'[j]'(by omega)) := List.getElem?_eq_getElem (by omega)
    have h1 := hf j f hj
    rw [ho, hk] at h1
    have hone' : (cs'.drop j).take 1 = [cs'[j]'(by omega)] := by
      rw [List.drop_eq_getElem_cons (by omega)]
      rfl
    rw [hone'] at h1
    have hys : ys[j]? = some (ys[j]'(by omega)) := List.getElem?_eq_getElem (by omega)
    refine ⟨_, _, ?_, hys, h1.trans hys⟩
    rw [← Go.Deep.add_add, hcell, hv]
/-- A slice of numbers, read. -/
theorem ints_of {W : World} {base : Nat} {spare : Nat → Bool} {held : Bool} {n : Nat} {v : Value} {y : DataW H × List MemPlace} (h : DataW.trod enc Tryz.prog W base spare held n 54 [v] = some y) :
    ∃ a len cap, ∃ l : List Int, v = .slice a len cap ∧ RowI W (Old W) a l ∧ l.length = len ∧ len ≤ cap := by
  rcases open_ints Tryz.underlying54 Tryz.underlying3 (by kernel_rfl) h with ⟨hcs, _⟩ | ⟨x, len, cap, zs, hcs, _, hl, _, hz, _, hcell, _⟩
  · simp at hcs
    subst hcs
    exact ⟨none, 0, 0, [], rfl, .inl rfl, rfl, Nat.le_refl _⟩
  · simp at hcs
    subst hcs
    have hzl : len ≤ zs.length := by rw [hz]; split <;> omega
    by_cases h0 : len = 0
    · subst h0
      exact ⟨some x, 0, cap, [], rfl, .inl rfl, rfl, hl⟩
    · obtain ⟨b, off, spot⟩ := x
      have hspot : spot = none := by simpa [Addr.add] using World.cell?_spot (hcell 0 (by omega))
      subst hspot
      have hb : b < W.heap.size := by
        have hc := hcell 0 (by omega)
        rw [Addr.add_mid] at hc
        exact lt_of_cell hc
      refine ⟨_, len, cap, zs.take len, rfl, .inr ⟨b, off, rfl, hb, fun i z hi => ?_⟩, by rw [List.length_take]; omega, hl⟩
      have hlt : i < len := by
        have := (List.getElem?_eq_some_iff.1 hi).1
        rw [List.length_take] at this
        omega
      rw [List.getElem?_take_of_lt hlt] at hi
      have hc := hcell i (by omega)
      rw [Addr.add_mid, List.getD_eq_getElem?_getD, hi, Option.getD_some] at hc
      exact hc
set_option maxRecDepth 100000 in
/-- A slice of troubles, read. -/
theorem tros_of {W : World} {base : Nat} {spare : Nat → Bool} {held : Bool} {n : Nat} {v : Value} {y : DataW H × List MemPlace} (h : DataW.trod enc Tryz.prog W base spare held n 50 [v] = some y) :
    ∃ a len cap, ∃ l : List Tro, v = .slice a len cap ∧ RowT W (Old W) a l ∧ l.length = len ∧ ∀ t ∈ l, (Lit.int .i64 t.at_).wf = true := by
  rcases open_slice_fields Tryz.underlying50 Tryz.underlying101 (by kernel_rfl) (by kernel_rfl) h with ⟨hcs, _⟩ | ⟨x, len, cap, m, D, Pl, hcs, _, hl, hm, hmm, hx, hi⟩
  · simp at hcs
    subst hcs
    exact ⟨none, 0, 0, [], rfl, .inl rfl, rfl, fun t ht => by cases ht⟩
  · simp at hcs
    subst hcs
    have hml : len ≤ m := by rw [hmm]; split <;> omega
    by_cases h00 : len = 0
    · subst h00
      exact ⟨some x, 0, cap, [], rfl, .inl rfl, rfl, fun t ht => by cases ht⟩
    · obtain ⟨b, off, spot⟩ := x
      have hspot : spot = none := by
        obtain ⟨ys, n, _, _, _, hfl⟩ := hi 0 (by omega)
        obtain ⟨v0, y0, c0, _⟩ := hfl 0 _ rfl
        simpa [Addr.add] using World.cell?_spot c0
      subst hspot
      obtain ⟨L, hL, hP⟩ := list_of (P := fun i (t : Tro) => (W.cell? ⟨b, off + i * 3, none⟩ = some (.int .i64 t.at_) ∧ W.cell? ⟨b, off + i * 3 + 1, none⟩ = some (.int .i64 t.kind) ∧ W.cell? ⟨b, off + i * 3 + 2, none⟩ = some (.int .i64 t.part)) ∧
          (Lit.int .i64 t.at_).wf = true) len (fun i hil => by
        obtain ⟨ys, n, hD, _, hyl, hfl⟩ := hi i (by omega)
        obtain ⟨u0, y0, c0, k0, t0⟩ := hfl 0 _ rfl
        obtain ⟨u1, y1, c1, k1, t1⟩ := hfl 1 _ rfl
        obtain ⟨u2, y2, c2, k2, t2⟩ := hfl 2 _ rfl
        obtain ⟨z0, e0, _, w0⟩ := DataW.trod_int Tryz.underlying3 t0
        obtain ⟨z1, e1, _, _⟩ := DataW.trod_int Tryz.underlying3 t1
        obtain ⟨z2, e2, _, _⟩ := DataW.trod_int Tryz.underlying3 t2
        simp at e0 e1 e2
        subst e0 e1 e2
        rw [Addr.add_mid] at c0 c1 c2
        exact ⟨⟨z0, z1, z2⟩, ⟨c0, by rw [Nat.add_assoc]; exact c1, by rw [Nat.add_assoc]; exact c2⟩, w0⟩)
      have hbS : Old W b := by
        obtain ⟨ys, n, _, _, _, hfl⟩ := hi 0 (by omega)
        obtain ⟨v0, y0, c0, _⟩ := hfl 0 _ rfl
        rw [Addr.add_mid] at c0
        exact lt_of_cell c0
      refine ⟨_, len, cap, L, rfl, .inr ⟨b, off, rfl, hbS, fun i t hit => (hP i t hit).1⟩, hL, fun t ht => ?_⟩
      obtain ⟨i, hit⟩ := List.mem_iff_getElem?.1 ht
      exact (hP i t hit).2

theorem reach_le : reachBytes ≤ 140737488355328 := by decide

set_option maxRecDepth 100000 in
/-- The four cells of a step, read. -/
theorem sdo_of {W : World} {base : Nat} {spare : Nat → Bool} {held : Bool} {n : Nat} {v0 v1 v2 v3 : Value} {y0 y1 y2 y3 : DataW H × List MemPlace} (h0 : DataW.trod enc Tryz.prog W base spare held n 3 [v0] = some y0) (h1 : DataW.trod enc Tryz.prog W base spare held n 53 [v1] = some y1)
    (h2 : DataW.trod enc Tryz.prog W base spare held n 54 [v2] = some y2) (h3 : DataW.trod enc Tryz.prog W base spare held n 50 [v3] = some y3) (hw : ∀ k ∈ y1.1.weights Tryz.prog 53, k ≤ reachBytes) :
    ∃ x c, #[v0, v1, v2, v3] = sdoA x c ∧ SDoV W (Old W) x c := by
  obtain ⟨k, e0, _, _⟩ := DataW.trod_int Tryz.underlying3 h0
  simp at e0
  subst e0
  obtain ⟨ar, lr, cr, L, rfl, hrec, hlr, hn0, hrc, hrm, hwt⟩ := recs_of h1
  obtain ⟨at_, lt, ct, ts, rfl, htails, hlt, hltc⟩ := ints_of h2
  obtain ⟨al, ll, cl, tl, rfl, hlist, hll, hwf⟩ := tros_of h3
  subst hlr hlt hll
  exact ⟨⟨k, L, ts, tl⟩, ⟨ar, cr, at_, ct, al, cl⟩, rfl, ⟨hrec, hn0, hrc, hrm, fun f hf => Nat.le_trans ((hwt hw).2 f hf) reach_le, htails, hltc, hlist, hwf⟩⟩

set_option maxRecDepth 100000 in
/-- A slice of steps, read. -/
theorem sdos_of {W : World} {base b0 : Nat} {spare : Nat → Bool} {held : Bool} {v : Value} {d : DataW H} {p : List MemPlace} (hv : Value.okWide Tryz.prog W .any b0 31 v) (h0 : DataW.Trod enc Tryz.prog W base spare held 31 v d p) (hw : ∀ k ∈ d.weights Tryz.prog 31, k ≤ reachBytes) :
    ∃ a len cap, ∃ l : List SDoI, v = .slice a len cap ∧ SDos W (Old W) a l ∧ l.length = len ∧ len ≤ 140737488355328 := by
  obtain ⟨a0, len0, cap0, rfl⟩ := okWide_slice Tryz.underlying31 hv
  obtain ⟨fuel, hf⟩ := h0
  rcases open_slice_fields Tryz.underlying31 Tryz.underlying56 (by kernel_rfl) (by kernel_rfl) hf with ⟨hcs, _⟩ | ⟨x, len, cap, m, D, Pl, hcs, _, hl, hm, hmm, hx, hi⟩
  · simp [Value.cells] at hcs
    obtain ⟨rfl, rfl, rfl⟩ := hcs
    exact ⟨none, 0, 0, [], rfl, .inl rfl, rfl, Nat.zero_le _⟩
  · simp [Value.cells] at hcs
    obtain ⟨rfl, rfl, rfl⟩ := hcs
    have hml : len0 ≤ m := by rw [hmm]; split <;> omega
    obtain ⟨rfl, rfl⟩ := Prod.mk.inj hx
    by_cases h00 : len0 = 0
    · subst h00
      exact ⟨some x, 0, cap0, [], rfl, .inl rfl, rfl, Nat.zero_le _⟩
    · obtain ⟨b, off, spot⟩ := x
      have hspot : spot = none := by
        obtain ⟨ys, n, _, _, _, hfl⟩ := hi 0 (by omega)
        obtain ⟨v0, y0, c0, _⟩ := hfl 0 _ rfl
        simpa [Addr.add] using World.cell?_spot c0
      subst hspot
      have hwD : ∀ i, i < len0 → ∀ k ∈ (D i).weights Tryz.prog 56, k ≤ reachBytes := fun i hil k hk => hw k (by
        simp only [DataW.weights, Tryz.underlying31]
        exact List.mem_cons_of_mem _ (List.mem_append_left _ (weightsAll_mem (List.mem_map.2 ⟨i, List.mem_range.2 hil, rfl⟩) k hk)))
      obtain ⟨L, hL, hP⟩ := list_of (P := fun i (x : SDoI) => ∃ c, SDoV W (Old W) x c ∧ ∀ j v, (sdoA x c)[j]? = some v → W.cell? ⟨b, off + i * 4 + j, none⟩ = some v) len0 (fun i hil => by
        obtain ⟨ys, n, hD, _, hyl, hfl⟩ := hi i (by omega)
        obtain ⟨u0, y0, c0, g0, t0⟩ := hfl 0 _ rfl
        obtain ⟨u1, y1, c1, g1, t1⟩ := hfl 1 _ rfl
        obtain ⟨u2, y2, c2, g2, t2⟩ := hfl 2 _ rfl
        obtain ⟨u3, y3, c3, g3, t3⟩ := hfl 3 _ rfl
        rw [Addr.add_mid] at c0 c1 c2 c3
        have hys : ys = [y0, y1, y2, y3] := by
          have hyl4 : ys.length = 4 := hyl
          match ys, hyl4 with
          | [z0, z1, z2, z3], _ =>
            simp at g0 g1 g2 g3
            rw [g0, g1, g2, g3]
        obtain ⟨x, c, he, hv⟩ := sdo_of t0 t1 t2 t3 (fun k hk => hwD i hil k (by
          rw [hD, hys]
          simp only [DataW.weights, Tryz.underlying56]
          exact List.mem_append_right _ (List.mem_append_left _ hk)))
        refine ⟨x, c, hv, fun j v hj => ?_⟩
        rw [← he] at hj
        rw [Nat.add_assoc]
        match j, hj with
        | 0, hj => obtain rfl : u0 = v := by simpa using hj
                   exact c0
        | 1, hj => obtain rfl : u1 = v := by simpa using hj
                   exact c1
        | 2, hj => obtain rfl : u2 = v := by simpa using hj
                   exact c2
        | 3, hj => obtain rfl : u3 = v := by simpa using hj
                   exact c3
        | j + 4, hj => simp at hj)
      have hbS : Old W b := by
        obtain ⟨ys, n, _, _, _, hfl⟩ := hi 0 (by omega)
        obtain ⟨v0, y0, c0, _⟩ := hfl 0 _ rfl
        rw [Addr.add_mid] at c0
        exact lt_of_cell c0
      refine ⟨_, len0, cap0, L, rfl, .inr ⟨b, off, rfl, hbS, hP⟩, hL, ?_⟩
      have := hw _ (by simp only [DataW.weights, Tryz.underlying31]; exact List.mem_cons_self ..)
      have hb56 : Tryz.prog.bytesOf 56 = 80 := by kernel_rfl
      rw [hb56] at this
      have h3 := Nat.le_trans this reach_le
      simp only [List.length_map, List.length_range] at h3
      omega

set_option maxRecDepth 100000 in
/-- A slice of numbers as an argument. -/
theorem tails_arg {W : World} {base b0 : Nat} {spare : Nat → Bool} {held : Bool} {v : Value} {d : DataW H} {p : List MemPlace} (hv : Value.okWide Tryz.prog W .any b0 54 v) (h0 : DataW.Trod enc Tryz.prog W base spare held 54 v d p) :
    ∃ a len cap, ∃ l : List Int, v = .slice a len cap ∧ RowI W (Old W) a l ∧ l.length = len ∧ len ≤ cap := by
  obtain ⟨a0, len0, cap0, rfl⟩ := okWide_slice Tryz.underlying54 hv
  obtain ⟨fuel, hf⟩ := h0
  exact ints_of hf

end Go.Proofs.YtjhiekijbcjohaaGreatDoor
