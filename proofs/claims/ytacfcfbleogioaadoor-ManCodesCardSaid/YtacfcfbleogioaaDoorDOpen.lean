/-
  From the readings of the laws' arguments to what the walks ask of them: manifests, bytes; the laid variables' cells. No condition.
-/
import Derived.Test.YtacfcfbleogioaaDoorRows
import Derived.Test.YtacfcfbleogioaaDoorMDec
import Derived.ProofKit
import Derived.LaidMore
import Derived.LaidSub
import Derived.LaidHandle
import Derived.OpenShut
import Derived.SizedLaws
import Derived.Carry
import Derived.Deep.Slices
import Derived.Deep.Fields
import Derived.Lib.SmallJoins
import Derived.ChangeSame
namespace Go.Proofs.YtacfcfbleogioaaDoor
open Go.ChangeShapes Go.WideShapes Go.ChangeAt Go.RowKit Go.Deep Go.Joins

theorem nown : ownKnob Tryd.prog.godebug = none := by kernel_rfl
/-- Blocks of before. -/
def Was0 (w0 : World) : Nat → Prop := fun k => k < w0.heap.size
theorem gPow : Tryd.prog.globalNamed "internal/strconv.uint64pow10" = some 2 := by kernel_rfl
theorem tPow : (Tryd.prog.globals[2]?).map (·.type) = some 110 := by kernel_rfl
theorem gSyn : Tryd.prog.globalNamed "strconv.ErrSyntax" = some 0 := by kernel_rfl
theorem tSyn : (Tryd.prog.globals[0]?).map (·.type) = some 64 := by kernel_rfl
theorem gRng : Tryd.prog.globalNamed "strconv.ErrRange" = some 1 := by kernel_rfl
theorem tRng : (Tryd.prog.globals[1]?).map (·.type) = some 64 := by kernel_rfl
theorem cellsU64 : Tryd.prog.cellsOf 84 = 1 := by kernel_rfl
theorem cellsPow : Tryd.prog.cellsOf 110 = 20 := by kernel_rfl

/-- The row's list of laid variables. -/
def laidN : List (String × DataW Unit) := [("math/bits.deBruijn32tab", Rows.laid_math_bits_deBruijn32tab), ("math/bits.deBruijn64tab", Rows.laid_math_bits_deBruijn64tab), ("internal/strconv.uint64pow10", Rows.laid_internal_strconv_uint64pow10), ("strconv.ErrRange", Rows.laid_strconv_ErrRange), ("strconv.ErrSyntax", Rows.laid_strconv_ErrSyntax)]
def laidB : List (String × DataW Unit) := [("math/bits.deBruijn32tab", Rows.laid_math_bits_deBruijn32tab), ("math/bits.deBruijn64tab", Rows.laid_math_bits_deBruijn64tab), ("internal/strconv.uint64pow10", Rows.laid_internal_strconv_uint64pow10)]
theorem pow_data : (Rows.laid_internal_strconv_uint64pow10 : DataW Unit) = Lib.tabData .u64 Lib.pow10Tab := by kernel_rfl
theorem nmet (os : Os) (args : Array Value) : laidMetH Tryd.prog laidN ((World.doorLaid Tryd.prog 400 os).forCall (fun _ _ => 0) ⟨#[], args, []⟩).memory :=
  laidMetH_of_parts3 (fuel := 8) (laidMet_of_run' 8 (by kernel_rfl) (by kernel_rfl)) (by kernel_rfl) (by kernel_rfl)

theorem ntab {W : World} (h : laidMetH Tryd.prog laidN W) : Tab W := by
  obtain ⟨h1, _⟩ := laidMetH_iff.1 h
  have h2 := h1.filter (fun x => x.1 == "internal/strconv.uint64pow10")
  have e : ((laidN.filter fun x => x.2.handleName?.isNone).filter fun x => x.1 == "internal/strconv.uint64pow10") = [("internal/strconv.uint64pow10", Lib.tabData .u64 Lib.pow10Tab)] := by
    rw [← pow_data]; rfl
  rw [e] at h2
  exact Lib.tabIs_of_head gPow tPow Tryd.underlying110 Tryd.underlying84 cellsU64 cellsPow h2
theorem bmet (os : Os) (args : Array Value) : laidMetH Tryd.prog laidB ((World.doorLaid Tryd.prog 400 os).forCall (fun _ _ => 0) ⟨#[], args, []⟩).memory :=
  laidMetH_of_parts3 (fuel := 8) (laidMet_of_run' 8 (by kernel_rfl) (by kernel_rfl)) (by kernel_rfl) (by kernel_rfl)

theorem btab {W : World} (h : laidMetH Tryd.prog laidB W) : Tab W := by
  obtain ⟨h1, _⟩ := laidMetH_iff.1 h
  have h2 := h1.filter (fun x => x.1 == "internal/strconv.uint64pow10")
  have e : ((laidB.filter fun x => x.2.handleName?.isNone).filter fun x => x.1 == "internal/strconv.uint64pow10") = [("internal/strconv.uint64pow10", Lib.tabData .u64 Lib.pow10Tab)] := by
    rw [← pow_data]; rfl
  rw [e] at h2
  exact Lib.tabIs_of_head gPow tPow Tryd.underlying110 Tryd.underlying84 cellsU64 cellsPow h2
theorem iface_of_head {P : Program} {W : World} {name n : String} {d : DataW Unit} {rest : List (String × DataW Unit)} {g : Nat} {t : TypeId} {ms : Array (String × TypeId)} (hg : P.globalNamed name = some g) (hty : (P.globals[g]?).map (·.type) = some t) (ht : P.underlying t = some (.interface ms))
    (h : laidMet P ((name, .iface n d) :: rest) W) : ∃ ev, W.cell? ⟨g, 0, none⟩ = some ev ∧ (ev = .nilIface ∨ ∃ te pe, ev = .iface te pe) := by
  obtain ⟨ps, ⟨g', t', cs, fuel, p, q, hg', ht', hvar, hd, _, _⟩, _⟩ := h
  obtain rfl := Option.some.inj (hg.symm.trans hg')
  obtain rfl := Option.some.inj (hty.symm.trans ht')
  obtain ⟨_, u, v, hcs, _, _⟩ := iface_of_trod ht hd
  have hc := World.var?_cell hg hvar 0
  refine ⟨.iface u v, ?_, .inr ⟨u, v, rfl⟩⟩
  rw [hc]
  have : cs = #[.iface u v] := by
    rw [← Array.toArray_toList (xs := cs), hcs]
  rw [this]
  rfl
theorem nerrs {W : World} (h : laidMetH Tryd.prog laidN W) : Errs W := by
  obtain ⟨h1, _⟩ := laidMetH_iff.1 h
  refine ⟨?_, ?_⟩
  · have h2 := h1.filter (fun x => x.1 == "strconv.ErrSyntax")
    have e : ((laidN.filter fun x => x.2.handleName?.isNone).filter fun x => x.1 == "strconv.ErrSyntax") = [("strconv.ErrSyntax", Rows.laid_strconv_ErrSyntax)] := rfl
    rw [e] at h2
    exact iface_of_head gSyn tSyn Tryd.underlying64 h2
  · have h2 := h1.filter (fun x => x.1 == "strconv.ErrRange")
    have e : ((laidN.filter fun x => x.2.handleName?.isNone).filter fun x => x.1 == "strconv.ErrRange") = [("strconv.ErrRange", Rows.laid_strconv_ErrRange)] := rfl
    rw [e] at h2
    exact iface_of_head gRng tRng Tryd.underlying64 h2

theorem list_of {α : Type} {P : Nat → α → Prop} : ∀ n, (∀ i, i < n → ∃ x, P i x) → ∃ l : List α, l.length = n ∧ ∀ i x, l[i]? = some x → P i x
  | 0, _ => ⟨[], rfl, fun i x h => by simp at h⟩
  | n + 1, h => by
    obtain ⟨l, hl, hp⟩ := list_of n (fun i hi => h i (by omega))
    obtain ⟨x, hx⟩ := h n (by omega)
    refine ⟨l ++ [x], by rw [List.length_append, hl]; rfl, fun i y hi => ?_⟩
    by_cases hlt : i < n
    · rw [List.getElem?_append_left (by omega)] at hi
      exact hp i y hi
    · rw [List.getElem?_append_right (by omega)] at hi
      have hi0 : i - l.length = 0 := by
        have := (List.getElem?_eq_some_iff.1 hi).1
        simp at this
        omega
      rw [hi0] at hi
      obtain rfl : x = y := by simpa using hi
      obtain rfl : i = n := by omega
      exact hx
theorem u8_bounds {z : Int} (h : (Lit.int .u8 z).wf = true) : 0 ≤ z ∧ z < 256 := by
  simp [Lit.wf, IntKind.min, IntKind.max, IntKind.signed, IntKind.bits] at h
  omega
theorem row_of {W : World} {a : Addr} {len : Nat} {zs : List Int} (hz : len ≤ zs.length) (hb : a.block < W.heap.size)
    (hcell : ∀ i, i < zs.length → W.cell? (a.add i) = some (.int .u8 (zs.getD i 0))) (hwz : ∀ n ∈ zs, (Lit.int .u8 n).wf = true) :
    ∃ l : List Nat, Row W (Was0 W) (some a) l ∧ l.length = len := by
  refine ⟨(zs.take len).map Int.toNat, ⟨?_, ?_⟩, by rw [List.length_map, List.length_take]; omega⟩
  · intro c hc
    obtain ⟨z, hz1, rfl⟩ := List.mem_map.1 hc
    have := u8_bounds (hwz z (List.mem_of_mem_take hz1))
    omega
  · by_cases h0 : len = 0
    · left; rw [h0]; rfl
    · obtain ⟨b, off, spot⟩ := a
      have hspot : spot = none := by simpa [Addr.add] using World.cell?_spot (hcell 0 (by omega))
      subst hspot
      refine Or.inr ⟨b, off, rfl, hb, fun i c hi => ?_⟩
      rw [List.getElem?_map] at hi
      obtain ⟨z, hz1, rfl⟩ := Option.map_eq_some_iff.1 hi
      have hlt : i < zs.length := by
        have := (List.getElem?_eq_some_iff.1 hz1).1
        rw [List.length_take] at this
        omega
      have hg : zs[i]? = some z := by
        rw [List.getElem?_take] at hz1
        split at hz1
        · exact hz1
        · cases hz1
      have hc := hcell i hlt
      rw [Addr.add_mid, List.getD_eq_getElem?_getD, hg, Option.getD_some] at hc
      rw [hc]
      have := u8_bounds (hwz z (List.mem_of_getElem? hg))
      congr 2
      omega

variable {H : Type} {enc : TypeId × Value → H}

set_option maxRecDepth 100000 in
/-- A slice of bytes, read. -/
theorem bytes_of {W : World} {base : Nat} {spare : Nat → Bool} {held : Bool} {n : Nat} {v : Value} {y : DataW H × List MemPlace} (h : DataW.trod enc Tryd.prog W base spare held n 25 [v] = some y) :
    ∃ a len cap l, v = .slice a len cap ∧ Row W (Was0 W) a l ∧ l.length = len ∧ (a = none → cap = 0) ∧ len ≤ cap ∧ cap ≤ maxLen ∧ ((∀ k ∈ y.1.weights Tryd.prog 25, k ≤ reachBytes) → len ≤ reachBytes) := by
  rcases open_ints Tryd.underlying25 Tryd.underlying5 (by kernel_rfl) h with ⟨hcs, _⟩ | ⟨x, len, cap, zs, hcs, _, hl, hm, hz, hy, hcell, hwz⟩
  · simp at hcs
    subst hcs
    exact ⟨none, 0, 0, [], rfl, ⟨(fun c hc => by cases hc), Or.inl rfl⟩, rfl, fun _ => rfl, Nat.le_refl _, Nat.zero_le _, fun _ => Nat.zero_le _⟩
  · simp at hcs
    subst hcs
    have hzl : len ≤ zs.length := by rw [hz]; split <;> omega
    by_cases h0 : len = 0
    · subst h0
      exact ⟨some x, 0, cap, [], rfl, ⟨(fun c hc => by cases hc), Or.inl rfl⟩, rfl, (fun e => by cases e), hl, hm, fun _ => Nat.zero_le _⟩
    · have hb : x.block < W.heap.size := by
        have hc := hcell 0 (by omega)
        obtain ⟨b, off, spot⟩ := x
        have hspot : spot = none := by simpa [Addr.add] using World.cell?_spot hc
        subst hspot
        rw [Addr.add_mid] at hc
        exact lt_of_cell hc
      obtain ⟨l, h1, h2⟩ := row_of (W := W) (a := x) (len := len) (zs := zs) hzl hb hcell hwz
      refine ⟨_, _, _, l, rfl, h1, h2, (fun e => by cases e), hl, hm, fun hw => ?_⟩
      rw [hy] at hw
      have := hw (((lits .u8 (zs.take len)).length + (lits .u8 (zs.drop len)).length) * Tryd.prog.bytesOf 5) (by simp only [DataW.weights, Tryd.underlying25]; exact List.mem_cons_self ..)
      have hb5 : Tryd.prog.bytesOf 5 = 1 := by kernel_rfl
      rw [hb5] at this
      simp only [lits, List.length_map, List.length_take, List.length_drop] at this
      omega
set_option maxRecDepth 100000 in
/-- A slice of numbers, read. -/
theorem ints8_of {W : World} {base : Nat} {spare : Nat → Bool} {held : Bool} {n : Nat} {v : Value} {y : DataW H × List MemPlace} (h : DataW.trod enc Tryd.prog W base spare held n 22 [v] = some y) :
    ∃ a len cap, ∃ l : List Int, v = .slice a len cap ∧ IRow W (Was0 W) a l ∧ l.length = len ∧ (a = none → cap = 0) ∧ len ≤ cap ∧ cap ≤ maxLen ∧ ((∀ k ∈ y.1.weights Tryd.prog 22, k ≤ reachBytes) → len ≤ reachBytes) := by
  rcases open_ints Tryd.underlying22 Tryd.underlying3 (by kernel_rfl) h with ⟨hcs, _⟩ | ⟨x, len, cap, zs, hcs, _, hl, hm, hz, hy, hcell, _⟩
  · simp at hcs
    subst hcs
    exact ⟨none, 0, 0, [], rfl, .inl rfl, rfl, fun _ => rfl, Nat.le_refl _, Nat.zero_le _, fun _ => Nat.zero_le _⟩
  · simp at hcs
    subst hcs
    have hzl : len ≤ zs.length := by rw [hz]; split <;> omega
    by_cases h0 : len = 0
    · subst h0
      exact ⟨some x, 0, cap, [], rfl, .inl rfl, rfl, (fun e => by cases e), hl, hm, fun _ => Nat.zero_le _⟩
    · obtain ⟨b, off, spot⟩ := x
      have hspot : spot = none := by simpa [Addr.add] using World.cell?_spot (hcell 0 (by omega))
      subst hspot
      have hb : b < W.heap.size := by
        have hc := hcell 0 (by omega)
        rw [Addr.add_mid] at hc
        exact lt_of_cell hc
      refine ⟨_, len, cap, zs.take len, rfl, .inr ⟨b, off, rfl, hb, fun i z hi => ?_⟩, by rw [List.length_take]; omega, (fun e => by cases e), hl, hm, fun hw => ?_⟩
      · have hlt : i < len := by
          have := (List.getElem?_eq_some_iff.1 hi).1
          rw [List.length_take] at this
          omega
        rw [List.getElem?_take_of_lt hlt] at hi
        have hc := hcell i (by omega)
        rw [Addr.add_mid, List.getD_eq_getElem?_getD, hi, Option.getD_some] at hc
        exact hc
      · rw [hy] at hw
        have := hw (((lits .i64 (zs.take len)).length + (lits .i64 (zs.drop len)).length) * Tryd.prog.bytesOf 3) (by simp only [DataW.weights, Tryd.underlying22]; exact List.mem_cons_self ..)
        have hb8 : Tryd.prog.bytesOf 3 = 8 := by kernel_rfl
        rw [hb8] at this
        simp only [lits, List.length_map, List.length_take, List.length_drop] at this
        omega
theorem reach_le : reachBytes ≤ 140737488355328 := by decide

set_option maxRecDepth 100000 in
/-- A manifest as an argument. -/
theorem man_arg {W : World} {base b0 : Nat} {spare : Nat → Bool} {held : Bool} {v : Value} {d : DataW H} {p : List MemPlace} (hv : Value.okWide Tryd.prog W .any b0 24 v) (h0 : DataW.Trod enc Tryd.prog W base spare held 24 v d p) (hw : ∀ k ∈ d.weights Tryd.prog 24, k ≤ reachBytes) :
    ∃ g l a n c, ∃ segs : List Int, v = .agg #[.int .i64 g, .int .i64 l, .slice a n c] ∧ IRow W (Was0 W) a segs ∧ segs.length = n ∧ n ≤ 140737488355328 ∧ (a = none → c = 0) := by
  obtain ⟨v0, v1, v2, y0, y1, y2, m, rfl, rfl, _, t0, t1, t2⟩ := open_agg3 Tryd.underlying24 (by kernel_rfl) (by kernel_rfl) hv h0
  obtain ⟨g, e0, _, _⟩ := DataW.trod_int Tryd.underlying3 t0
  obtain ⟨l, e1, _, _⟩ := DataW.trod_int Tryd.underlying3 t1
  simp at e0 e1
  subst e0 e1
  obtain ⟨a, len, cap, segs, rfl, h1, h2, h3, _, _, h6⟩ := ints8_of t2
  refine ⟨g, l, a, len, cap, segs, rfl, h1, h2, Nat.le_trans (h6 fun k hk => hw k ?_) reach_le, h3⟩
  simp only [DataW.weights, Tryd.underlying24]
  exact List.mem_append_right _ (List.mem_append_right _ (List.mem_append_left _ hk))

set_option maxRecDepth 100000 in
/-- A slice of bytes as an argument. -/
theorem bytes_arg {W : World} {base b0 : Nat} {spare : Nat → Bool} {held : Bool} {v : Value} {d : DataW H} {p : List MemPlace} (hv : Value.okWide Tryd.prog W .any b0 25 v) (h0 : DataW.Trod enc Tryd.prog W base spare held 25 v d p) :
    ∃ a n c, ∃ l : List Nat, v = .slice a n c ∧ Row W (Was0 W) a l ∧ l.length = n ∧ (a = none → c = 0) ∧ n ≤ c ∧ c ≤ maxLen := by
  obtain ⟨a0, len0, cap0, rfl⟩ := okWide_slice Tryd.underlying25 hv
  obtain ⟨fuel, hf⟩ := h0
  obtain ⟨a, n, c, l, h1, h2, h3, h4, h5, h6, _⟩ := bytes_of hf
  exact ⟨a, n, c, l, h1, h2, h3, h4, h5, h6⟩
set_option maxRecDepth 100000 in
/-- A byte as an argument. -/
theorem u8_arg {W : World} {base b0 : Nat} {spare : Nat → Bool} {held : Bool} {v : Value} {d : DataW H} {p : List MemPlace} (hv : Value.okWide Tryd.prog W .any b0 5 v) (h0 : DataW.Trod enc Tryd.prog W base spare held 5 v d p) :
    ∃ x : Nat, v = .int .u8 (x : Int) ∧ x < 256 := by
  obtain ⟨z, rfl, _, _, hw⟩ := open_int Tryd.underlying5 hv h0
  have := u8_bounds hw
  exact ⟨z.toNat, by rw [Int.toNat_of_nonneg this.1], by omega⟩

end Go.Proofs.YtacfcfbleogioaaDoor
