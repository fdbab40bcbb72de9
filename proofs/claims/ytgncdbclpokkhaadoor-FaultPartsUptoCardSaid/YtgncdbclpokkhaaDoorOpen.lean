/-
  From the rows' conditions to the walks' facts: the listed variables' cells; a row of texts; the witness's world. Conditions: each theorem's own.
-/
import Derived.Test.YtgncdbclpokkhaaDoorRows
import Derived.Test.YtgncdbclpokkhaaDoorLawIs
import Derived.ProofKit
import Derived.LaidMore
import Derived.LaidSub
import Derived.LaidHandle
import Derived.OpenShut
import Derived.Stop.Joined
import Derived.SizedLaws
import Derived.Carry
namespace Go.Proofs.YtgncdbclpokkhaaDoor
open Go.ChangeShapes Go.WideShapes Go.ChangeAt Go.RowKit

theorem own : ownKnob Tryd.prog.godebug = none := by kernel_rfl
theorem laidOut : laidOutB Tryd.prog = true := by kernel_rfl
theorem rt : (Tryd.prog.cutTypes.find? (·.1 == "internal/reflectlite.rtype")).map (·.2) = some 77 := by kernel_rfl
theorem oneRow : ((List.range 140).filter fun t => Tryd.prog.rowNamed t [101, 114, 114, 111, 114]) = [26] := by kernel_rfl
theorem tsize : Tryd.prog.types.size = 140 := by kernel_rfl
theorem gPow : Tryd.prog.globalNamed "internal/strconv.uint64pow10" = some 2 := by kernel_rfl
theorem tPow : (Tryd.prog.globals[2]?).map (·.type) = some 103 := by kernel_rfl
theorem cells23 : Tryd.prog.cellsOf 9 = 1 := by kernel_rfl
theorem cells96 : Tryd.prog.cellsOf 96 = 1 := by kernel_rfl
theorem cells103 : Tryd.prog.cellsOf 103 = 20 := by kernel_rfl

/-- The rows' list of laid variables. -/
def laidL : List (String × DataW Unit) := [("math/bits.deBruijn32tab", Rows.laid_math_bits_deBruijn32tab), ("math/bits.deBruijn64tab", Rows.laid_math_bits_deBruijn64tab), ("internal/strconv.uint64pow10", Rows.laid_internal_strconv_uint64pow10), ("errors.errorType", Rows.laid_errors_errorType)]

theorem pow_data : (Rows.laid_internal_strconv_uint64pow10 : DataW Unit) = Lib.tabData .u64 Lib.pow10Tab := by kernel_rfl

theorem door_met (os : Os) (args : Array Value) : laidMetH Tryd.prog laidL ((World.doorLaid Tryd.prog 400 os).forCall (fun _ _ => 0) ⟨#[], args, []⟩).memory :=
  laidMetH_of_parts3 (fuel := 8) (laidMet_of_run' 8 (by kernel_rfl) (by kernel_rfl)) (by kernel_rfl) (by kernel_rfl)

theorem handle_of_laid {W : World} (h : laidMetH Tryd.prog laidL W) : Handle W := by
  obtain ⟨_, h2⟩ := laidMetH_iff.1 h
  obtain ⟨name, u, ty, e1, e2, e3, e4, e5⟩ := h2 ("errors.errorType", Rows.laid_errors_errorType) (by simp [laidL, Rows.laid_errors_errorType, Rows.laid_internal_strconv_uint64pow10, Rows.laid_math_bits_deBruijn32tab, Rows.laid_math_bits_deBruijn64tab, DataW.handleName?])
  have en : name = [101, 114, 114, 111, 114] := (Option.some.inj e1).symm
  subst en
  obtain rfl := Option.some.inj (rt.symm.trans e2)
  have hm : ty ∈ (List.range 140).filter fun t => Tryd.prog.rowNamed t [101, 114, 114, 111, 114] := List.mem_filter.2 ⟨List.mem_range.2 (by rw [← tsize]; exact e3), e4⟩
  rw [oneRow] at hm
  obtain rfl := List.mem_singleton.1 hm
  have hh : typeHandle Tryd.prog 26 = .pointer (some ⟨5, 26, none⟩) := by kernel_rfl
  rw [hh] at e5
  simpa [Handle] using World.var?_cell et e5 0

theorem tab_of_laid {W : World} (h : laidMetH Tryd.prog laidL W) : Tab W := by
  obtain ⟨h1, _⟩ := laidMetH_iff.1 h
  have h2 := h1.filter (fun x => x.1 == "internal/strconv.uint64pow10")
  have e : ((laidL.filter fun x => x.2.handleName?.isNone).filter fun x => x.1 == "internal/strconv.uint64pow10") = [("internal/strconv.uint64pow10", Lib.tabData .u64 Lib.pow10Tab)] := by
    rw [← pow_data]; rfl
  rw [e] at h2
  exact Lib.tabIs_of_head gPow tPow Tryd.underlying103 Tryd.underlying96 cells96 cells103 h2

theorem makes_of_cells {w : World} {b o len cap : Nat} {ss : List ByteArray} (hl : len ≤ ss.length) (hcell : ∀ j, j < ss.length → w.cell? ⟨b, o + j, none⟩ = some (.string (ss.getD j ByteArray.empty))) (h50 : len ≤ 50) (c a : Int) :
    Makes w c a (.slice (some ⟨b, o, none⟩) len cap) (ss.take len).reverse := by
  intro w' hb
  by_cases h0 : len = 0
  · subst h0
    simpa using made_none c a (some ⟨b, o, none⟩) cap w'
  · have hlen : (ss.take len).length = len := by simp; omega
    have hx : TextsAt w' b o (ss.take len) := by
      intro j x hj
      have hj2 : j < len := by have := (List.getElem?_eq_some_iff.1 hj).1; omega
      have hc := hcell j (by omega)
      rw [hb.cell (p := ⟨b, o + j, none⟩) (lt_of_cell hc), hc]
      rw [List.getElem?_take, if_pos hj2] at hj
      simp [List.getD, hj]
    have hbw : b < w'.heap.size := Nat.lt_of_lt_of_le (lt_of_cell (hcell 0 (by omega))) hb.size
    have := made_some c a b o cap (ss.take len) w' hx (by omega) hbw
    rwa [hlen] at this
end Go.Proofs.YtgncdbclpokkhaaDoor
