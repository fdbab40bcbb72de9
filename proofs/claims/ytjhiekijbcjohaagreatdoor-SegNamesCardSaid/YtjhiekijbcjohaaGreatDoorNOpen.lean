/-
  From the row's condition to the walk's facts: the listed variables' cells; the witness's world. Conditions: each theorem's own.
-/
import Derived.Test.YtjhiekijbcjohaaGreatDoorRows
import Derived.Test.YtjhiekijbcjohaaGreatDoorSNames
import Derived.ProofKit
import Derived.LaidMore
import Derived.LaidSub
import Derived.LaidHandle
import Derived.OpenShut
import Derived.SizedLaws
import Derived.Carry
namespace Go.Proofs.YtjhiekijbcjohaaGreatDoor
open Go.ChangeShapes Go.WideShapes Go.ChangeAt Go.RowKit

theorem nown : ownKnob Tryz.prog.godebug = none := by kernel_rfl
theorem gPow : Tryz.prog.globalNamed "internal/strconv.uint64pow10" = some 3 := by kernel_rfl
theorem tPow : (Tryz.prog.globals[3]?).map (·.type) = some 213 := by kernel_rfl
theorem gSyn : Tryz.prog.globalNamed "strconv.ErrSyntax" = some 1 := by kernel_rfl
theorem tSyn : (Tryz.prog.globals[1]?).map (·.type) = some 39 := by kernel_rfl
theorem gRng : Tryz.prog.globalNamed "strconv.ErrRange" = some 2 := by kernel_rfl
theorem tRng : (Tryz.prog.globals[2]?).map (·.type) = some 39 := by kernel_rfl
theorem cellsU64 : Tryz.prog.cellsOf 152 = 1 := by kernel_rfl
theorem cellsPow : Tryz.prog.cellsOf 213 = 20 := by kernel_rfl

/-- The row's list of laid variables. -/
def laidN : List (String × DataW Unit) := [("math/bits.deBruijn32tab", Rows.laid_math_bits_deBruijn32tab), ("math/bits.deBruijn64tab", Rows.laid_math_bits_deBruijn64tab), ("internal/strconv.uint64pow10", Rows.laid_internal_strconv_uint64pow10), ("strconv.ErrRange", Rows.laid_strconv_ErrRange), ("strconv.ErrSyntax", Rows.laid_strconv_ErrSyntax)]
theorem pow_data : (Rows.laid_internal_strconv_uint64pow10 : DataW Unit) = Lib.tabData .u64 Lib.pow10Tab := by kernel_rfl
theorem nmet (os : Os) (args : Array Value) : laidMetH Tryz.prog laidN ((World.doorLaid Tryz.prog 400 os).forCall (fun _ _ => 0) ⟨#[], args, []⟩).memory :=
  laidMetH_of_parts3 (fuel := 8) (laidMet_of_run' 8 (by kernel_rfl) (by kernel_rfl)) (by kernel_rfl) (by kernel_rfl)

theorem ntab {W : World} (h : laidMetH Tryz.prog laidN W) : Tab W := by
  obtain ⟨h1, _⟩ := laidMetH_iff.1 h
  have h2 := h1.filter (fun x => x.1 == "internal/strconv.uint64pow10")
  have e : ((laidN.filter fun x => x.2.handleName?.isNone).filter fun x => x.1 == "internal/strconv.uint64pow10") = [("internal/strconv.uint64pow10", Lib.tabData .u64 Lib.pow10Tab)] := by
    rw [← pow_data]; rfl
  rw [e] at h2
  exact Lib.tabIs_of_head gPow tPow Tryz.underlying213 Tryz.underlying152 cellsU64 cellsPow h2
theorem iface_of_head {P : Program} {W : World} {name n : String} {d : DataW Unit} {rest : List (String × DataW Unit)} {g : Nat} {t : TypeId} {ms : Array (String × TypeId)} (hg : P.globalNamed name = some g) (hty : (P.globals[g]?).map (·.type) = some t) (ht : P.underlying t = some (.interface ms))
    (h : laidMet P ((name, .iface n d) :: rest) W) : ∃ ev, W.cell? ⟨g, 0, none⟩ = some ev ∧ (ev = .nilIface ∨ ∃ te pe, ev = .iface te pe) := by
  obtain ⟨ps, ⟨g', t', cs, fuel, p, q, hg', ht', hvar, hd, _, _⟩, _⟩ := h
  obtain rfl := Option.some.inj (hg.symm.trans hg')
  obtain rfl := Option.some.inj (hty.symm.trans ht')
  obtain ⟨_, u, v, hcs, _, _⟩ := iface_of_trod ht hd
  have hc := World.var?_cell hg hvar 0
  refine ⟨.iface u v, ?_, .inr ⟨u, v, rfl⟩⟩
  rw [hc]
  have : cs = #[.iface u v] := by
    rw [← Array.toArray_toList (xs := cs), hcs]
  rw [this]
  rfl
theorem nerrs {W : World} (h : laidMetH Tryz.prog laidN W) : Errs W := by
  obtain ⟨h1, _⟩ := laidMetH_iff.1 h
  refine ⟨?_, ?_⟩
  · have h2 := h1.filter (fun x => x.1 == "strconv.ErrSyntax")
    have e : ((laidN.filter fun x => x.2.handleName?.isNone).filter fun x => x.1 == "strconv.ErrSyntax") = [("strconv.ErrSyntax", Rows.laid_strconv_ErrSyntax)] := rfl
    rw [e] at h2
    exact iface_of_head gSyn tSyn Tryz.underlying39 h2
  · have h2 := h1.filter (fun x => x.1 == "strconv.ErrRange")
    have e : ((laidN.filter fun x => x.2.handleName?.isNone).filter fun x => x.1 == "strconv.ErrRange") = [("strconv.ErrRange", Rows.laid_strconv_ErrRange)] := rfl
    rw [e] at h2
    exact iface_of_head gRng tRng Tryz.underlying39 h2

end Go.Proofs.YtjhiekijbcjohaaGreatDoor
