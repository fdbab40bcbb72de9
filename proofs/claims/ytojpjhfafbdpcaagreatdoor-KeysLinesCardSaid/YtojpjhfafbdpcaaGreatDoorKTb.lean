/-
  A byte as an argument of a row. No condition.
-/
import Derived.Test.YtojpjhfafbdpcaaGreatDoorKTa
namespace Go.Proofs.YtojpjhfafbdpcaaGreatDoor
open Go.ChangeShapes Go.WideShapes Go.ChangeAt Go.RowKit

variable {H : Type} {enc : TypeId × Value → H}
theorem u8_wf {z : Int} (h : (Lit.int .u8 z).wf = true) : 0 ≤ z ∧ z < 256 := by
  simp [Lit.wf, IntKind.min, IntKind.max, IntKind.signed, IntKind.bits] at h
  omega
set_option maxRecDepth 100000 in
theorem u8_arg {W : World} {base b0 : Nat} {spare : Nat → Bool} {held : Bool} {v : Value} {d : DataW H} {p : List MemPlace} (hv : Value.okWide Tryz.prog W .any b0 5 v) (h0 : DataW.Trod enc Tryz.prog W base spare held 5 v d p) : ∃ x : Nat, v = .int .u8 (x : Int) ∧ x < 256 := by
  obtain ⟨z, rfl, _, _, hw⟩ := open_int Tryz.underlying5 hv h0
  have := u8_wf hw
  exact ⟨z.toNat, by rw [Int.toNat_of_nonneg this.1], by omega⟩

end Go.Proofs.YtojpjhfafbdpcaaGreatDoor
