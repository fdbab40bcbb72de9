/-
  From the reading of an argument to what the walks ask of it: tails, bytes, a number. No condition.
-/
import Derived.Test.YtfiacojgddpphaaOpenDo
namespace Go.Proofs.Ytfiacojgddpphaa
open Go.ChangeShapes Go.WideShapes Go.ChangeAt Go.RowKit

variable {H : Type} {enc : TypeId × Value → H}

set_option maxRecDepth 100000 in
theorem tails_of {W : World} {base b0 : Nat} {spare : Nat → Bool} {held : Bool} {v : Value} {d : DataW H} {p : List MemPlace} (hv : Value.okWide Try.prog W .any b0 36 v) (h0 : DataW.Trod enc Try.prog W base spare held 36 v d p) :
    ∃ a len cap, ∃ l : List Int, v = .slice a len cap ∧ RowI W (Old W) a l ∧ l.length = len ∧ len ≤ cap := by
  obtain ⟨a0, len0, cap0, rfl⟩ := okWide_slice Try.underlying36 hv
  obtain ⟨fuel, hf⟩ := h0
  exact ints_of hf
set_option maxRecDepth 100000 in
theorem data_of {W : World} {base b0 : Nat} {spare : Nat → Bool} {held : Bool} {v : Value} {d : DataW H} {p : List MemPlace} (hv : Value.okWide Try.prog W .any b0 35 v) (h0 : DataW.Trod enc Try.prog W base spare held 35 v d p) :
    ∃ a len cap l, v = .slice a len cap ∧ Row W (Old W) a l ∧ l.length = len ∧ (a = none → cap = 0) ∧ len ≤ cap ∧ cap ≤ maxLen := by
  obtain ⟨a0, len0, cap0, rfl⟩ := okWide_slice Try.underlying35 hv
  obtain ⟨fuel, hf⟩ := h0
  obtain ⟨a, len, cap, l, h1, h2, h3, h4, h5, h6, _⟩ := bytes_of hf
  exact ⟨a, len, cap, l, h1, h2, h3, h4, h5, h6⟩
set_option maxRecDepth 100000 in
theorem room_of {W : World} {base b0 : Nat} {spare : Nat → Bool} {held : Bool} {v : Value} {d : DataW H} {p : List MemPlace} (hv : Value.okWide Try.prog W .any b0 3 v) (h0 : DataW.Trod enc Try.prog W base spare held 3 v d p) :
    ∃ n : Int, v = .int .i64 n ∧ n ≤ 9223372036854775807 := by
  obtain ⟨n, rfl, _, _, hw⟩ := open_int Try.underlying3 hv h0
  refine ⟨n, rfl, ?_⟩
  simp [Lit.wf, IntKind.min, IntKind.max, IntKind.signed, IntKind.bits] at hw
  omega

end Go.Proofs.Ytfiacojgddpphaa
