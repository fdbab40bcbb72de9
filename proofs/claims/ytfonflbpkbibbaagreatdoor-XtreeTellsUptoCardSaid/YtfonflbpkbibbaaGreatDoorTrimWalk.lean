/-
  The program's Trim, over the library's TrimFunc, and the reference's: the same text without the blanks at both ends. Conditions: the text is shorter than 2 to the 30; the tables hold what their initialisers lay.
-/
import Derived.Test.YtfonflbpkbibbaaGreatDoorTrim
import Derived.Test.YtfonflbpkbibbaaGreatDoorEnc2
import Derived.Test.YtfonflbpkbibbaaGreatDoorNext
import Derived.Test.YtfonflbpkbibbaaGreatDoorShelf
namespace Go.Proofs.YtfonflbpkbibbaaGreatDoor
open Go.RowKit Go.Lib

theorem blank_nat (m : Nat) : blankB (m : Int) = pBl m := by
  unfold blankB pBl
  rw [Bool.eq_iff_iff]
  simp only [Bool.or_eq_true, beq_iff_eq]
  omega

theorem string_of {s : ByteArray} {l : List UInt8} (h : s.data.toList = l) : s = ⟨l.toArray⟩ := by
  rw [← h, Lib.mk_data]

set_option maxRecDepth 100000 in
set_option maxHeartbeats 1000000 in
theorem trim_calls (s : ByteArray) (w : World) (hs : s.size ≤ 1073741824) (hL : Laid w) : Calls Tryz.prog 102 #[.string s] w (Leaves (.string ⟨(trimL s.data.toList).toArray⟩) w) := by
  have hp : PredAt Tryz.prog 85 #[] encR pBl w := fun W x _ => (blank_calls (x : Int) W).mono fun e w' ⟨h1, h2⟩ => ⟨by rw [h1, blank_nat], 0, h2⟩
  have T := Tryz.strings_TrimFunc 85 #[] (enters_of Tryz.func85 (by kernel_rfl) rfl) pBl s w (by omega) hL.1 hp
  rw [string_of (trim_eq s)] at T
  have HT := Lib.hid T
  clear T hp hL
  go_enter Tryz.func102, Tryz.ntmps102
  go_wp2_with fail
  refine HT.out.mono ?_
  rintro e w1 ⟨rfl, hb⟩
  have HB := Lib.hid hb
  clear hb
  go_wp2
  go_ret
  exact ⟨rfl, HB.out⟩

end Go.Proofs.YtfonflbpkbibbaaGreatDoor
