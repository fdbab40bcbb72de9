/-
  The walk of the statement FaultIs: true, for every code, other code and row of texts. Conditions: the listed variables are laid; the texts' cells are there.
-/
import Derived.Test.YtgncdbclpokkhaaDoorAwake
namespace Go.Proofs.YtgncdbclpokkhaaDoor
open Go.RowKit Go.Extern.Stop Go.Stop Go.Extern

theorem is_any {c a d : Int} {ss : List ByteArray} {v : Value} {w : World} {b : Bool} (hv : ErrV w c a ss v) (hg : Handle w) (hb : (c == d) = b) : Calls Tryd.prog 14 #[v, .int .i64 d] w (Leaves1 (.bool b) w) := by
  subst hb
  rcases hv with ⟨rfl, rfl⟩ | ⟨h0, h⟩
  · exact is_nil d w
  · exact is_chain c a d ss v w h0 h hg

/-- What is asked of the row of texts: 'made' over it leaves an error, in every later world. -/
def Makes (w : World) (c a : Int) (x : Value) (ss : List ByteArray) : Prop := ∀ w', Below w.heap.size w w' → Calls Tryd.prog 8 #[.int .i64 c, .int .i64 a, x] w' (MadeOut c a ss w')

set_option maxRecDepth 100000 in
set_option maxHeartbeats 2000000 in
theorem law_is_many (c d : Int) (sa : Option Addr) (n cap : Nat) (w : World) (ht : Tab w) (hg : Handle w) (hn : 50 < n) (hm : n ≤ 9223372036854775807) :
    Calls Tryd.prog 4 #[.int .i64 c, .int .i64 d, .slice sa n cap] w (Leaves1 (.bool true) w) := by
  have HA := Lib.hid (awake_true w ht hg)
  have hd : decide ((50 : Int) < (n : Int)) = true := by simp; omega
  go_enter Tryd.func4, Tryd.ntmps4
  go_wp2_with fail
  refine HA.out.mono ?_
  rintro e w1 ⟨rfl, hb⟩
  have HB := Lib.hid hb
  clear hb
  go_wp2_with fail
  go_ret
  exact ⟨rfl, HB.out⟩

set_option maxRecDepth 100000 in
set_option maxHeartbeats 2000000 in
theorem law_is (c d : Int) (b : Bool) (hcd : (c == d) = b) (sa : Option Addr) (n cap : Nat) (ss : List ByteArray) (w : World) (ht : Tab w) (hg : Handle w) (hn : n ≤ 50) (hmk : Makes w c 3 (.slice sa n cap) ss) :
    Calls Tryd.prog 4 #[.int .i64 c, .int .i64 d, .slice sa n cap] w (Leaves1 (.bool true) w) := by
  have HA := Lib.hid (awake_true w ht hg)
  have HM := Lib.hid hmk
  have HG := Lib.hid hg
  have HCD := Lib.hid hcd
  have hd : decide ((50 : Int) < (n : Int)) = false := by simp; omega
  clear hmk ht hg
  go_enter Tryd.func4, Tryd.ntmps4
  go_wp2_with fail
  refine HA.out.mono ?_
  rintro e w1 ⟨rfl, hb⟩
  have HB := Lib.hid hb
  clear hb
  go_wp2_with fail
  refine (HM.out w1 HB.out).mono ?_
  rintro e w2 ⟨v, rfl, hv, hb2⟩
  have HV := Lib.hid hv
  have HB2 := Lib.hid hb2
  clear hv hb2
  go_wp2_with fail
  refine (is_any (d := c) (b := true) HV.out ((HG.out.below HB.out).below HB2.out) (by simp)).mono ?_
  rintro e w3 ⟨rfl, hb3⟩
  have HB3 := Lib.hid hb3
  clear hb3
  go_wp2_with fail
  refine (is_any (d := d) (b := b) (HV.out.below HB3.out) (((HG.out.below HB.out).below HB2.out).below HB3.out) HCD.out).mono ?_
  rintro e w4 ⟨rfl, hb4⟩
  have HB4 := Lib.hid hb4
  clear hb4
  go_wp2_with fail
  go_ret
  exact ⟨rfl, ((HB.out.trans (HB2.out.mono HB.out.size)).trans (HB3.out.mono (Nat.le_trans HB.out.size HB2.out.size))).trans (HB4.out.mono (Nat.le_trans (Nat.le_trans HB.out.size HB2.out.size) HB3.out.size))⟩
end Go.Proofs.YtgncdbclpokkhaaDoor
