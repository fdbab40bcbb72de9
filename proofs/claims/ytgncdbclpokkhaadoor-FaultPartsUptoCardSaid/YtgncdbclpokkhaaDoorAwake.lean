/-
  The statements' own 'awake' by its contract: true. Conditions: the listed variables are laid.
-/
import Derived.Test.YtgncdbclpokkhaaDoorText
import Derived.KernelRfl
namespace Go.Proofs.YtgncdbclpokkhaaDoor
open Go.RowKit Go.Extern.Stop Go.Stop Go.Extern

theorem awake_text : Lib.join (([⟨#[99, 104, 101, 99, 107, 32, 105, 110]⟩, ⟨#[112, 97, 114, 115, 101]⟩] : List ByteArray).map (·.data.toList) ++ [plainText 2 17]) [58, 32]
    = [99, 104, 101, 99, 107, 32, 105, 110, 58, 32, 112, 97, 114, 115, 101, 58, 32, 99, 111, 100, 101, 32, 50, 32, 97, 116, 32, 49, 55] := by kernel_rfl

set_option maxRecDepth 100000 in
set_option maxHeartbeats 2000000 in
theorem awake_true (w : World) (ht : Tab w) (hg : Handle w) : Calls Tryd.prog 7 #[] w (Leaves1 (.bool true) w) := by
  have c0 : Chain w (plainV 2 17) [] (.iface 40 (.agg #[.int .i64 2, .int .i64 17])) := rfl
  have c1 := wrap_chain ⟨#[112, 97, 114, 115, 101]⟩ c0
  have c2 := wrap_chain ⟨#[99, 104, 101, 99, 107, 32, 105, 110]⟩ c1
  have b2 : Below w.heap.size w ((w.alloc (.cells #[.string ⟨#[112, 97, 114, 115, 101]⟩, .iface 40 (.agg #[.int .i64 2, .int .i64 17])] 49)).alloc (.cells #[.string ⟨#[99, 104, 101, 99, 107, 32, 105, 110]⟩, .iface 47 (.pointer (some ⟨w.heap.size, 0, none⟩))] 49)) :=
    ((Below.refl _ _).alloc (Nat.le_refl _) _).alloc (by simp) _
  generalize hW : ((w.alloc (.cells #[.string ⟨#[112, 97, 114, 115, 101]⟩, .iface 40 (.agg #[.int .i64 2, .int .i64 17])] 49)).alloc (.cells #[.string ⟨#[99, 104, 101, 99, 107, 32, 105, 110]⟩, .iface 47 (.pointer (some ⟨w.heap.size, 0, none⟩))] 49)) = W at c2 b2
  rw [World.size_alloc] at c2
  have t := text_chain 2 17 _ _ W (by omega) (by omega) (by omega) (by omega) (ht.below b2) c2 (by simp) (by rw [awake_text]; simp)
  rw [awake_text] at t
  have HT := Lib.hid t
  have HW := Lib.hid hW
  have HC := Lib.hid c2
  have HB := Lib.hid b2
  clear c0 c1 c2 b2 t hW
  go_enter Tryd.func7, Tryd.ntmps7
  go_wp2_with fail
  refine (new_code 2 17 w (by decide)).mono ?_
  rintro e w' ⟨rfl, rfl⟩
  go_wp2_with fail
  refine (wrap_some _ _ _ _).mono ?_
  rintro e w' ⟨rfl, rfl⟩
  go_wp2_with fail
  refine (wrap_some _ _ _ _).mono ?_
  rintro e w' ⟨rfl, hw⟩
  obtain rfl := hw.symm.trans HW.out
  clear hw
  go_wp2_with fail
  refine HT.out.mono ?_
  rintro e w3 ⟨rfl, hb3⟩
  have HB3 := Lib.hid hb3
  clear hb3
  go_wp2_with fail
  refine (depth_chain 2 17 _ _ w3 (HC.out.below HB3.out) (by simp)).mono ?_
  rintro e w4 ⟨rfl, hb4⟩
  have HB4 := Lib.hid hb4
  clear hb4
  go_wp2_with fail
  refine (code_chain 2 17 _ _ w4 (by decide) ((HC.out.below HB3.out).below HB4.out) (((hg.below HB.out).below HB3.out).below HB4.out)).mono ?_
  rintro e w5 ⟨rfl, hb5⟩
  have HB5 := Lib.hid hb5
  clear hb5
  go_wp2_with fail
  go_ret
  exact ⟨rfl, ((HB.out.trans (HB3.out.mono HB.out.size)).trans (HB4.out.mono (Nat.le_trans HB.out.size HB3.out.size))).trans (HB5.out.mono (Nat.le_trans (Nat.le_trans HB.out.size HB3.out.size) HB4.out.size))⟩
end Go.Proofs.YtgncdbclpokkhaaDoor
