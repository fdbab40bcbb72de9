/-
  The laws' answer to whether the codec is awake. Condition: the library's table of powers of ten is laid.
-/
import Derived.Test.YtacfcfbleogioaaGreatDoorMDec
import Derived.Test.YtacfcfbleogioaaGreatDoorMRefA
namespace Go.Proofs.YtacfcfbleogioaaGreatDoor
open Go.RowKit Go.Lib Go.Joins

def awM : Mfs := ⟨2, 5, [3, 4]⟩
theorem awM_may : mayM awM = true := by decide
theorem awM_len : (encM awM).length = 32 := by rw [encM_len awM_may]; rfl
theorem awM_dec : decM (encM awM) = some awM := decM_enc awM_may
theorem one_dec : decM [1] = none := decM_none (fun m hm e => by have := encM_len hm; rw [e, List.length_singleton] at this; omega)
theorem name_two : mnameB 2 = ⟨#[109, 97, 110, 46, 48, 48, 48, 48, 48, 48, 48, 50]⟩ := by decide +kernel

set_option maxRecDepth 100000 in
set_option maxHeartbeats 4000000 in
theorem awake8_calls (w : World) (ht : Tab w) : Calls Tryz.prog 7 #[] w (Leaves (.bool true) w) := by
  obtain ⟨W0, hW0⟩ : ∃ W0, w.alloc (.cells #[.int .i64 3, .int .i64 4] 3) = W0 := ⟨_, rfl⟩
  obtain ⟨W1, hW1⟩ : ∃ W1, W0.alloc (.cells #[.int .i64 2, .int .i64 5, .slice (some ⟨w.heap.size, 0, none⟩) 2 2] 25) = W1 := ⟨_, rfl⟩
  have hb0 : Below w.heap.size w W0 := by rw [← hW0]; exact (Below.refl _ _).alloc (Nat.le_refl _) _
  have hb1 : Below w.heap.size w W1 := by rw [← hW1]; exact hb0.alloc hb0.size _
  have hr0 : IRow W0 (One w.heap.size) (some ⟨w.heap.size, 0, none⟩) [3, 4] := by rw [← hW0]; exact irow_new w [3, 4] (0, 0)
  have hr1 : IRow W1 (One w.heap.size) (some ⟨w.heap.size, 0, none⟩) [3, 4] := hr0.below (by rw [← hW1]; exact (Below.refl _ _).alloc (Nat.le_refl _) _)
  have hk1 : W1.heap[W0.heap.size]? = some (.cells #[.int .i64 2, .int .i64 5, .slice (some ⟨w.heap.size, 0, none⟩) 2 2] 25 (0, 0)) := by rw [← hW1]; exact heap_alloc_new _ _
  have c0 : W1.cell? ⟨W0.heap.size, 0, none⟩ = some (.int .i64 2) := (cell_of_block hk1 0).trans rfl
  have c1 : W1.cell? ⟨W0.heap.size, 1, none⟩ = some (.int .i64 5) := (cell_of_block hk1 1).trans rfl
  have c2 : W1.cell? ⟨W0.heap.size, 2, none⟩ = some (.slice (some ⟨w.heap.size, 0, none⟩) 2 2) := (cell_of_block hk1 2).trans rfl
  have HENC := Lib.hid (mencode_calls 2 5 (some ⟨w.heap.size, 0, none⟩) [3, 4] 2 2 W1 hr1 rfl (by decide) (fun e => by cases e))
  have HB1 := Lib.hid hb1
  have HR1 := Lib.hid hr1
  have HK1 := Lib.hid hk1
  have HT := Lib.hid ht
  clear hb0 hb1 hr0 hr1 hk1 ht
  go_enter Tryz.func7, Tryz.ntmps7
  go_wp2_with fail
  clear hW0 hW1 c0 c1 c2
  with_reducible refine HENC.out.mono ?_
  rintro e w2 ⟨v2, rfl, hown2⟩
  obtain ⟨a2, e2, hv2, hrow2, _, hl2, hm2⟩ := hown2.form
  have hv2' : v2 = .slice a2 32 e2 := by rw [hv2, show (encM ⟨2, 5, [3, 4]⟩).length = 32 from awM_len]
  subst hv2'
  have HDEC := Lib.hid (mdecode_calls a2 (encM awM) 32 e2 w2 hrow2 awM_len (by decide) (by rw [← show (encM ⟨2, 5, [3, 4]⟩).length = 32 from awM_len]; exact hl2) hm2)
  unfold DecOut at HDEC
  rw [awM_dec] at HDEC
  have HB2 := Lib.hid hown2.bel
  clear hv2 hrow2 hl2 hm2 hown2 HENC
  go_wp2_with fail
  with_reducible refine HDEC.out.mono ?_
  rintro e w3 ⟨v3, rfl, hmv3, hb3⟩
  obtain ⟨a3, e3, S3, rfl, hir3, _, h03, hl3, hm3⟩ := hmv3
  obtain ⟨W4, hW4⟩ : ∃ W4, w3.alloc (.cells #[.int .i64 2, .int .i64 5, .slice a3 2 e3] 25) = W4 := ⟨_, rfl⟩
  obtain ⟨W5, hW5⟩ : ∃ W5, W4.alloc (.cells #[.int .u8 1] 5) = W5 := ⟨_, rfl⟩
  have hb45 : Below W4.heap.size W4 W5 := by rw [← hW5]; exact (Below.refl _ _).alloc (Nat.le_refl _) _
  have hb34 : Below w3.heap.size w3 W4 := by rw [← hW4]; exact (Below.refl _ _).alloc (Nat.le_refl _) _
  have hk4 : W4.heap[w3.heap.size]? = some (.cells #[.int .i64 2, .int .i64 5, .slice a3 2 e3] 25 (0, 0)) := by rw [← hW4]; exact heap_alloc_new _ _
  have hr5 : Row W5 (One W4.heap.size) (some ⟨W4.heap.size, 0, none⟩) [1] := by rw [← hW5]; exact row_new W4 [1] (by decide) (0, 0)
  have HDEC2 := Lib.hid (mdecode_calls (some ⟨W4.heap.size, 0, none⟩) [1] 1 1 W5 hr5 rfl (by decide) (by decide) (by decide))
  unfold DecOut at HDEC2
  rw [one_dec] at HDEC2
  have HK4 := Lib.hid hk4
  have HIR3 := Lib.hid hir3
  have HB3 := Lib.hid (below_then HB1.out (below_then HB2.out hb3))
  have HKA := Lib.hid (below_then HB2.out (below_then hb3 (below_then hb34 hb45)))
  have HKB := Lib.hid (below_then hb34 hb45)
  have HKC := Lib.hid hb45
  clear hb3 hb45 hb34 hk4 hr5 hir3 HDEC
  unfold manV awM
  go_wp2_with fail
  clear hW4 hW5
  with_reducible refine HDEC2.out.mono ?_
  rintro e w6 ⟨v6, rfl, hmv6, hb6⟩
  obtain ⟨a6, e6, S6, rfl, _, _, _, _, _⟩ := hmv6
  obtain ⟨W7, hW7⟩ : ∃ W7, w6.alloc (.cells #[.int .i64 0, .int .i64 0, .slice a6 0 e6] 25) = W7 := ⟨_, rfl⟩
  have hb67 : Below w6.heap.size w6 W7 := by rw [← hW7]; exact (Below.refl _ _).alloc (Nat.le_refl _) _
  have hb57 := below_then hb6 hb67
  have hx1 := block_below (below_then HKA.out hb57) HK1.out
  have hx4 := block_below (below_then HKC.out hb57) HK4.out
  have f0 : W7.cell? ⟨W0.heap.size, 0, none⟩ = some (.int .i64 2) := (cell_of_block hx1 0).trans rfl
  have f1 : W7.cell? ⟨W0.heap.size, 1, none⟩ = some (.int .i64 5) := (cell_of_block hx1 1).trans rfl
  have f2 : W7.cell? ⟨W0.heap.size, 2, none⟩ = some (.slice (some ⟨w.heap.size, 0, none⟩) 2 2) := (cell_of_block hx1 2).trans rfl
  have g0 : W7.cell? ⟨w3.heap.size, 0, none⟩ = some (.int .i64 2) := (cell_of_block hx4 0).trans rfl
  have g1 : W7.cell? ⟨w3.heap.size, 1, none⟩ = some (.int .i64 5) := (cell_of_block hx4 1).trans rfl
  have g2 : W7.cell? ⟨w3.heap.size, 2, none⟩ = some (.slice a3 2 e3) := (cell_of_block hx4 2).trans rfl
  have hb07 := below_then HB3.out (below_then HKB.out hb57)
  have HSM := Lib.hid (rsame8_calls 2 5 2 5 a3 (some ⟨w.heap.size, 0, none⟩) [3, 4] [3, 4] 2 e3 2 2 W7 (HIR3.out.below (below_then HKB.out hb57)) rfl (by decide) (HR1.out.below (below_then HKA.out hb57)) rfl (by decide))
  rw [sameM_self] at HSM
  have HTW := Lib.hid (HT.out.below hb07)
  have HB7 := Lib.hid hb07
  have e1 : ((⟨#[109, 97, 110, 46, 48, 48, 48, 48, 48, 48, 48, 50]⟩ : ByteArray).toList == (⟨#[109, 97, 110, 46, 48, 48, 48, 48, 48, 48, 48, 50]⟩ : ByteArray).toList) = true := by simp
  have HNM : Hid (∀ W, Below W7.heap.size W7 W → Calls Tryz.prog 32 #[.int .i64 2] W (Leaves (.string ⟨#[109, 97, 110, 46, 48, 48, 48, 48, 48, 48, 48, 50]⟩) W)) := Lib.hid (fun W hb => by
    rw [← name_two]
    exact mname_calls 2 W (HTW.out.below hb))
  clear hb6 hb67 hb57 hx1 hx4 hb07 HDEC2 HK4 HK1 HIR3 HR1
  dsimp only [Option.getD, noM, Option.isSome, List.length_nil, manV]
  go_wp2_with fail
  clear hW7
  with_reducible refine HSM.out.mono ?_
  rintro e w8 ⟨rfl, hb8⟩
  have hnm := HNM.out _ hb8
  have HB8 := Lib.hid (below_then HB7.out hb8)
  clear hb8 f0 f1 f2 g0 g1 g2
  go_wp2_with fail
  with_reducible refine hnm.mono ?_
  rintro e w9 ⟨rfl, hb9⟩
  have HB9 := Lib.hid (below_then HB8.out hb9)
  clear hb9 hnm
  go_wp2_with fail
  go_ret
  exact ⟨rfl, HB9.out⟩

end Go.Proofs.YtacfcfbleogioaaGreatDoor
