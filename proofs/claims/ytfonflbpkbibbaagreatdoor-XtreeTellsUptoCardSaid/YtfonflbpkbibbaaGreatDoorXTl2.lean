/-
  The law XtreeTells. Condition: both trees are small.
-/
import Derived.Test.YtfonflbpkbibbaaGreatDoorXAk
import Derived.Test.YtfonflbpkbibbaaGreatDoorXDp
import Derived.Test.YtfonflbpkbibbaaGreatDoorXRd
import Derived.Test.YtfonflbpkbibbaaGreatDoorXRs
import Derived.Test.YtfonflbpkbibbaaGreatDoorXSs
import Derived.Test.YtfonflbpkbibbaaGreatDoorXSm
namespace Go.Proofs.YtfonflbpkbibbaaGreatDoor
open Go.RowKit Go.Lib Go.Joins

set_option maxRecDepth 100000 in
theorem smallb_calls {w : World} {r : Nr} {t : Tr} (h : NodeIn w Any r t) (hs : t.sz ≤ 10000000) : Calls Tryz.prog 17 #[nodeV r, .int .i64 5000] w (Leaves (.bool (decide (t.sz ≤ 5000))) w) := by
  obtain ⟨hz1, hz2, hz3, hat, rows, hri, hni⟩ := h.kids
  obtain ⟨xa1, xa2, xa3, hxa⟩ := hat.slice
  obtain ⟨ya1, ya2, ya3, hya⟩ := hri.slice
  have hsm := fun W (hb : Below w.heap.size w W) => small_calls (most := 5000) (by decide) t.count (h.keep (S' := Any) (keeps_below hb Non) (fun _ _ h => h) (fun _ h => h)) (Nat.le_refl _) hs
  obtain ⟨k, n, x, av, kv⟩ := r
  dsimp only at hxa hya
  subst hxa
  subst hya
  unfold nodeV at hsm ⊢
  dsimp only at hsm ⊢
  obtain ⟨sn, hsn⟩ : ∃ z, strB n = z := ⟨_, rfl⟩
  obtain ⟨st, hst⟩ : ∃ z, strB x = z := ⟨_, rfl⟩
  have h5 : ((5000 : Nat) : Int) = 5000 := rfl
  simp only [hsn, hst, h5] at hsm ⊢
  clear h5
  have HSM := Lib.hid hsm
  clear hz1 hz2 hz3 hat hri hni hsm hsn hst h hs
  go_enter Tryz.func17, Tryz.ntmps17
  go_wp2_with fail
  with_reducible refine (HSM.out _ ((Below.refl _ _).alloc (Nat.le_refl _) _)).mono ?_
  rintro e w2 ⟨v, rfl, hv1, hv2, hb⟩
  have HB := Lib.hid (below_then ((Below.refl w.heap.size w).alloc (Nat.le_refl _) (.cells #[.int .i64 k, .string sn, .string st, .slice xa1 xa2 xa3, .slice ya1 ya2 ya3] 27)) hb)
  have hvd : decide (v ≤ 5000) = decide (t.sz ≤ 5000) := decide_eq_decide.2 ⟨fun h => by rw [← hv2 h]; exact h, fun h => Nat.le_trans hv1 h⟩
  have hvd2 : decide ((v : Int) ≤ 5000) = decide (t.sz ≤ 5000) := by rw [← hvd]; exact decide_eq_decide.2 (by omega)
  have HVD := Lib.hid hvd
  clear hb hv1 hv2 hvd hvd2
  go_wp2_with fail
  go_ret
  exact ⟨by rw [← HVD.out]; first | rfl | exact congrArg (fun z => Ending.returned (Value.bool z)) (decide_eq_decide.2 (by omega)), HB.out⟩

set_option maxRecDepth 100000 in
set_option maxHeartbeats 16000000 in
theorem tells_calls {w : World} {r1 r2 : Nr} {t u : Tr} (h1 : NodeIn w Any r1 t) (h2 : NodeIn w Any r2 u) (hs1 : t.sz ≤ 10000000) (hs2 : u.sz ≤ 10000000) (hE : EnvAt w) (hg : Handle w) (h15 : 15 ≤ w.heap.size) : Calls Tryz.prog 4 #[nodeV r1, nodeV r2] w (Leaves (.bool true) w) := by
  obtain ⟨hk, hn, hx, ha, rows1, hri1, hni1⟩ := h1.kids
  obtain ⟨hk2, hn2, hx2, ha2, rows2, hri2, hni2⟩ := h2.kids
  obtain ⟨xa1, xa2, xa3, hxa⟩ := ha.slice
  obtain ⟨ya1, ya2, ya3, hya⟩ := ha2.slice
  obtain ⟨xb1, xb2, xb3, hxb⟩ := hri1.slice
  obtain ⟨yb1, yb2, yb3, hyb⟩ := hri2.slice
  have HT := Lib.hid (fun W (hb : Below w.heap.size w W) => h1.keep (S' := Any) (keeps_below hb Non) (fun _ _ h => h) (fun _ h => h))
  have HU := Lib.hid (fun W (hb : Below w.heap.size w W) => h2.keep (S' := Any) (keeps_below hb Non) (fun _ _ h => h) (fun _ h => h))
  obtain ⟨k, n, x, av, kv⟩ := r1
  obtain ⟨k2, n2, x2, av2, kv2⟩ := r2
  dsimp only at hxa hya hxb hyb
  subst hxa
  subst hya
  subst hxb
  subst hyb
  obtain ⟨sn, hsn⟩ : ∃ s, strB n = s := ⟨_, rfl⟩
  obtain ⟨st, hst⟩ : ∃ s, strB x = s := ⟨_, rfl⟩
  obtain ⟨sn2, hsn2⟩ : ∃ s, strB n2 = s := ⟨_, rfl⟩
  obtain ⟨st2, hst2⟩ : ∃ s, strB x2 = s := ⟨_, rfl⟩
  have hva : nodeV ⟨k, n, x, .slice xa1 xa2 xa3, .slice xb1 xb2 xb3⟩ = .agg #[.int .i64 k, .string sn, .string st, .slice xa1 xa2 xa3, .slice xb1 xb2 xb3] := by unfold nodeV; rw [hsn, hst]
  have hvb : nodeV ⟨k2, n2, x2, .slice ya1 ya2 ya3, .slice yb1 yb2 yb3⟩ = .agg #[.int .i64 k2, .string sn2, .string st2, .slice ya1 ya2 ya3, .slice yb1 yb2 yb3] := by unfold nodeV; rw [hsn2, hst2]
  rw [hva, hvb]
  have HVA := Lib.hid hva
  have HVB := Lib.hid hvb
  have HS1 := Lib.hid hs1
  have HS2 := Lib.hid hs2
  obtain ⟨wa, hwa⟩ : ∃ W, w.alloc (.cells #[.int .i64 k, .string sn, .string st, .slice xa1 xa2 xa3, .slice xb1 xb2 xb3] 27) = W := ⟨_, rfl⟩
  have hba : Below w.heap.size w wa := by rw [← hwa]; exact (Below.refl _ _).alloc (Nat.le_refl _) _
  have hka : wa.heap[w.heap.size]? = some (.cells #[.int .i64 k, .string sn, .string st, .slice xa1 xa2 xa3, .slice xb1 xb2 xb3] 27 (0, 0)) := by rw [← hwa]; exact heap_alloc_new w _
  have hsz : wa.heap.size = w.heap.size + 1 := by rw [← hwa]; simp
  obtain ⟨w0, hw0⟩ : ∃ W, wa.alloc (.cells #[.int .i64 k2, .string sn2, .string st2, .slice ya1 ya2 ya3, .slice yb1 yb2 yb3] 27) = W := ⟨_, rfl⟩
  have hb0 : Below wa.heap.size wa w0 := by rw [← hw0]; exact (Below.refl _ _).alloc (Nat.le_refl _) _
  have hkb : w0.heap[w.heap.size + 1]? = some (.cells #[.int .i64 k2, .string sn2, .string st2, .slice ya1 ya2 ya3, .slice yb1 yb2 yb3] 27 (0, 0)) := by rw [← hsz, ← hw0]; exact heap_alloc_new wa _
  have hbw := below_then hba hb0
  have HKA := Lib.hid (block_keep hka (keeps_below hb0 Non) (fun h => h))
  have HKB := Lib.hid hkb
  have HB0 := Lib.hid hbw
  have HAW := Lib.hid (awake10_calls w0 (hE.below hbw) (hg.below hbw) (Nat.le_trans h15 hbw.size))
  have HWA := Lib.hid hwa
  have HW0 := Lib.hid hw0
  clear hk hn hx ha hri1 hni1 hk2 hn2 hx2 ha2 hri2 hni2 hsn hst hsn2 hst2 hva hvb hs1 hs2 hwa hba hka hsz hw0 hb0 hkb hbw hE hg h15 h1 h2
  go_enter Tryz.func4, Tryz.ntmps4
  go_wp2_with fail
  rw [HWA.out, HW0.out]
  with_reducible refine HAW.out.mono ?_
  rintro e w1 ⟨rfl, hb⟩
  have HB1 := Lib.hid hb
  have ga1 := block_keep HKA.out (keeps_below hb Non) (fun h => h)
  have gb1 := block_keep HKB.out (keeps_below hb Non) (fun h => h)
  have z0 := (cell_of_block ga1 0).trans rfl
  have y0 := (cell_of_block gb1 0).trans rfl
  have z1 := (cell_of_block ga1 1).trans rfl
  have y1 := (cell_of_block gb1 1).trans rfl
  have z2 := (cell_of_block ga1 2).trans rfl
  have y2 := (cell_of_block gb1 2).trans rfl
  have z3 := (cell_of_block ga1 3).trans rfl
  have y3 := (cell_of_block gb1 3).trans rfl
  have z4 := (cell_of_block ga1 4).trans rfl
  have y4 := (cell_of_block gb1 4).trans rfl
  clear ga1 gb1
  clear hb HAW
  go_wp2_with fail
  by_cases hsan : 5000 < t.sz
  · have hd : decide (t.sz ≤ 5000) = false := decide_eq_false (by omega)
    have hbw1 : Below w.heap.size w w1 := HB0.out.trans (HB1.out.mono HB0.out.size)
    have hc1 := smallb_calls (HT.out w1 hbw1) HS1.out
    rw [HVA.out, hd] at hc1
    have HC1 := Lib.hid hc1
    clear hc1 hbw1 hd
    with_reducible refine HC1.out.mono ?_
    rintro e w2 ⟨rfl, hb⟩
    have HB2 := Lib.hid (HB1.out.trans (hb.mono HB1.out.size))
    clear hb
    go_wp2_with fail
    go_ret
    exact ⟨rfl, HB0.out.trans (HB2.out.mono HB0.out.size)⟩
  have hsa : t.sz ≤ 5000 := by omega
  have hda : decide (t.sz ≤ 5000) = true := decide_eq_true hsa
  have hbw1 : Below w.heap.size w w1 := HB0.out.trans (HB1.out.mono HB0.out.size)
  have hc1 := smallb_calls (HT.out w1 hbw1) HS1.out
  rw [HVA.out, hda] at hc1
  have HC1 := Lib.hid hc1
  clear hc1 hbw1
  with_reducible refine HC1.out.mono ?_
  rintro e w2 ⟨rfl, hb⟩
  have HB2 := Lib.hid (HB1.out.trans (hb.mono HB1.out.size))
  clear HC1 hb
  clear z0 z1 z2 z3 z4 y0 y1 y2 y3 y4
  have ga2 := block_keep HKA.out (keeps_below HB2.out Non) (fun h => h)
  have gb2 := block_keep HKB.out (keeps_below HB2.out Non) (fun h => h)
  have z0 := (cell_of_block ga2 0).trans rfl
  have y0 := (cell_of_block gb2 0).trans rfl
  have z1 := (cell_of_block ga2 1).trans rfl
  have y1 := (cell_of_block gb2 1).trans rfl
  have z2 := (cell_of_block ga2 2).trans rfl
  have y2 := (cell_of_block gb2 2).trans rfl
  have z3 := (cell_of_block ga2 3).trans rfl
  have y3 := (cell_of_block gb2 3).trans rfl
  have z4 := (cell_of_block ga2 4).trans rfl
  have y4 := (cell_of_block gb2 4).trans rfl
  clear ga2 gb2
  go_wp2_with fail
  by_cases hsbn : 5000 < u.sz
  · have hd : decide (u.sz ≤ 5000) = false := decide_eq_false (by omega)
    have hbw2 : Below w.heap.size w w2 := HB0.out.trans (HB2.out.mono HB0.out.size)
    have hc2 := smallb_calls (HU.out w2 hbw2) HS2.out
    rw [HVB.out, hd] at hc2
    have HC2 := Lib.hid hc2
    clear hc2 hbw2 hd
    with_reducible refine HC2.out.mono ?_
    rintro e w3 ⟨rfl, hb⟩
    have HB3 := Lib.hid (HB2.out.trans (hb.mono HB2.out.size))
    clear hb
    go_wp2_with fail
    go_ret
    exact ⟨rfl, HB0.out.trans (HB3.out.mono HB0.out.size)⟩
  have hsb : u.sz ≤ 5000 := by omega
  have hdb : decide (u.sz ≤ 5000) = true := decide_eq_true hsb
  have HCT : Hid (t.count ≤ 1000000) := Lib.hid (Nat.le_trans (count_sz t) (by omega))
  have hbw2 : Below w.heap.size w w2 := HB0.out.trans (HB2.out.mono HB0.out.size)
  have hc2 := smallb_calls (HU.out w2 hbw2) HS2.out
  rw [HVB.out, hdb] at hc2
  have HC2 := Lib.hid hc2
  clear hc2 hbw2
  with_reducible refine HC2.out.mono ?_
  rintro e w3 ⟨rfl, hb⟩
  have HB3 := Lib.hid (HB2.out.trans (hb.mono HB2.out.size))
  clear HC2 hb
  clear z0 z1 z2 z3 z4 y0 y1 y2 y3 y4
  have ga3 := block_keep HKA.out (keeps_below HB3.out Non) (fun h => h)
  have gb3 := block_keep HKB.out (keeps_below HB3.out Non) (fun h => h)
  have z0 := (cell_of_block ga3 0).trans rfl
  have y0 := (cell_of_block gb3 0).trans rfl
  have z1 := (cell_of_block ga3 1).trans rfl
  have y1 := (cell_of_block gb3 1).trans rfl
  have z2 := (cell_of_block ga3 2).trans rfl
  have y2 := (cell_of_block gb3 2).trans rfl
  have z3 := (cell_of_block ga3 3).trans rfl
  have y3 := (cell_of_block gb3 3).trans rfl
  have z4 := (cell_of_block ga3 4).trans rfl
  have y4 := (cell_of_block gb3 4).trans rfl
  clear ga3 gb3
  go_wp2_with fail
  obtain ⟨Q, hQ⟩ : ∃ Q, t.eqB u = Q := ⟨_, rfl⟩
  obtain ⟨D, hD⟩ : ∃ D, t.depth = D := ⟨_, rfl⟩
  obtain ⟨C, hC⟩ : ∃ C, t.count = C := ⟨_, rfl⟩
  have HBR := Lib.hid (fun dq os => HB3.out.trans ((below_regrown w3 dq os).mono HB3.out.size))
  have HBQ := Lib.hid (fun dq os => HB0.out.trans ((HBR.out dq os).mono HB0.out.size))
  have c3 := fun dq os => Calls.regrown_of (depth_calls (HT.out _ (HBQ.out dq os)) HCT.out)
  have c4 := fun dq os => Calls.regrown_of (rdepth_calls 1000000 (HT.out _ (HBQ.out dq os)) HCT.out (Nat.le_refl _))
  have c5 := fun dq os => Calls.regrown_of (count_calls (HT.out _ (HBQ.out dq os)) HCT.out)
  have c6 := fun dq os => Calls.regrown_of (rcount_calls 1000000 (HT.out _ (HBQ.out dq os)) HCT.out (Nat.le_refl _))
  have c7 := fun dq os => Calls.regrown_of (same_calls (HT.out _ (HBQ.out dq os)) (HU.out _ (HBQ.out dq os)) HCT.out)
  have c8 := fun dq os => Calls.regrown_of (rsame_calls 1000000 (HT.out _ (HBQ.out dq os)) (HU.out _ (HBQ.out dq os)) HCT.out (Nat.le_refl _))
  have c9 := fun dq os => Calls.regrown_of (same_calls (HT.out _ (HBQ.out dq os)) (HT.out _ (HBQ.out dq os)) HCT.out)
  simp only [HVA.out, HVB.out, eqB_refl, hQ, hD, hC] at c3 c4 c5 c6 c7 c8 c9
  have qz0 := fun dq os => cell_regrown z0 dq os
  have qz1 := fun dq os => cell_regrown z1 dq os
  have qz2 := fun dq os => cell_regrown z2 dq os
  have qz3 := fun dq os => cell_regrown z3 dq os
  have qz4 := fun dq os => cell_regrown z4 dq os
  have qy0 := fun dq os => cell_regrown y0 dq os
  have qy1 := fun dq os => cell_regrown y1 dq os
  have qy2 := fun dq os => cell_regrown y2 dq os
  have qy3 := fun dq os => cell_regrown y3 dq os
  have qy4 := fun dq os => cell_regrown y4 dq os
  have kq : ∀ b : Bool, (b == b) = true := fun b => by simp
  clear hQ hD hC z0 z1 z2 z3 z4 y0 y1 y2 y3 y4
  refine wp_region_quiet_below (by kernel_rfl) (by kernel_rfl) ?_
  repeat (go_big_quiet_step (first | with_reducible exact c3 _ _ | with_reducible exact c4 _ _ | with_reducible exact c5 _ _ | with_reducible exact c6 _ _ | with_reducible exact c7 _ _ | with_reducible exact c8 _ _ | with_reducible exact c9 _ _))
  refine wpQuiet_nil ?_
  intro _ hw'
  obtain ⟨⟨dq, osq⟩, hw''⟩ := hw'
  subst hw''
  have HFB := Lib.hid (HBQ.out dq osq)
  go_wp2_with fail
  go_ret
  exact ⟨rfl, HFB.out⟩
end Go.Proofs.YtfonflbpkbibbaaGreatDoor
