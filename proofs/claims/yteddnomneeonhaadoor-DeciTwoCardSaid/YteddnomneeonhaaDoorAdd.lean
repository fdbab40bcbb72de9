/-
  The program's Add, Neg, Sub: each tells what plain numbers say. Condition: the numbers' values are of 64 bits.
-/
import Derived.Test.YteddnomneeonhaaDoorMade
import Derived.Deep.RegionWith
import Derived.Deep.DrawnRows
namespace Go.Proofs.YteddnomneeonhaaDoor
open Go.RowKit
attribute [local go_sem ↓] Go.wp_at_zero Go.wp_at_succ

set_option maxRecDepth 100000 in
set_option maxHeartbeats 1000000 in
theorem add_calls (a b : Num) (w : World) : Calls Tryd.prog 11 #[numV a, numV b] w (Leaves (numC (addP a b)) w) := by
  obtain ⟨q, hq⟩ : ∃ q, odd2 a b = q := ⟨_, rfl⟩
  have HQ := Lib.hid hq
  obtain ⟨na, va⟩ := a
  obtain ⟨nb, vb⟩ := b
  unfold numV
  clear hq
  go_enter Tryd.func11, Tryd.ntmps11
  go_wp2_with fail
  refine (known2 ⟨na, va⟩ ⟨nb, vb⟩ (w.heap.size + 1 + 1 + 1) 2 _ (numsAt_two (by go_simp) (by go_simp) (by go_simp) (by go_simp))).mono ?_
  rintro e w1 ⟨rfl, hb⟩
  rw [HQ.out]
  have HB : Hid (Below w.heap.size w w1) := Lib.hid (((((Below.refl _ w).alloc (Nat.le_refl _) _).alloc (by simp) _).alloc (by simp; omega) _).alloc (by simp; omega) _ |>.trans (hb.mono (by simp; omega)))
  have HR : Hid (Own2 (w.heap.size + 1 + 1) (.bool false) (.int .i64 0) w1) := Lib.hid (Own2.below ⟨by go_simp, by go_simp, by go_simp, by go_simp⟩ hb)
  have HX : Hid (Own2 w.heap.size (.bool na) (.int .i64 va) w1) := Lib.hid (Own2.below ⟨by go_simp, by go_simp, by go_simp, by go_simp⟩ hb)
  have HY : Hid (Own2 (w.heap.size + 1) (.bool nb) (.int .i64 vb) w1) := Lib.hid (Own2.below ⟨by go_simp, by go_simp, by go_simp, by go_simp⟩ hb)
  clear hb
  cases q with
  | true =>
    have hres : Hid (addP ⟨na, va⟩ ⟨nb, vb⟩ = (nanN, 0)) := Lib.hid (odd_add HQ.out)
    go_wp2_with fail
    refine (nan_calls _).mono ?_
    rintro e w2 ⟨rfl, hb2⟩
    have HB2 := Lib.hid (below_then HB.out hb2)
    obtain ⟨c0, c1, f0, f1⟩ := HR.out.below hb2
    clear hb2
    unfold numV nanN
    go_wp2
    rw [hres.out]
    exact bodyPost_ret (v := numC (nanN, 0)) (by simp [results, Tryd.results11, go_sem, numC, numV, nanN, c0, c1]) rfl ⟨rfl, (HB2.out.setCell (by simp; omega) _).setCell (by simp; omega) _⟩
  | false =>
    obtain ⟨k1, k2⟩ := odd2_false.1 HQ.out
    have g1 := (oddN_false.1 k1).2
    have g2 := (oddN_false.1 k2).2
    obtain ⟨g1, g1'⟩ := g1
    obtain ⟨g2, g2'⟩ := g2
    simp only at g1 g1' g2 g2'
    have hres : Hid (addP ⟨na, va⟩ ⟨nb, vb⟩ = fitP (va + vb)) := Lib.hid (by unfold addP; rw [HQ.out]; rfl)
    obtain ⟨x0, x1, _, _⟩ := HX.out
    obtain ⟨y0, y1, _, _⟩ := HY.out
    clear k1 k2
    go_wp2_with fail
    refine (made_calls (va + vb) _).mono ?_
    rintro e w2 ⟨rfl, hb2⟩
    have HB2 := Lib.hid (below_then HB.out hb2)
    obtain ⟨c0, c1, f0, f1⟩ := HR.out.below hb2
    obtain ⟨⟨⟨n, v⟩, c⟩, hd⟩ : ∃ d, fitP (va + vb) = d := ⟨_, rfl⟩
    rw [hd]
    have HD : Hid (addP ⟨na, va⟩ ⟨nb, vb⟩ = (⟨n, v⟩, c)) := Lib.hid (by rw [hres.out, hd])
    clear hb2 hd x0 x1 y0 y1 hres
    unfold numC numV
    go_wp2
    rw [HD.out]
    exact bodyPost_ret (v := numC (⟨n, v⟩, c)) (by simp [results, Tryd.results11, go_sem, numC, numV, c0, c1]) rfl ⟨rfl, (HB2.out.setCell (by simp; omega) _).setCell (by simp; omega) _⟩

set_option maxRecDepth 100000 in
set_option maxHeartbeats 1000000 in
theorem neg_calls (a : Num) (w : World) : Calls Tryd.prog 33 #[numV a] w (Leaves (numV (negP a)) w) := by
  obtain ⟨q, hq⟩ : ∃ q, oddN a = q := ⟨_, rfl⟩
  have HQ := Lib.hid hq
  obtain ⟨na, va⟩ := a
  unfold numV
  clear hq
  go_enter Tryd.func33, Tryd.ntmps33
  go_wp2_with fail
  refine (known1 ⟨na, va⟩ (w.heap.size + 1 + 1) 1 _ (numsAt_one (by go_simp) (by go_simp))).mono ?_
  rintro e w1 ⟨rfl, hb⟩
  rw [HQ.out]
  have HB : Hid (Below w.heap.size w w1) := Lib.hid ((((Below.refl _ w).alloc (Nat.le_refl _) _).alloc (by simp) _).alloc (by simp; omega) _ |>.trans (hb.mono (by simp; omega)))
  have HR : Hid (Own2 (w.heap.size + 1) (.bool false) (.int .i64 0) w1) := Lib.hid (Own2.below ⟨by go_simp, by go_simp, by go_simp, by go_simp⟩ hb)
  have HX : Hid (Own2 w.heap.size (.bool na) (.int .i64 va) w1) := Lib.hid (Own2.below ⟨by go_simp, by go_simp, by go_simp, by go_simp⟩ hb)
  clear hb
  cases q with
  | true =>
    have hres : Hid (negP ⟨na, va⟩ = nanN) := Lib.hid (by unfold negP; rw [HQ.out]; rfl)
    go_wp2_with fail
    refine (nan_calls _).mono ?_
    rintro e w2 ⟨rfl, hb2⟩
    have HB2 := Lib.hid (below_then HB.out hb2)
    obtain ⟨c0, c1, f0, f1⟩ := HR.out.below hb2
    clear hb2
    unfold numV nanN
    go_wp2
    rw [hres.out]
    exact bodyPost_ret (v := numV nanN) (by simp [results, Tryd.results33, go_sem, numV, nanN, c0, c1]) rfl ⟨rfl, (HB2.out.setCell (by simp) _).setCell (by simp) _⟩
  | false =>
    have g1 := (oddN_false.1 HQ.out).2
    obtain ⟨g1, g1'⟩ := g1
    simp only at g1 g1'
    have hres : Hid (negP ⟨na, va⟩ = ⟨false, -va⟩) := Lib.hid (by unfold negP; rw [HQ.out]; rfl)
    obtain ⟨x0, x1, _, _⟩ := HX.out
    obtain ⟨c0, c1, f0, f1⟩ := HR.out
    go_wp2
    rw [hres.out]
    exact bodyPost_ret (v := numV ⟨false, -va⟩) (by simp [results, Tryd.results33, go_sem, numV, c0, c1]) rfl ⟨rfl, (HB.out.setCell (by simp) _).setCell (by simp) _⟩

theorem sub_as_add (a b : Num) : addP a (negP b) = subP a b := by
  cases hb : oddN b with
  | true =>
    have hn : negP b = nanN := by unfold negP; rw [hb]; rfl
    have h1 : odd2 a nanN = true := odd_right rfl
    rw [hn, odd_add h1, odd_subP (odd_right hb)]
  | false =>
    have hn : negP b = ⟨false, -b.v⟩ := by unfold negP; rw [hb]; rfl
    have hk := (oddN_false.1 hb).2
    have hn2 : oddN (⟨false, -b.v⟩ : Num) = false := oddN_false.2 ⟨rfl, by show _ ≤ -b.v; omega, by show -b.v ≤ _; omega⟩
    rw [hn]
    unfold addP subP odd2
    rw [hn2, hb]
    rfl

set_option maxRecDepth 100000 in
set_option maxHeartbeats 1000000 in
theorem sub_calls (a b : Num) (w : World) : Calls Tryd.prog 13 #[numV a, numV b] w (Leaves (numC (subP a b)) w) := by
  obtain ⟨⟨⟨n, v⟩, c⟩, hd⟩ : ∃ d, subP a b = d := ⟨_, rfl⟩
  rw [hd]
  have cN := neg_calls b
  have cA : ∀ W, Calls Tryd.prog 11 #[numV a, numV (negP b)] W (Leaves (.tuple #[.agg #[.bool n, .int .i64 v], .int .i64 c]) W) := fun W => by
    have := add_calls a (negP b) W
    rw [sub_as_add, hd] at this
    exact this
  obtain ⟨na, va⟩ := a
  obtain ⟨nb, vb⟩ := b
  obtain ⟨m, hm⟩ : ∃ m, numV (negP ⟨nb, vb⟩) = m := ⟨_, rfl⟩
  rw [hm] at cN cA
  unfold numV at cN cA ⊢
  simp only at cN cA ⊢
  clear hd hm
  go_enter Tryd.func13, Tryd.ntmps13
  go_wp2_with fail
  have hb0 : Below w.heap.size w (((w.alloc (.cells #[.bool na, .int .i64 va] 23)).alloc (.cells #[.bool nb, .int .i64 vb] 23)).alloc (.cells #[.bool false, .int .i64 0] 23)) := (((Below.refl _ w).alloc (Nat.le_refl _) _).alloc (by simp) _).alloc (by simp; omega) _
  have o1 : Own2 w.heap.size (.bool na) (.int .i64 va) (((w.alloc (.cells #[.bool na, .int .i64 va] 23)).alloc (.cells #[.bool nb, .int .i64 vb] 23)).alloc (.cells #[.bool false, .int .i64 0] 23)) := ⟨by go_simp, by go_simp, by go_simp, by go_simp⟩
  have o2 : Own2 (w.heap.size + 1) (.bool nb) (.int .i64 vb) (((w.alloc (.cells #[.bool na, .int .i64 va] 23)).alloc (.cells #[.bool nb, .int .i64 vb] 23)).alloc (.cells #[.bool false, .int .i64 0] 23)) := ⟨by go_simp, by go_simp, by go_simp, by go_simp⟩
  have o3 : Own2 (w.heap.size + 1 + 1) (.bool false) (.int .i64 0) (((w.alloc (.cells #[.bool na, .int .i64 va] 23)).alloc (.cells #[.bool nb, .int .i64 vb] 23)).alloc (.cells #[.bool false, .int .i64 0] 23)) := ⟨by go_simp, by go_simp, by go_simp, by go_simp⟩
  generalize (((w.alloc (.cells #[.bool na, .int .i64 va] 23)).alloc (.cells #[.bool nb, .int .i64 vb] 23)).alloc (.cells #[.bool false, .int .i64 0] 23)) = W0 at hb0 o1 o2 o3 ⊢
  have d1 : Own2 w.heap.size (.bool na) (.int .i64 va) W0.drew := o1
  have d3 : Own2 (w.heap.size + 1 + 1) (.bool false) (.int .i64 0) W0.drew := o3
  have HB := Lib.hid hb0.drew
  obtain ⟨x0, x1, _, _⟩ := o1
  obtain ⟨y0, y1, _, _⟩ := o2
  clear o3 hb0
  go_region_with (first | (go_at_call 33; refine (cN _).mono ?_; rintro e w2 ⟨rfl, hb2⟩; have e1 := d1.below hb2; have e3 := d3.below hb2; have HB2 := Lib.hid (below_then HB.out hb2); clear hb2; obtain ⟨x0, x1, _, _⟩ := e1) | (go_at_call 11; refine (cA _).mono ?_; rintro e w3 ⟨rfl, hb3⟩; have HB3 := Lib.hid (below_then HB2.out hb3); obtain ⟨c0, c1, _, _⟩ := e3.below hb3; clear hb3))
  all_goals
    go_wp2
    exact bodyPost_ret (v := numC (⟨n, v⟩, c)) (by simp [results, Tryd.results13, go_sem, numC, numV, c0, c1]) rfl ⟨rfl, (HB3.out.setCell (by simp; omega) _).setCell (by simp; omega) _⟩

end Go.Proofs.YteddnomneeonhaaDoor
