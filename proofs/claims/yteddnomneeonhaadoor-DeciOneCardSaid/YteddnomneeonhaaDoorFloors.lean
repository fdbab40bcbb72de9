/-
  The program's Floor, Ceiling, Round, Of, Less, Equal: each tells what plain numbers say. Condition: the numbers' values are of 64 bits.
-/
import Derived.Test.YteddnomneeonhaaDoorAdd
namespace Go.Proofs.YteddnomneeonhaaDoor
open Go.RowKit

set_option maxRecDepth 100000 in
set_option maxHeartbeats 1000000 in
theorem floorN_calls (a : Num) (w : World) : Calls Tryd.prog 25 #[numV a] w (Leaves (numC (floorP a)) w) := by
  obtain ⟨q, hq⟩ : ∃ q, oddN a = q := ⟨_, rfl⟩
  have HQ := Lib.hid hq
  obtain ⟨na, va⟩ := a
  unfold numV
  clear hq
  go_enter Tryd.func25, Tryd.ntmps25
  go_wp2_with fail
  refine (known1 ⟨na, va⟩ (w.heap.size + 1 + 1) 1 _ (numsAt_one (by go_simp) (by go_simp))).mono ?_
  rintro e w1 ⟨rfl, hb⟩
  rw [HQ.out]
  have HB : Hid (Below w.heap.size w w1) := Lib.hid ((((Below.refl _ w).alloc (Nat.le_refl _) _).alloc (by simp) _).alloc (by simp; omega) _ |>.trans (hb.mono (by simp; omega)))
  have HR : Hid (Own2 (w.heap.size + 1) (.bool false) (.int .i64 0) w1) := Lib.hid (Own2.below ⟨by go_simp, by go_simp, by go_simp, by go_simp⟩ hb)
  have HX : Hid (Own2 w.heap.size (.bool na) (.int .i64 va) w1) := Lib.hid (Own2.below ⟨by go_simp, by go_simp, by go_simp, by go_simp⟩ hb)
  clear hb
  cases q with
  | true =>
    have hres : Hid (floorP ⟨na, va⟩ = (nanN, 0)) := Lib.hid (by unfold floorP; rw [HQ.out]; rfl)
    go_wp2_with fail
    refine (nan_calls _).mono ?_
    rintro e w2 ⟨rfl, hb2⟩
    have HB2 := Lib.hid (below_then HB.out hb2)
    obtain ⟨c0, c1, f0, f1⟩ := HR.out.below hb2
    clear hb2
    unfold numV nanN
    go_wp2
    rw [hres.out]
    exact bodyPost_ret (v := numC (nanN, 0)) (by simp [results, Tryd.results25, go_sem, numC, numV, nanN, c0, c1]) rfl ⟨rfl, (HB2.out.setCell (by simp) _).setCell (by simp) _⟩
  | false =>
    have g1 := (oddN_false.1 HQ.out).2
    obtain ⟨g1, g1'⟩ := g1
    simp only at g1 g1'
    have hres : Hid (floorP ⟨na, va⟩ = fitP (floorI va)) := Lib.hid (by unfold floorP; rw [HQ.out]; rfl)
    obtain ⟨x0, x1, _, _⟩ := HX.out
    obtain ⟨t, ht⟩ : ∃ t, floorI va = t := ⟨_, rfl⟩
    have HT := Lib.hid ht
    have ht1 : -2000000000000000 ≤ t ∧ t ≤ 2000000000000000 := by unfold floorI at ht; omega
    obtain ⟨ht1, ht2⟩ := ht1
    clear ht
    go_wp2_with fail
    refine (floor_calls va _ (by omega) (by omega)).mono ?_
    rintro e w2 ⟨rfl, hb2⟩
    rw [HT.out]
    have HB2 := Lib.hid (below_then HB.out hb2)
    have HR2 := Lib.hid (HR.out.below hb2)
    have hres : Hid (floorP ⟨na, va⟩ = fitP (t)) := Lib.hid (by rw [← HT.out]; exact hres.out)
    clear hb2 x0 x1
    go_wp2_with fail
    refine (made_calls t _).mono ?_
    rintro e w3 ⟨rfl, hb3⟩
    have HB3 := Lib.hid (below_then HB2.out hb3)
    obtain ⟨c0, c1, f0, f1⟩ := HR2.out.below hb3
    obtain ⟨⟨⟨n, v⟩, c⟩, hd⟩ : ∃ d, fitP t = d := ⟨_, rfl⟩
    rw [hd]
    have HD : Hid (floorP ⟨na, va⟩ = (⟨n, v⟩, c)) := Lib.hid (by rw [hres.out, hd])
    clear hb3 hd hres
    unfold numC numV
    go_wp2
    rw [HD.out]
    exact bodyPost_ret (v := numC (⟨n, v⟩, c)) (by simp [results, Tryd.results25, go_sem, numC, numV, c0, c1]) rfl ⟨rfl, (HB3.out.setCell (by simp) _).setCell (by simp) _⟩

set_option maxRecDepth 100000 in
set_option maxHeartbeats 1000000 in
theorem ceilN_calls (a : Num) (w : World) : Calls Tryd.prog 27 #[numV a] w (Leaves (numC (ceilP a)) w) := by
  obtain ⟨q, hq⟩ : ∃ q, oddN a = q := ⟨_, rfl⟩
  have HQ := Lib.hid hq
  obtain ⟨na, va⟩ := a
  unfold numV
  clear hq
  go_enter Tryd.func27, Tryd.ntmps27
  go_wp2_with fail
  refine (known1 ⟨na, va⟩ (w.heap.size + 1 + 1) 1 _ (numsAt_one (by go_simp) (by go_simp))).mono ?_
  rintro e w1 ⟨rfl, hb⟩
  rw [HQ.out]
  have HB : Hid (Below w.heap.size w w1) := Lib.hid ((((Below.refl _ w).alloc (Nat.le_refl _) _).alloc (by simp) _).alloc (by simp; omega) _ |>.trans (hb.mono (by simp; omega)))
  have HR : Hid (Own2 (w.heap.size + 1) (.bool false) (.int .i64 0) w1) := Lib.hid (Own2.below ⟨by go_simp, by go_simp, by go_simp, by go_simp⟩ hb)
  have HX : Hid (Own2 w.heap.size (.bool na) (.int .i64 va) w1) := Lib.hid (Own2.below ⟨by go_simp, by go_simp, by go_simp, by go_simp⟩ hb)
  clear hb
  cases q with
  | true =>
    have hres : Hid (ceilP ⟨na, va⟩ = (nanN, 0)) := Lib.hid (by unfold ceilP; rw [HQ.out]; rfl)
    go_wp2_with fail
    refine (nan_calls _).mono ?_
    rintro e w2 ⟨rfl, hb2⟩
    have HB2 := Lib.hid (below_then HB.out hb2)
    obtain ⟨c0, c1, f0, f1⟩ := HR.out.below hb2
    clear hb2
    unfold numV nanN
    go_wp2
    rw [hres.out]
    exact bodyPost_ret (v := numC (nanN, 0)) (by simp [results, Tryd.results27, go_sem, numC, numV, nanN, c0, c1]) rfl ⟨rfl, (HB2.out.setCell (by simp) _).setCell (by simp) _⟩
  | false =>
    have g1 := (oddN_false.1 HQ.out).2
    obtain ⟨g1, g1'⟩ := g1
    simp only at g1 g1'
    have hres : Hid (ceilP ⟨na, va⟩ = fitP (-floorI (-va))) := Lib.hid (by unfold ceilP; rw [HQ.out]; rfl)
    obtain ⟨x0, x1, _, _⟩ := HX.out
    obtain ⟨t, ht⟩ : ∃ t, floorI (-va) = t := ⟨_, rfl⟩
    have HT := Lib.hid ht
    have ht1 : -2000000000000000 ≤ t ∧ t ≤ 2000000000000000 := by unfold floorI at ht; omega
    obtain ⟨ht1, ht2⟩ := ht1
    clear ht
    go_wp2_with fail
    refine (floor_calls (-va) _ (by omega) (by omega)).mono ?_
    rintro e w2 ⟨rfl, hb2⟩
    rw [HT.out]
    have HB2 := Lib.hid (below_then HB.out hb2)
    have HR2 := Lib.hid (HR.out.below hb2)
    have hres : Hid (ceilP ⟨na, va⟩ = fitP (-t)) := Lib.hid (by rw [← HT.out]; exact hres.out)
    clear hb2 x0 x1
    go_wp2_with fail
    refine (made_calls (-t) _).mono ?_
    rintro e w3 ⟨rfl, hb3⟩
    have HB3 := Lib.hid (below_then HB2.out hb3)
    obtain ⟨c0, c1, f0, f1⟩ := HR2.out.below hb3
    obtain ⟨⟨⟨n, v⟩, c⟩, hd⟩ : ∃ d, fitP (-t) = d := ⟨_, rfl⟩
    rw [hd]
    have HD : Hid (ceilP ⟨na, va⟩ = (⟨n, v⟩, c)) := Lib.hid (by rw [hres.out, hd])
    clear hb3 hd hres
    unfold numC numV
    go_wp2
    rw [HD.out]
    exact bodyPost_ret (v := numC (⟨n, v⟩, c)) (by simp [results, Tryd.results27, go_sem, numC, numV, c0, c1]) rfl ⟨rfl, (HB3.out.setCell (by simp) _).setCell (by simp) _⟩

set_option maxRecDepth 100000 in
set_option maxHeartbeats 1000000 in
theorem roundN_calls (a : Num) (w : World) : Calls Tryd.prog 29 #[numV a] w (Leaves (numC (roundP a)) w) := by
  obtain ⟨q, hq⟩ : ∃ q, oddN a = q := ⟨_, rfl⟩
  have HQ := Lib.hid hq
  obtain ⟨na, va⟩ := a
  unfold numV
  clear hq
  go_enter Tryd.func29, Tryd.ntmps29
  go_wp2_with fail
  refine (known1 ⟨na, va⟩ (w.heap.size + 1 + 1) 1 _ (numsAt_one (by go_simp) (by go_simp))).mono ?_
  rintro e w1 ⟨rfl, hb⟩
  rw [HQ.out]
  have HB : Hid (Below w.heap.size w w1) := Lib.hid ((((Below.refl _ w).alloc (Nat.le_refl _) _).alloc (by simp) _).alloc (by simp; omega) _ |>.trans (hb.mono (by simp; omega)))
  have HR : Hid (Own2 (w.heap.size + 1) (.bool false) (.int .i64 0) w1) := Lib.hid (Own2.below ⟨by go_simp, by go_simp, by go_simp, by go_simp⟩ hb)
  have HX : Hid (Own2 w.heap.size (.bool na) (.int .i64 va) w1) := Lib.hid (Own2.below ⟨by go_simp, by go_simp, by go_simp, by go_simp⟩ hb)
  clear hb
  cases q with
  | true =>
    have hres : Hid (roundP ⟨na, va⟩ = (nanN, 0)) := Lib.hid (by unfold roundP; rw [HQ.out]; rfl)
    go_wp2_with fail
    refine (nan_calls _).mono ?_
    rintro e w2 ⟨rfl, hb2⟩
    have HB2 := Lib.hid (below_then HB.out hb2)
    obtain ⟨c0, c1, f0, f1⟩ := HR.out.below hb2
    clear hb2
    unfold numV nanN
    go_wp2
    rw [hres.out]
    exact bodyPost_ret (v := numC (nanN, 0)) (by simp [results, Tryd.results29, go_sem, numC, numV, nanN, c0, c1]) rfl ⟨rfl, (HB2.out.setCell (by simp) _).setCell (by simp) _⟩
  | false =>
    have g1 := (oddN_false.1 HQ.out).2
    obtain ⟨g1, g1'⟩ := g1
    simp only at g1 g1'
    have hres : Hid (roundP ⟨na, va⟩ = fitP (floorI (va + 500000))) := Lib.hid (by unfold roundP; rw [HQ.out]; rfl)
    obtain ⟨x0, x1, _, _⟩ := HX.out
    obtain ⟨t, ht⟩ : ∃ t, floorI (va + 500000) = t := ⟨_, rfl⟩
    have HT := Lib.hid ht
    have ht1 : -2000000000000000 ≤ t ∧ t ≤ 2000000000000000 := by unfold floorI at ht; omega
    obtain ⟨ht1, ht2⟩ := ht1
    clear ht
    go_wp2_with fail
    refine (floor_calls (va + 500000) _ (by omega) (by omega)).mono ?_
    rintro e w2 ⟨rfl, hb2⟩
    rw [HT.out]
    have HB2 := Lib.hid (below_then HB.out hb2)
    have HR2 := Lib.hid (HR.out.below hb2)
    have hres : Hid (roundP ⟨na, va⟩ = fitP (t)) := Lib.hid (by rw [← HT.out]; exact hres.out)
    clear hb2 x0 x1
    go_wp2_with fail
    refine (made_calls t _).mono ?_
    rintro e w3 ⟨rfl, hb3⟩
    have HB3 := Lib.hid (below_then HB2.out hb3)
    obtain ⟨c0, c1, f0, f1⟩ := HR2.out.below hb3
    obtain ⟨⟨⟨n, v⟩, c⟩, hd⟩ : ∃ d, fitP t = d := ⟨_, rfl⟩
    rw [hd]
    have HD : Hid (roundP ⟨na, va⟩ = (⟨n, v⟩, c)) := Lib.hid (by rw [hres.out, hd])
    clear hb3 hd hres
    unfold numC numV
    go_wp2
    rw [HD.out]
    exact bodyPost_ret (v := numC (⟨n, v⟩, c)) (by simp [results, Tryd.results29, go_sem, numC, numV, c0, c1]) rfl ⟨rfl, (HB3.out.setCell (by simp) _).setCell (by simp) _⟩

set_option maxRecDepth 100000 in
set_option maxHeartbeats 1000000 in
theorem of_calls (x : Int) (w : World) (h0 : -9223372036854775808 ≤ x) (h1 : x ≤ 9223372036854775807) : Calls Tryd.prog 31 #[.int .i64 x] w (Leaves (numC (ofP x)) w) := by
  by_cases hlo : x < -1000000000
  · have hres : Hid (ofP x = (zeroN, 66)) := Lib.hid (if_pos (Or.inl hlo))
    go_enter Tryd.func31, Tryd.ntmps31
    go_wp2
    rw [hres.out]
    exact bodyPost_ret (v := numC (zeroN, 66)) (by simp [results, Tryd.results31, go_sem, numC, numV, zeroN]) rfl ⟨rfl, (Below.refl _ _).alloc (Nat.le_refl _) _⟩
  · by_cases hhi : 1000000000 < x
    · have hres : Hid (ofP x = (zeroN, 66)) := Lib.hid (if_pos (Or.inr hhi))
      go_enter Tryd.func31, Tryd.ntmps31
      go_wp2
      rw [hres.out]
      exact bodyPost_ret (v := numC (zeroN, 66)) (by simp [results, Tryd.results31, go_sem, numC, numV, zeroN]) rfl ⟨rfl, (Below.refl _ _).alloc (Nat.le_refl _) _⟩
    · have hres : Hid (ofP x = (⟨false, x * 1000000⟩, 0)) := Lib.hid (if_neg (by omega))
      have hfit : Hid (fitP (x * 1000000) = (⟨false, x * 1000000⟩, 0)) := Lib.hid (fit_ok (outB_false.2 (by omega)))
      go_enter Tryd.func31, Tryd.ntmps31
      go_wp2_with fail
      refine (made_calls (x * 1000000) _).mono ?_
      rintro e w1 ⟨rfl, hb⟩
      have HB : Hid (Below w.heap.size w w1) := Lib.hid ((Below.refl _ w).alloc (Nat.le_refl _) _ |>.trans (hb.mono (by simp)))
      obtain ⟨c0, c1, f0, f1⟩ : Own2 w.heap.size (.bool false) (.int .i64 0) w1 := Own2.below ⟨by go_simp, by go_simp, by go_simp, by go_simp⟩ hb
      rw [hfit.out]
      clear hb
      unfold numC numV
      go_wp2
      rw [hres.out]
      exact bodyPost_ret (v := numC (⟨false, x * 1000000⟩, 0)) (by simp [results, Tryd.results31, go_sem, numC, numV, c0, c1]) rfl ⟨rfl, (HB.out.setCell (by simp) _).setCell (by simp) _⟩

set_option maxRecDepth 100000 in
set_option maxHeartbeats 1000000 in
theorem less_calls (a b : Num) (w : World) : Calls Tryd.prog 21 #[numV a, numV b] w (Leaves (.bool (lessP a b)) w) := by
  obtain ⟨q, hq⟩ : ∃ q, odd2 a b = q := ⟨_, rfl⟩
  have HQ := Lib.hid hq
  obtain ⟨na, va⟩ := a
  obtain ⟨nb, vb⟩ := b
  unfold numV
  clear hq
  go_enter Tryd.func21, Tryd.ntmps21
  go_wp2_with fail
  refine (known2 ⟨na, va⟩ ⟨nb, vb⟩ (w.heap.size + 1 + 1) 2 _ (numsAt_two (by go_simp) (by go_simp) (by go_simp) (by go_simp))).mono ?_
  rintro e w1 ⟨rfl, hb⟩
  rw [HQ.out]
  have HB : Hid (Below w.heap.size w w1) := Lib.hid ((((Below.refl _ w).alloc (Nat.le_refl _) _).alloc (by simp) _).alloc (by simp; omega) _ |>.trans (hb.mono (by simp; omega)))
  have HX : Hid (Own2 w.heap.size (.bool na) (.int .i64 va) w1) := Lib.hid (Own2.below ⟨by go_simp, by go_simp, by go_simp, by go_simp⟩ hb)
  have HY : Hid (Own2 (w.heap.size + 1) (.bool nb) (.int .i64 vb) w1) := Lib.hid (Own2.below ⟨by go_simp, by go_simp, by go_simp, by go_simp⟩ hb)
  clear hb
  cases q with
  | true =>
    have hres : Hid (lessP ⟨na, va⟩ ⟨nb, vb⟩ = false) := Lib.hid (by unfold lessP; rw [HQ.out]; rfl)
    go_wp2
    go_ret
    exact ⟨by rw [hres.out]; rfl, HB.out⟩
  | false =>
    have hres : Hid (lessP ⟨na, va⟩ ⟨nb, vb⟩ = decide (va < vb)) := Lib.hid (by unfold lessP; rw [HQ.out]; rfl)
    obtain ⟨x0, x1, _, _⟩ := HX.out
    obtain ⟨y0, y1, _, _⟩ := HY.out
    by_cases h : va < vb
    · have hres : Hid (lessP ⟨na, va⟩ ⟨nb, vb⟩ = true) := Lib.hid (by rw [hres.out]; simpa using h)
      skip
      go_wp2
      go_ret
      exact ⟨by rw [hres.out]; rfl, HB.out⟩
    · have hres : Hid (lessP ⟨na, va⟩ ⟨nb, vb⟩ = false) := Lib.hid (by rw [hres.out]; simpa using h)
      have hne : decide (va < vb) = false := by simpa using h
      go_wp2
      go_ret
      exact ⟨by rw [hres.out]; rfl, HB.out⟩

set_option maxRecDepth 100000 in
set_option maxHeartbeats 1000000 in
theorem equal_calls (a b : Num) (w : World) : Calls Tryd.prog 23 #[numV a, numV b] w (Leaves (.bool (equalP a b)) w) := by
  obtain ⟨q, hq⟩ : ∃ q, odd2 a b = q := ⟨_, rfl⟩
  have HQ := Lib.hid hq
  obtain ⟨na, va⟩ := a
  obtain ⟨nb, vb⟩ := b
  unfold numV
  clear hq
  go_enter Tryd.func23, Tryd.ntmps23
  go_wp2_with fail
  refine (known2 ⟨na, va⟩ ⟨nb, vb⟩ (w.heap.size + 1 + 1) 2 _ (numsAt_two (by go_simp) (by go_simp) (by go_simp) (by go_simp))).mono ?_
  rintro e w1 ⟨rfl, hb⟩
  rw [HQ.out]
  have HB : Hid (Below w.heap.size w w1) := Lib.hid ((((Below.refl _ w).alloc (Nat.le_refl _) _).alloc (by simp) _).alloc (by simp; omega) _ |>.trans (hb.mono (by simp; omega)))
  have HX : Hid (Own2 w.heap.size (.bool na) (.int .i64 va) w1) := Lib.hid (Own2.below ⟨by go_simp, by go_simp, by go_simp, by go_simp⟩ hb)
  have HY : Hid (Own2 (w.heap.size + 1) (.bool nb) (.int .i64 vb) w1) := Lib.hid (Own2.below ⟨by go_simp, by go_simp, by go_simp, by go_simp⟩ hb)
  clear hb
  cases q with
  | true =>
    have hres : Hid (equalP ⟨na, va⟩ ⟨nb, vb⟩ = false) := Lib.hid (by unfold equalP; rw [HQ.out]; rfl)
    go_wp2
    go_ret
    exact ⟨by rw [hres.out]; rfl, HB.out⟩
  | false =>
    have hres : Hid (equalP ⟨na, va⟩ ⟨nb, vb⟩ = decide (va = vb)) := Lib.hid (by unfold equalP; rw [HQ.out]; rfl)
    obtain ⟨x0, x1, _, _⟩ := HX.out
    obtain ⟨y0, y1, _, _⟩ := HY.out
    by_cases h : va = vb
    · have hres : Hid (equalP ⟨na, va⟩ ⟨nb, vb⟩ = true) := Lib.hid (by rw [hres.out]; simpa using h)
      subst h
      go_wp2
      go_ret
      exact ⟨by rw [hres.out]; rfl, HB.out⟩
    · have hres : Hid (equalP ⟨na, va⟩ ⟨nb, vb⟩ = false) := Lib.hid (by rw [hres.out]; simpa using h)
      have hne : (va == vb) = false := by simpa using h
      go_wp2
      go_ret
      exact ⟨by rw [hres.out]; rfl, HB.out⟩

end Go.Proofs.YteddnomneeonhaaDoor
