/-
  The reference's Floor, Ceiling, Round, Of, Less, Equal: each tells what plain numbers say. No condition but the bounds of 64 bits.
-/
import Derived.Test.YteddnomneeonhaaDoorRefNum
namespace Go.Proofs.YteddnomneeonhaaDoor
open Go.RowKit Go.Lib

set_option maxRecDepth 100000 in
set_option maxHeartbeats 1000000 in
theorem refFloorN_calls (a : Num) (w : World) : Calls Tryd.prog 26 #[numV a] w (Leaves (numC (floorP a)) w) := by
  obtain ⟨q, hq⟩ : ∃ q, oddN a = q := ⟨_, rfl⟩
  have HQ := Lib.hid hq
  obtain ⟨na, va⟩ := a
  unfold numV
  clear hq
  go_enter Tryd.func26, Tryd.ntmps26
  go_wp2_with fail
  refine (refOdd_calls ⟨na, va⟩ _).mono ?_
  rintro e w1 ⟨rfl, hb⟩
  rw [HQ.out]
  have HB : Hid (Below w.heap.size w w1) := Lib.hid (((Below.refl _ w).alloc (Nat.le_refl _) _).alloc (by simp) _ |>.trans (hb.mono (by simp; omega)))
  have HR : Hid (Own2 (w.heap.size + 1) (.bool false) (.int .i64 0) w1) := Lib.hid (Own2.below ⟨by go_simp, by go_simp, by go_simp, by go_simp⟩ hb)
  have HX : Hid (Own2 w.heap.size (.bool na) (.int .i64 va) w1) := Lib.hid (Own2.below ⟨by go_simp, by go_simp, by go_simp, by go_simp⟩ hb)
  clear hb
  cases q with
  | true =>
    have hres : Hid (floorP ⟨na, va⟩ = (nanN, 0)) := Lib.hid (by unfold floorP; rw [HQ.out]; rfl)
    go_wp2_with fail
    refine (refNone_calls _).mono ?_
    rintro e w2 ⟨rfl, hb2⟩
    have HB2 := Lib.hid (below_then HB.out hb2)
    obtain ⟨c0, c1, f0, f1⟩ := HR.out.below hb2
    clear hb2
    unfold numV nanN
    go_wp2
    rw [hres.out]
    exact bodyPost_ret (v := numC (nanN, 0)) (by simp [results, Tryd.results26, go_sem, numC, numV, nanN, c0, c1]) rfl ⟨rfl, (HB2.out.setCell (by simp) _).setCell (by simp) _⟩
  | false =>
    have g1 := (oddN_false.1 HQ.out).2
    obtain ⟨g1, g1'⟩ := g1
    simp only at g1 g1'
    have hres : Hid (floorP ⟨na, va⟩ = fitP (floorI va)) := Lib.hid (by unfold floorP; rw [HQ.out]; rfl)
    obtain ⟨x0, x1, _, _⟩ := HX.out
    obtain ⟨t, ht⟩ : ∃ t, floorI va = t := ⟨_, rfl⟩
    have HT := Lib.hid ht
    have ht1 : -2000000000000000 ≤ t ∧ t ≤ 2000000000000000 := by unfold floorI at ht; omega
    obtain ⟨ht1, ht2⟩ := ht1
    clear ht
    go_wp2_with fail
    refine (refFloor_calls va _ (by omega) (by omega)).mono ?_
    rintro e w2 ⟨rfl, hb2⟩
    rw [HT.out]
    have HB2 := Lib.hid (below_then HB.out hb2)
    have HR2 := Lib.hid (HR.out.below hb2)
    have hres : Hid (floorP ⟨na, va⟩ = fitP t) := Lib.hid (by rw [← HT.out]; exact hres.out)
    clear hb2 x0 x1
    go_wp2_with fail
    refine (refFit_calls t _).mono ?_
    rintro e w3 ⟨rfl, hb3⟩
    have HB3 := Lib.hid (below_then HB2.out hb3)
    obtain ⟨c0, c1, f0, f1⟩ := HR2.out.below hb3
    obtain ⟨⟨⟨n, v⟩, c⟩, hd⟩ : ∃ d, fitP t = d := ⟨_, rfl⟩
    rw [hd]
    have HD : Hid (floorP ⟨na, va⟩ = (⟨n, v⟩, c)) := Lib.hid (by rw [hres.out, hd])
    clear hb3 hd hres
    unfold numC numV
    go_wp2
    rw [HD.out]
    exact bodyPost_ret (v := numC (⟨n, v⟩, c)) (by simp [results, Tryd.results26, go_sem, numC, numV, c0, c1]) rfl ⟨rfl, (HB3.out.setCell (by simp) _).setCell (by simp) _⟩

set_option maxRecDepth 100000 in
set_option maxHeartbeats 1000000 in
theorem refRoundN_calls (a : Num) (w : World) : Calls Tryd.prog 30 #[numV a] w (Leaves (numC (roundP a)) w) := by
  obtain ⟨q, hq⟩ : ∃ q, oddN a = q := ⟨_, rfl⟩
  have HQ := Lib.hid hq
  obtain ⟨na, va⟩ := a
  unfold numV
  clear hq
  go_enter Tryd.func30, Tryd.ntmps30
  go_wp2_with fail
  refine (refOdd_calls ⟨na, va⟩ _).mono ?_
  rintro e w1 ⟨rfl, hb⟩
  rw [HQ.out]
  have HB : Hid (Below w.heap.size w w1) := Lib.hid (((Below.refl _ w).alloc (Nat.le_refl _) _).alloc (by simp) _ |>.trans (hb.mono (by simp; omega)))
  have HR : Hid (Own2 (w.heap.size + 1) (.bool false) (.int .i64 0) w1) := Lib.hid (Own2.below ⟨by go_simp, by go_simp, by go_simp, by go_simp⟩ hb)
  have HX : Hid (Own2 w.heap.size (.bool na) (.int .i64 va) w1) := Lib.hid (Own2.below ⟨by go_simp, by go_simp, by go_simp, by go_simp⟩ hb)
  clear hb
  cases q with
  | true =>
    have hres : Hid (roundP ⟨na, va⟩ = (nanN, 0)) := Lib.hid (by unfold roundP; rw [HQ.out]; rfl)
    go_wp2_with fail
    refine (refNone_calls _).mono ?_
    rintro e w2 ⟨rfl, hb2⟩
    have HB2 := Lib.hid (below_then HB.out hb2)
    obtain ⟨c0, c1, f0, f1⟩ := HR.out.below hb2
    clear hb2
    unfold numV nanN
    go_wp2
    rw [hres.out]
    exact bodyPost_ret (v := numC (nanN, 0)) (by simp [results, Tryd.results30, go_sem, numC, numV, nanN, c0, c1]) rfl ⟨rfl, (HB2.out.setCell (by simp) _).setCell (by simp) _⟩
  | false =>
    have g1 := (oddN_false.1 HQ.out).2
    obtain ⟨g1, g1'⟩ := g1
    simp only at g1 g1'
    have hres : Hid (roundP ⟨na, va⟩ = fitP (floorI (va + 500000))) := Lib.hid (by unfold roundP; rw [HQ.out]; rfl)
    obtain ⟨x0, x1, _, _⟩ := HX.out
    obtain ⟨t, ht⟩ : ∃ t, floorI (va + 500000) = t := ⟨_, rfl⟩
    have HT := Lib.hid ht
    have ht1 : -2000000000000000 ≤ t ∧ t ≤ 2000000000000000 := by unfold floorI at ht; omega
    obtain ⟨ht1, ht2⟩ := ht1
    clear ht
    go_wp2_with fail
    refine (refFloor_calls (va + 500000) _ (by omega) (by omega)).mono ?_
    rintro e w2 ⟨rfl, hb2⟩
    rw [HT.out]
    have HB2 := Lib.hid (below_then HB.out hb2)
    have HR2 := Lib.hid (HR.out.below hb2)
    have hres : Hid (roundP ⟨na, va⟩ = fitP t) := Lib.hid (by rw [← HT.out]; exact hres.out)
    clear hb2 x0 x1
    go_wp2_with fail
    refine (refFit_calls t _).mono ?_
    rintro e w3 ⟨rfl, hb3⟩
    have HB3 := Lib.hid (below_then HB2.out hb3)
    obtain ⟨c0, c1, f0, f1⟩ := HR2.out.below hb3
    obtain ⟨⟨⟨n, v⟩, c⟩, hd⟩ : ∃ d, fitP t = d := ⟨_, rfl⟩
    rw [hd]
    have HD : Hid (roundP ⟨na, va⟩ = (⟨n, v⟩, c)) := Lib.hid (by rw [hres.out, hd])
    clear hb3 hd hres
    unfold numC numV
    go_wp2
    rw [HD.out]
    exact bodyPost_ret (v := numC (⟨n, v⟩, c)) (by simp [results, Tryd.results30, go_sem, numC, numV, c0, c1]) rfl ⟨rfl, (HB3.out.setCell (by simp) _).setCell (by simp) _⟩

set_option maxRecDepth 100000 in
set_option maxHeartbeats 1000000 in
theorem refCeilN_calls (a : Num) (w : World) : Calls Tryd.prog 28 #[numV a] w (Leaves (numC (ceilP a)) w) := by
  obtain ⟨q, hq⟩ : ∃ q, oddN a = q := ⟨_, rfl⟩
  have HQ := Lib.hid hq
  obtain ⟨na, va⟩ := a
  unfold numV
  clear hq
  go_enter Tryd.func28, Tryd.ntmps28
  go_wp2_with fail
  refine (refOdd_calls ⟨na, va⟩ _).mono ?_
  rintro e w1 ⟨rfl, hb⟩
  rw [HQ.out]
  have HB : Hid (Below w.heap.size w w1) := Lib.hid (((Below.refl _ w).alloc (Nat.le_refl _) _).alloc (by simp) _ |>.trans (hb.mono (by simp; omega)))
  have HR : Hid (Own2 (w.heap.size + 1) (.bool false) (.int .i64 0) w1) := Lib.hid (Own2.below ⟨by go_simp, by go_simp, by go_simp, by go_simp⟩ hb)
  have HX : Hid (Own2 w.heap.size (.bool na) (.int .i64 va) w1) := Lib.hid (Own2.below ⟨by go_simp, by go_simp, by go_simp, by go_simp⟩ hb)
  clear hb
  cases q with
  | true =>
    have hres : Hid (ceilP ⟨na, va⟩ = (nanN, 0)) := Lib.hid (by unfold ceilP; rw [HQ.out]; rfl)
    go_wp2_with fail
    refine (refNone_calls _).mono ?_
    rintro e w2 ⟨rfl, hb2⟩
    have HB2 := Lib.hid (below_then HB.out hb2)
    obtain ⟨c0, c1, f0, f1⟩ := HR.out.below hb2
    clear hb2
    unfold numV nanN
    go_wp2
    rw [hres.out]
    exact bodyPost_ret (v := numC (nanN, 0)) (by simp [results, Tryd.results28, go_sem, numC, numV, nanN, c0, c1]) rfl ⟨rfl, (HB2.out.setCell (by simp) _).setCell (by simp) _⟩
  | false =>
    have g1 := (oddN_false.1 HQ.out).2
    obtain ⟨g1, g1'⟩ := g1
    simp only at g1 g1'
    have hres : Hid (ceilP ⟨na, va⟩ = fitP (-floorI (-va))) := Lib.hid (by unfold ceilP; rw [HQ.out]; rfl)
    obtain ⟨x0, x1, _, _⟩ := HX.out
    obtain ⟨t, ht⟩ : ∃ t, floorI va = t := ⟨_, rfl⟩
    have HT := Lib.hid ht
    have ht1 : -2000000000000000 ≤ t ∧ t ≤ 2000000000000000 := by unfold floorI at ht; omega
    have hce : -floorI (-va) = if t < va then t + 1000000 else t := by rw [← ht]; unfold floorI; split <;> omega
    obtain ⟨ht1, ht2⟩ := ht1
    have HCE := Lib.hid hce
    clear ht hce
    go_wp2_with fail
    refine (refFloor_calls va _ (by omega) (by omega)).mono ?_
    rintro e w2 ⟨rfl, hb2⟩
    rw [HT.out]
    have HB2 := Lib.hid (below_then HB.out hb2)
    have HR2 := Lib.hid (HR.out.below hb2)
    have HX2 := Lib.hid (HX.out.below hb2)
    clear hb2 x0 x1
    obtain ⟨x0, x1, _, _⟩ := HX2.out
    by_cases hlt : t < va
    · have hres : Hid (ceilP ⟨na, va⟩ = fitP (t + 1000000)) := Lib.hid (by rw [hres.out, HCE.out, if_pos hlt])
      clear HCE
      go_wp2_with fail
      refine (refFit_calls (t + 1000000) _).mono ?_
      rintro e w3 ⟨rfl, hb3⟩
      have HB3 := Lib.hid (below_then HB2.out hb3)
      obtain ⟨c0, c1, f0, f1⟩ := HR2.out.below hb3
      obtain ⟨⟨⟨n, v⟩, c⟩, hd⟩ : ∃ d, fitP (t + 1000000) = d := ⟨_, rfl⟩
      rw [hd]
      have HD : Hid (ceilP ⟨na, va⟩ = (⟨n, v⟩, c)) := Lib.hid (by rw [hres.out, hd])
      clear hb3 hd hres
      unfold numC numV
      go_wp2
      rw [HD.out]
      exact bodyPost_ret (v := numC (⟨n, v⟩, c)) (by simp [results, Tryd.results28, go_sem, numC, numV, c0, c1]) rfl ⟨rfl, (HB3.out.setCell (by simp) _).setCell (by simp) _⟩
    · have hres : Hid (ceilP ⟨na, va⟩ = fitP t) := Lib.hid (by rw [hres.out, HCE.out, if_neg hlt])
      clear HCE
      go_wp2_with fail
      refine (refFit_calls t _).mono ?_
      rintro e w3 ⟨rfl, hb3⟩
      have HB3 := Lib.hid (below_then HB2.out hb3)
      obtain ⟨c0, c1, f0, f1⟩ := HR2.out.below hb3
      obtain ⟨⟨⟨n, v⟩, c⟩, hd⟩ : ∃ d, fitP t = d := ⟨_, rfl⟩
      rw [hd]
      have HD : Hid (ceilP ⟨na, va⟩ = (⟨n, v⟩, c)) := Lib.hid (by rw [hres.out, hd])
      clear hb3 hd hres
      unfold numC numV
      go_wp2
      rw [HD.out]
      exact bodyPost_ret (v := numC (⟨n, v⟩, c)) (by simp [results, Tryd.results28, go_sem, numC, numV, c0, c1]) rfl ⟨rfl, (HB3.out.setCell (by simp) _).setCell (by simp) _⟩

set_option maxRecDepth 100000 in
set_option maxHeartbeats 1000000 in
theorem refOf_calls (x : Int) (w : World) (h0 : -9223372036854775808 ≤ x) (h1 : x ≤ 9223372036854775807) : Calls Tryd.prog 32 #[.int .i64 x] w (Leaves (numC (ofP x)) w) := by
  by_cases hhi : 1000000000 < x
  · have hres : Hid (ofP x = (zeroN, 66)) := Lib.hid (if_pos (Or.inr hhi))
    go_enter Tryd.func32, Tryd.ntmps32
    go_wp2
    rw [hres.out]
    exact bodyPost_ret (v := numC (zeroN, 66)) (by simp [results, Tryd.results32, go_sem, numC, numV, zeroN]) rfl ⟨rfl, (Below.refl _ _).alloc (Nat.le_refl _) _⟩
  · by_cases hlo : x < -1000000000
    · have hres : Hid (ofP x = (zeroN, 66)) := Lib.hid (if_pos (Or.inl hlo))
      go_enter Tryd.func32, Tryd.ntmps32
      go_wp2
      rw [hres.out]
      exact bodyPost_ret (v := numC (zeroN, 66)) (by simp [results, Tryd.results32, go_sem, numC, numV, zeroN]) rfl ⟨rfl, (Below.refl _ _).alloc (Nat.le_refl _) _⟩
    · have hres : Hid (ofP x = (⟨false, x * 1000000⟩, 0)) := Lib.hid (if_neg (by omega))
      go_enter Tryd.func32, Tryd.ntmps32
      go_wp2
      rw [hres.out]
      exact bodyPost_ret (v := numC (⟨false, x * 1000000⟩, 0)) (by simp [results, Tryd.results32, go_sem, numC, numV]) rfl ⟨rfl, (Below.refl _ _).alloc (Nat.le_refl _) _⟩

set_option maxRecDepth 100000 in
set_option maxHeartbeats 1000000 in
theorem refLess_calls (a b : Num) (w : World) : Calls Tryd.prog 22 #[numV a, numV b] w (Leaves (.bool (lessP a b)) w) := by
  obtain ⟨q, hq⟩ : ∃ q, odd2 a b = q := ⟨_, rfl⟩
  have HQ := Lib.hid hq
  obtain ⟨na, va⟩ := a
  obtain ⟨nb, vb⟩ := b
  unfold numV
  clear hq
  go_enter Tryd.func22, Tryd.ntmps22
  go_wp2_with fail
  refine (refOdd_calls ⟨na, va⟩ _).mono ?_
  rintro e w0 ⟨rfl, hb0⟩
  have HB0 : Hid (Below w.heap.size w w0) := Lib.hid (((Below.refl _ w).alloc (Nat.le_refl _) _).alloc (by simp) _ |>.trans (hb0.mono (by simp; omega)))
  have HX0 : Hid (Own2 w.heap.size (.bool na) (.int .i64 va) w0) := Lib.hid (Own2.below ⟨by go_simp, by go_simp, by go_simp, by go_simp⟩ hb0)
  have HY0 : Hid (Own2 (w.heap.size + 1) (.bool nb) (.int .i64 vb) w0) := Lib.hid (Own2.below ⟨by go_simp, by go_simp, by go_simp, by go_simp⟩ hb0)
  clear hb0
  obtain ⟨oa, hoa⟩ : ∃ x, oddN ⟨na, va⟩ = x := ⟨_, rfl⟩
  rw [hoa]
  have HOA := Lib.hid hoa
  clear hoa
  cases oa with
  | true =>
    have hqt : q = true := by rw [← HQ.out]; exact odd_left HOA.out
    subst hqt
    have hres : Hid (lessP ⟨na, va⟩ ⟨nb, vb⟩ = false) := Lib.hid (by unfold lessP; rw [HQ.out]; rfl)
    go_wp2
    go_ret
    exact ⟨by rw [hres.out]; rfl, HB0.out⟩
  | false =>
    obtain ⟨y0, y1, _, _⟩ := HY0.out
    go_wp2_with fail
    refine (refOdd_calls ⟨nb, vb⟩ _).mono ?_
    rintro e w1 ⟨rfl, hb⟩
    have hqo : oddN ⟨nb, vb⟩ = q := by rw [← HQ.out]; unfold odd2; rw [HOA.out]; rfl
    rw [hqo]
    have HB := Lib.hid (below_then HB0.out hb)
    have HX := Lib.hid (HX0.out.below hb)
    have HY := Lib.hid (HY0.out.below hb)
    clear hb hqo y0 y1
    cases q with
    | true =>
      have hres : Hid (lessP ⟨na, va⟩ ⟨nb, vb⟩ = false) := Lib.hid (by unfold lessP; rw [HQ.out]; rfl)
      go_wp2
      go_ret
      exact ⟨by rw [hres.out]; rfl, HB.out⟩
    | false =>
      have hres : Hid (lessP ⟨na, va⟩ ⟨nb, vb⟩ = decide (va < vb)) := Lib.hid (by unfold lessP; rw [HQ.out]; rfl)
      obtain ⟨x0, x1, _, _⟩ := HX.out
      obtain ⟨y0, y1, _, _⟩ := HY.out
      by_cases h : va < vb
      · have hres : Hid (lessP ⟨na, va⟩ ⟨nb, vb⟩ = true) := Lib.hid (by rw [hres.out]; simpa using h)
        skip
        go_wp2
        go_ret
        exact ⟨by rw [hres.out]; rfl, HB.out⟩
      · have hres : Hid (lessP ⟨na, va⟩ ⟨nb, vb⟩ = false) := Lib.hid (by rw [hres.out]; simpa using h)
        have hne : decide (va < vb) = false := by simpa using h
        go_wp2
        go_ret
        exact ⟨by rw [hres.out]; rfl, HB.out⟩

set_option maxRecDepth 100000 in
set_option maxHeartbeats 1000000 in
theorem refEqual_calls (a b : Num) (w : World) : Calls Tryd.prog 24 #[numV a, numV b] w (Leaves (.bool (equalP a b)) w) := by
  obtain ⟨q, hq⟩ : ∃ q, odd2 a b = q := ⟨_, rfl⟩
  have HQ := Lib.hid hq
  obtain ⟨na, va⟩ := a
  obtain ⟨nb, vb⟩ := b
  unfold numV
  clear hq
  go_enter Tryd.func24, Tryd.ntmps24
  go_wp2_with fail
  refine (refOdd_calls ⟨na, va⟩ _).mono ?_
  rintro e w0 ⟨rfl, hb0⟩
  have HB0 : Hid (Below w.heap.size w w0) := Lib.hid (((Below.refl _ w).alloc (Nat.le_refl _) _).alloc (by simp) _ |>.trans (hb0.mono (by simp; omega)))
  have HX0 : Hid (Own2 w.heap.size (.bool na) (.int .i64 va) w0) := Lib.hid (Own2.below ⟨by go_simp, by go_simp, by go_simp, by go_simp⟩ hb0)
  have HY0 : Hid (Own2 (w.heap.size + 1) (.bool nb) (.int .i64 vb) w0) := Lib.hid (Own2.below ⟨by go_simp, by go_simp, by go_simp, by go_simp⟩ hb0)
  clear hb0
  obtain ⟨oa, hoa⟩ : ∃ x, oddN ⟨na, va⟩ = x := ⟨_, rfl⟩
  rw [hoa]
  have HOA := Lib.hid hoa
  clear hoa
  cases oa with
  | true =>
    have hqt : q = true := by rw [← HQ.out]; exact odd_left HOA.out
    subst hqt
    have hres : Hid (equalP ⟨na, va⟩ ⟨nb, vb⟩ = false) := Lib.hid (by unfold equalP; rw [HQ.out]; rfl)
    go_wp2
    go_ret
    exact ⟨by rw [hres.out]; rfl, HB0.out⟩
  | false =>
    obtain ⟨y0, y1, _, _⟩ := HY0.out
    go_wp2_with fail
    refine (refOdd_calls ⟨nb, vb⟩ _).mono ?_
    rintro e w1 ⟨rfl, hb⟩
    have hqo : oddN ⟨nb, vb⟩ = q := by rw [← HQ.out]; unfold odd2; rw [HOA.out]; rfl
    rw [hqo]
    have HB := Lib.hid (below_then HB0.out hb)
    have HX := Lib.hid (HX0.out.below hb)
    have HY := Lib.hid (HY0.out.below hb)
    clear hb hqo y0 y1
    cases q with
    | true =>
      have hres : Hid (equalP ⟨na, va⟩ ⟨nb, vb⟩ = false) := Lib.hid (by unfold equalP; rw [HQ.out]; rfl)
      go_wp2
      go_ret
      exact ⟨by rw [hres.out]; rfl, HB.out⟩
    | false =>
      have hres : Hid (equalP ⟨na, va⟩ ⟨nb, vb⟩ = decide (va = vb)) := Lib.hid (by unfold equalP; rw [HQ.out]; rfl)
      obtain ⟨x0, x1, _, _⟩ := HX.out
      obtain ⟨y0, y1, _, _⟩ := HY.out
      by_cases h : va = vb
      · have hres : Hid (equalP ⟨na, va⟩ ⟨nb, vb⟩ = true) := Lib.hid (by rw [hres.out]; simpa using h)
        subst h
        go_wp2
        go_ret
        exact ⟨by rw [hres.out]; rfl, HB.out⟩
      · have hres : Hid (equalP ⟨na, va⟩ ⟨nb, vb⟩ = false) := Lib.hid (by rw [hres.out]; simpa using h)
        have hne : (va == vb) = false := by simpa using h
        go_wp2
        go_ret
        exact ⟨by rw [hres.out]; rfl, HB.out⟩

end Go.Proofs.YteddnomneeonhaaDoor
