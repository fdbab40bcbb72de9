/-
  The reference's Odd, none, fit, abs, floor, Add, Sub, Of, Floor, Ceiling, Round, Less, Equal: each tells what plain numbers say. No condition but the bounds of 64 bits.
-/
import Derived.Test.YteddnomneeonhaaDoorMade
namespace Go.Proofs.YteddnomneeonhaaDoor
open Go.RowKit Go.Lib

set_option maxRecDepth 100000 in
theorem refNone_calls (w : World) : Calls Tryd.prog 42 #[] w (Leaves (numV nanN) w) := by
  go_enter Tryd.func42, Tryd.ntmps42
  go_wp2
  exact bodyPost_ret (v := numV nanN) (by simp [results, Tryd.results42, go_sem, numV, nanN]) rfl ⟨rfl, (Below.refl _ _).alloc (Nat.le_refl _) _⟩

set_option maxRecDepth 100000 in
theorem refOdd_calls (a : Num) (w : World) : Calls Tryd.prog 36 #[numV a] w (Leaves (.bool (oddN a)) w) := by
  obtain ⟨na, va⟩ := a
  unfold numV
  by_cases hn : na = true
  · have hres : Hid (oddN ⟨na, va⟩ = true) := Lib.hid (by unfold oddN; rw [hn]; rfl)
    subst hn
    go_enter Tryd.func36, Tryd.ntmps36
    go_wp2
    go_ret
    exact ⟨by rw [hres.out]; rfl, (Below.refl _ _).alloc (Nat.le_refl _) _⟩
  · have hn2 : na = false := by simpa using hn
    subst hn2
    by_cases hhi : 1000000000000000 < va
    · have hres : Hid (oddN ⟨false, va⟩ = true) := Lib.hid (by unfold oddN; rw [outB_true.2 (Or.inl hhi)]; rfl)
      go_enter Tryd.func36, Tryd.ntmps36
      go_wp2
      go_ret
      exact ⟨by rw [hres.out]; rfl, (Below.refl _ _).alloc (Nat.le_refl _) _⟩
    · by_cases hlo : va < -1000000000000000
      · have hres : Hid (oddN ⟨false, va⟩ = true) := Lib.hid (by unfold oddN; rw [outB_true.2 (Or.inr hlo)]; rfl)
        go_enter Tryd.func36, Tryd.ntmps36
        go_wp2
        go_ret
        exact ⟨by rw [hres.out]; rfl, (Below.refl _ _).alloc (Nat.le_refl _) _⟩
      · have hres : Hid (oddN ⟨false, va⟩ = false) := Lib.hid (oddN_false.2 ⟨rfl, by show _ ≤ va; omega, by show va ≤ _; omega⟩)
        have hd1 : decide (1000000000000000 < va) = false := by simp; omega
        have hd2 : decide (va < -1000000000000000) = false := by simp; omega
        go_enter Tryd.func36, Tryd.ntmps36
        go_wp2
        go_ret
        exact ⟨by rw [hres.out]; rfl, (Below.refl _ _).alloc (Nat.le_refl _) _⟩

set_option maxRecDepth 100000 in
theorem refFit_calls (v : Int) (w : World) : Calls Tryd.prog 43 #[.int .i64 v] w (Leaves (numC (fitP v)) w) := by
  by_cases hhi : 1000000000000000 < v
  · have hres : Hid (fitP v = (zeroN, 66)) := Lib.hid (fit_out (outB_true.2 (Or.inl hhi)))
    go_enter Tryd.func43, Tryd.ntmps43
    go_wp2
    rw [hres.out]
    exact bodyPost_ret (v := numC (zeroN, 66)) (by simp [results, Tryd.results43, go_sem, numC, numV, zeroN]) rfl ⟨rfl, (Below.refl _ _).alloc (Nat.le_refl _) _⟩
  · by_cases hlo : v < -1000000000000000
    · have hres : Hid (fitP v = (zeroN, 66)) := Lib.hid (fit_out (outB_true.2 (Or.inr hlo)))
      go_enter Tryd.func43, Tryd.ntmps43
      go_wp2
      rw [hres.out]
      exact bodyPost_ret (v := numC (zeroN, 66)) (by simp [results, Tryd.results43, go_sem, numC, numV, zeroN]) rfl ⟨rfl, (Below.refl _ _).alloc (Nat.le_refl _) _⟩
    · have hres : Hid (fitP v = (⟨false, v⟩, 0)) := Lib.hid (fit_ok (outB_false.2 (by omega)))
      go_enter Tryd.func43, Tryd.ntmps43
      go_wp2
      rw [hres.out]
      exact bodyPost_ret (v := numC (⟨false, v⟩, 0)) (by simp [results, Tryd.results43, go_sem, numC, numV]) rfl ⟨rfl, (Below.refl _ _).alloc (Nat.le_refl _) _⟩

set_option maxRecDepth 100000 in
theorem refAbs_calls (v : Int) (w : World) (h0 : -9223372036854775807 ≤ v) (h1 : v ≤ 9223372036854775807) : Calls Tryd.prog 45 #[.int .i64 v] w (Leaves (.int .i64 (v.natAbs : Int)) w) := by
  by_cases h : v < 0
  · have e : Hid ((v.natAbs : Int) = -v) := Lib.hid (by omega)
    go_enter Tryd.func45, Tryd.ntmps45
    go_wp2
    go_ret
    exact ⟨by rw [e.out]; rfl, Below.refl _ _⟩
  · have e : Hid ((v.natAbs : Int) = v) := Lib.hid (by omega)
    go_enter Tryd.func45, Tryd.ntmps45
    go_wp2
    go_ret
    exact ⟨by rw [e.out]; rfl, Below.refl _ _⟩

theorem floor_tdiv (v : Int) : floorI v = if v < v.tdiv 1000000 * 1000000 then v.tdiv 1000000 * 1000000 - 1000000 else v.tdiv 1000000 * 1000000 := by
  unfold floorI
  have h := Int.tdiv_mul_add_tmod v 1000000
  have h2 := tmod_cases v
  split <;> omega

set_option maxRecDepth 100000 in
theorem refFloor_calls (v : Int) (w : World) (h0 : -2000000000000000 ≤ v) (h1 : v ≤ 2000000000000000) : Calls Tryd.prog 47 #[.int .i64 v] w (Leaves (.int .i64 (floorI v)) w) := by
  have h2 := floor_tdiv v
  have h3 := tmod_cases v
  have h4 := Int.tdiv_mul_add_tmod v 1000000
  obtain ⟨t, ht⟩ : ∃ t, v.tdiv 1000000 = t := ⟨_, rfl⟩
  rw [ht] at h2 h4
  have hb : -2000000000 ≤ t ∧ t ≤ 2000000000 := by omega
  obtain ⟨hb1, hb2⟩ := hb
  clear h3 h4
  by_cases h : v < t * 1000000
  · rw [if_pos h] at h2
    have e := Lib.hid h2
    clear h2
    go_enter Tryd.func47, Tryd.ntmps47
    go_wp2
    go_ret
    exact ⟨by rw [e.out]; rfl, Below.refl _ _⟩
  · rw [if_neg h] at h2
    have e := Lib.hid h2
    clear h2
    go_enter Tryd.func47, Tryd.ntmps47
    go_wp2
    go_ret
    exact ⟨by rw [e.out]; rfl, Below.refl _ _⟩

set_option maxRecDepth 100000 in
set_option maxHeartbeats 1000000 in
theorem refAdd_calls (a b : Num) (w : World) : Calls Tryd.prog 12 #[numV a, numV b] w (Leaves (numC (addP a b)) w) := by
  obtain ⟨q, hq⟩ : ∃ q, odd2 a b = q := ⟨_, rfl⟩
  have HQ := Lib.hid hq
  obtain ⟨na, va⟩ := a
  obtain ⟨nb, vb⟩ := b
  unfold numV
  clear hq
  go_enter Tryd.func12, Tryd.ntmps12
  go_wp2_with fail
  refine (refOdd_calls ⟨na, va⟩ _).mono ?_
  rintro e w0 ⟨rfl, hb0⟩
  have HB0 : Hid (Below w.heap.size w w0) := Lib.hid ((((Below.refl _ w).alloc (Nat.le_refl _) _).alloc (by simp) _).alloc (by simp; omega) _ |>.trans (hb0.mono (by simp; omega)))
  have HR0 : Hid (Own2 (w.heap.size + 1 + 1) (.bool false) (.int .i64 0) w0) := Lib.hid (Own2.below ⟨by go_simp, by go_simp, by go_simp, by go_simp⟩ hb0)
  have HX0 : Hid (Own2 w.heap.size (.bool na) (.int .i64 va) w0) := Lib.hid (Own2.below ⟨by go_simp, by go_simp, by go_simp, by go_simp⟩ hb0)
  have HY0 : Hid (Own2 (w.heap.size + 1) (.bool nb) (.int .i64 vb) w0) := Lib.hid (Own2.below ⟨by go_simp, by go_simp, by go_simp, by go_simp⟩ hb0)
  clear hb0
  obtain ⟨oa, hoa⟩ : ∃ x, oddN ⟨na, va⟩ = x := ⟨_, rfl⟩
  rw [hoa]
  have HOA := Lib.hid hoa
  clear hoa
  cases oa with
  | true =>
    have hqt : q = true := by rw [← HQ.out]; exact odd_left HOA.out
    subst hqt
    have hres : Hid (addP ⟨na, va⟩ ⟨nb, vb⟩ = (nanN, 0)) := Lib.hid (by unfold addP; rw [HQ.out]; rfl)
    go_wp2_with fail
    refine (refNone_calls _).mono ?_
    rintro e w9 ⟨rfl, hb9⟩
    have HB9 := Lib.hid (below_then HB0.out hb9)
    obtain ⟨c0, c1, f0, f1⟩ := HR0.out.below hb9
    clear hb9
    unfold numV nanN
    go_wp2
    rw [hres.out]
    exact bodyPost_ret (v := numC (nanN, 0)) (by simp [results, Tryd.results12, go_sem, numC, numV, nanN, c0, c1]) rfl ⟨rfl, (HB9.out.setCell (by simp; omega) _).setCell (by simp; omega) _⟩
  | false =>
    obtain ⟨y0, y1, _, _⟩ := HY0.out
    go_wp2_with fail
    refine (refOdd_calls ⟨nb, vb⟩ _).mono ?_
    rintro e w1 ⟨rfl, hb⟩
    have hqo : oddN ⟨nb, vb⟩ = q := by rw [← HQ.out]; unfold odd2; rw [HOA.out]; rfl
    rw [hqo]
    have HB := Lib.hid (below_then HB0.out hb)
    have HR := Lib.hid (HR0.out.below hb)
    have HX := Lib.hid (HX0.out.below hb)
    have HY := Lib.hid (HY0.out.below hb)
    clear hb hqo y0 y1
    cases q with
    | true =>
      have hres : Hid (addP ⟨na, va⟩ ⟨nb, vb⟩ = (nanN, 0)) := Lib.hid (by unfold addP; rw [HQ.out]; rfl)
      go_wp2_with fail
      refine (refNone_calls _).mono ?_
      rintro e w9 ⟨rfl, hb9⟩
      have HB9 := Lib.hid (below_then HB.out hb9)
      obtain ⟨c0, c1, f0, f1⟩ := HR.out.below hb9
      clear hb9
      unfold numV nanN
      go_wp2
      rw [hres.out]
      exact bodyPost_ret (v := numC (nanN, 0)) (by simp [results, Tryd.results12, go_sem, numC, numV, nanN, c0, c1]) rfl ⟨rfl, (HB9.out.setCell (by simp; omega) _).setCell (by simp; omega) _⟩
    | false =>
      obtain ⟨k1, k2⟩ := odd2_false.1 HQ.out
      have g1 := (oddN_false.1 k1).2
      have g2 := (oddN_false.1 k2).2
      obtain ⟨g1, g1'⟩ := g1
      obtain ⟨g2, g2'⟩ := g2
      simp only at g1 g1' g2 g2'
      clear k1 k2
      have hres : Hid (addP ⟨na, va⟩ ⟨nb, vb⟩ = fitP (va + vb)) := Lib.hid (by unfold addP; rw [HQ.out]; rfl)
      obtain ⟨x0, x1, _, _⟩ := HX.out
      obtain ⟨y0, y1, _, _⟩ := HY.out
      go_wp2_with fail
      refine (refFit_calls (va + vb) _).mono ?_
      rintro e w9 ⟨rfl, hb9⟩
      have HB9 := Lib.hid (below_then HB.out hb9)
      obtain ⟨c0, c1, f0, f1⟩ := HR.out.below hb9
      obtain ⟨⟨⟨n, v⟩, c⟩, hd⟩ : ∃ d, fitP (va + vb) = d := ⟨_, rfl⟩
      rw [hd]
      have HD := Lib.hid (hres.out.trans hd)
      clear hb9 hd hres x0 x1 y0 y1
      unfold numC numV
      go_wp2
      rw [HD.out]
      exact bodyPost_ret (v := numC (⟨n, v⟩, c)) (by simp [results, Tryd.results12, go_sem, numC, numV, c0, c1]) rfl ⟨rfl, (HB9.out.setCell (by simp; omega) _).setCell (by simp; omega) _⟩

set_option maxRecDepth 100000 in
set_option maxHeartbeats 1000000 in
theorem refSub_calls (a b : Num) (w : World) : Calls Tryd.prog 14 #[numV a, numV b] w (Leaves (numC (subP a b)) w) := by
  obtain ⟨q, hq⟩ : ∃ q, odd2 a b = q := ⟨_, rfl⟩
  have HQ := Lib.hid hq
  obtain ⟨na, va⟩ := a
  obtain ⟨nb, vb⟩ := b
  unfold numV
  clear hq
  go_enter Tryd.func14, Tryd.ntmps14
  go_wp2_with fail
  refine (refOdd_calls ⟨na, va⟩ _).mono ?_
  rintro e w0 ⟨rfl, hb0⟩
  have HB0 : Hid (Below w.heap.size w w0) := Lib.hid ((((Below.refl _ w).alloc (Nat.le_refl _) _).alloc (by simp) _).alloc (by simp; omega) _ |>.trans (hb0.mono (by simp; omega)))
  have HR0 : Hid (Own2 (w.heap.size + 1 + 1) (.bool false) (.int .i64 0) w0) := Lib.hid (Own2.below ⟨by go_simp, by go_simp, by go_simp, by go_simp⟩ hb0)
  have HX0 : Hid (Own2 w.heap.size (.bool na) (.int .i64 va) w0) := Lib.hid (Own2.below ⟨by go_simp, by go_simp, by go_simp, by go_simp⟩ hb0)
  have HY0 : Hid (Own2 (w.heap.size + 1) (.bool nb) (.int .i64 vb) w0) := Lib.hid (Own2.below ⟨by go_simp, by go_simp, by go_simp, by go_simp⟩ hb0)
  clear hb0
  obtain ⟨oa, hoa⟩ : ∃ x, oddN ⟨na, va⟩ = x := ⟨_, rfl⟩
  rw [hoa]
  have HOA := Lib.hid hoa
  clear hoa
  cases oa with
  | true =>
    have hqt : q = true := by rw [← HQ.out]; exact odd_left HOA.out
    subst hqt
    have hres : Hid (subP ⟨na, va⟩ ⟨nb, vb⟩ = (nanN, 0)) := Lib.hid (by unfold subP; rw [HQ.out]; rfl)
    go_wp2_with fail
    refine (refNone_calls _).mono ?_
    rintro e w9 ⟨rfl, hb9⟩
    have HB9 := Lib.hid (below_then HB0.out hb9)
    obtain ⟨c0, c1, f0, f1⟩ := HR0.out.below hb9
    clear hb9
    unfold numV nanN
    go_wp2
    rw [hres.out]
    exact bodyPost_ret (v := numC (nanN, 0)) (by simp [results, Tryd.results14, go_sem, numC, numV, nanN, c0, c1]) rfl ⟨rfl, (HB9.out.setCell (by simp; omega) _).setCell (by simp; omega) _⟩
  | false =>
    obtain ⟨y0, y1, _, _⟩ := HY0.out
    go_wp2_with fail
    refine (refOdd_calls ⟨nb, vb⟩ _).mono ?_
    rintro e w1 ⟨rfl, hb⟩
    have hqo : oddN ⟨nb, vb⟩ = q := by rw [← HQ.out]; unfold odd2; rw [HOA.out]; rfl
    rw [hqo]
    have HB := Lib.hid (below_then HB0.out hb)
    have HR := Lib.hid (HR0.out.below hb)
    have HX := Lib.hid (HX0.out.below hb)
    have HY := Lib.hid (HY0.out.below hb)
    clear hb hqo y0 y1
    cases q with
    | true =>
      have hres : Hid (subP ⟨na, va⟩ ⟨nb, vb⟩ = (nanN, 0)) := Lib.hid (by unfold subP; rw [HQ.out]; rfl)
      go_wp2_with fail
      refine (refNone_calls _).mono ?_
      rintro e w9 ⟨rfl, hb9⟩
      have HB9 := Lib.hid (below_then HB.out hb9)
      obtain ⟨c0, c1, f0, f1⟩ := HR.out.below hb9
      clear hb9
      unfold numV nanN
      go_wp2
      rw [hres.out]
      exact bodyPost_ret (v := numC (nanN, 0)) (by simp [results, Tryd.results14, go_sem, numC, numV, nanN, c0, c1]) rfl ⟨rfl, (HB9.out.setCell (by simp; omega) _).setCell (by simp; omega) _⟩
    | false =>
      obtain ⟨k1, k2⟩ := odd2_false.1 HQ.out
      have g1 := (oddN_false.1 k1).2
      have g2 := (oddN_false.1 k2).2
      obtain ⟨g1, g1'⟩ := g1
      obtain ⟨g2, g2'⟩ := g2
      simp only at g1 g1' g2 g2'
      clear k1 k2
      have hres : Hid (subP ⟨na, va⟩ ⟨nb, vb⟩ = fitP (va - vb)) := Lib.hid (by unfold subP; rw [HQ.out]; rfl)
      obtain ⟨x0, x1, _, _⟩ := HX.out
      obtain ⟨y0, y1, _, _⟩ := HY.out
      go_wp2_with fail
      refine (refFit_calls (va - vb) _).mono ?_
      rintro e w9 ⟨rfl, hb9⟩
      have HB9 := Lib.hid (below_then HB.out hb9)
      obtain ⟨c0, c1, f0, f1⟩ := HR.out.below hb9
      obtain ⟨⟨⟨n, v⟩, c⟩, hd⟩ : ∃ d, fitP (va - vb) = d := ⟨_, rfl⟩
      rw [hd]
      have HD := Lib.hid (hres.out.trans hd)
      clear hb9 hd hres x0 x1 y0 y1
      unfold numC numV
      go_wp2
      rw [HD.out]
      exact bodyPost_ret (v := numC (⟨n, v⟩, c)) (by simp [results, Tryd.results14, go_sem, numC, numV, c0, c1]) rfl ⟨rfl, (HB9.out.setCell (by simp; omega) _).setCell (by simp; omega) _⟩

end Go.Proofs.YteddnomneeonhaaDoor
