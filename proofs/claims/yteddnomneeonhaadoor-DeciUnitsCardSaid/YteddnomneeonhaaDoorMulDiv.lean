/-
  The program's Mul, Div, Mod: each tells what plain numbers say. No condition.
-/
import Derived.Test.YteddnomneeonhaaDoorRatio
import Derived.Test.YteddnomneeonhaaDoorAdd
namespace Go.Proofs.YteddnomneeonhaaDoor
open Go.RowKit Go.Lib

theorem tmod_fits {a b : Int} (h0 : -1000000000000000 ≤ a) (h1 : a ≤ 1000000000000000) : -1000000000000000 ≤ a.tmod b ∧ a.tmod b ≤ 1000000000000000 := by
  have h : (a.tmod b).natAbs ≤ a.natAbs := by
    rw [Int.natAbs_tmod]
    exact Nat.mod_le _ _
  omega

set_option maxRecDepth 100000 in
set_option maxHeartbeats 1000000 in
theorem mul_calls (a b : Num) (w : World) : Calls Tryd.prog 15 #[numV a, numV b] w (Leaves (numC (mulP a b)) w) := by
  obtain ⟨q, hq⟩ : ∃ q, odd2 a b = q := ⟨_, rfl⟩
  have HQ := Lib.hid hq
  obtain ⟨na, va⟩ := a
  obtain ⟨nb, vb⟩ := b
  unfold numV
  clear hq
  go_enter Tryd.func15, Tryd.ntmps15
  go_wp2_with fail
  refine (known2 ⟨na, va⟩ ⟨nb, vb⟩ (w.heap.size + 1 + 1 + 1) 2 _ (numsAt_two (by go_simp) (by go_simp) (by go_simp) (by go_simp))).mono ?_
  rintro e w1 ⟨rfl, hb⟩
  rw [HQ.out]
  have HB : Hid (Below w.heap.size w w1) := Lib.hid (((((Below.refl _ w).alloc (Nat.le_refl _) _).alloc (by simp) _).alloc (by simp; omega) _).alloc (by simp; omega) _ |>.trans (hb.mono (by simp; omega)))
  have HR : Hid (Own2 (w.heap.size + 1 + 1) (.bool false) (.int .i64 0) w1) := Lib.hid (Own2.below ⟨by go_simp, by go_simp, by go_simp, by go_simp⟩ hb)
  have HX : Hid (Own2 w.heap.size (.bool na) (.int .i64 va) w1) := Lib.hid (Own2.below ⟨by go_simp, by go_simp, by go_simp, by go_simp⟩ hb)
  have HY : Hid (Own2 (w.heap.size + 1) (.bool nb) (.int .i64 vb) w1) := Lib.hid (Own2.below ⟨by go_simp, by go_simp, by go_simp, by go_simp⟩ hb)
  clear hb
  cases q with
  | true =>
    have hres : Hid (mulP ⟨na, va⟩ ⟨nb, vb⟩ = (nanN, 0)) := Lib.hid (by unfold mulP; rw [HQ.out]; rfl)
    go_wp2_with fail
    refine (nan_calls _).mono ?_
    rintro e w9 ⟨rfl, hb9⟩
    have HB9 := Lib.hid (below_then HB.out hb9)
    obtain ⟨c0, c1, f0, f1⟩ := HR.out.below hb9
    clear hb9
    unfold numV nanN
    go_wp2
    rw [hres.out]
    exact bodyPost_ret (v := numC (nanN, 0)) (by simp [results, Tryd.results15, go_sem, numC, numV, nanN, c0, c1]) rfl ⟨rfl, (HB9.out.setCell (by simp; omega) _).setCell (by simp; omega) _⟩
  | false =>
    obtain ⟨k1, k2⟩ := odd2_false.1 HQ.out
    have g1 := (oddN_false.1 k1).2
    have g2 := (oddN_false.1 k2).2
    obtain ⟨g1, g1'⟩ := g1
    obtain ⟨g2, g2'⟩ := g2
    simp only at g1 g1' g2 g2'
    clear k1 k2
    have hres : Hid (mulP ⟨na, va⟩ ⟨nb, vb⟩ = ratioP va vb 1000000) := Lib.hid (by unfold mulP; rw [HQ.out]; rfl)
    obtain ⟨x0, x1, _, _⟩ := HX.out
    obtain ⟨y0, y1, _, _⟩ := HY.out
    go_wp2_with fail
    refine (ratio_calls va vb 1000000 _ (by omega) (by omega) (by omega) (by omega) (by omega) (by omega) (by omega)).mono ?_
    rintro e w9 ⟨rfl, hb9⟩
    have HB9 := Lib.hid (below_then HB.out hb9)
    obtain ⟨c0, c1, f0, f1⟩ := HR.out.below hb9
    obtain ⟨⟨⟨n, v⟩, c⟩, hd⟩ : ∃ d, ratioP va vb 1000000 = d := ⟨_, rfl⟩
    rw [hd]
    have HD := Lib.hid (hres.out.trans hd)
    clear hb9 hd hres x0 x1 y0 y1
    unfold numC numV
    go_wp2
    rw [HD.out]
    exact bodyPost_ret (v := numC (⟨n, v⟩, c)) (by simp [results, Tryd.results15, go_sem, numC, numV, c0, c1]) rfl ⟨rfl, (HB9.out.setCell (by simp; omega) _).setCell (by simp; omega) _⟩

set_option maxRecDepth 100000 in
set_option maxHeartbeats 1000000 in
theorem divN_calls (a b : Num) (w : World) : Calls Tryd.prog 17 #[numV a, numV b] w (Leaves (numC (divP a b)) w) := by
  obtain ⟨q, hq⟩ : ∃ q, odd2 a b = q := ⟨_, rfl⟩
  have HQ := Lib.hid hq
  obtain ⟨na, va⟩ := a
  obtain ⟨nb, vb⟩ := b
  unfold numV
  clear hq
  go_enter Tryd.func17, Tryd.ntmps17
  go_wp2_with fail
  refine (known2 ⟨na, va⟩ ⟨nb, vb⟩ (w.heap.size + 1 + 1 + 1) 2 _ (numsAt_two (by go_simp) (by go_simp) (by go_simp) (by go_simp))).mono ?_
  rintro e w1 ⟨rfl, hb⟩
  rw [HQ.out]
  have HB : Hid (Below w.heap.size w w1) := Lib.hid (((((Below.refl _ w).alloc (Nat.le_refl _) _).alloc (by simp) _).alloc (by simp; omega) _).alloc (by simp; omega) _ |>.trans (hb.mono (by simp; omega)))
  have HR : Hid (Own2 (w.heap.size + 1 + 1) (.bool false) (.int .i64 0) w1) := Lib.hid (Own2.below ⟨by go_simp, by go_simp, by go_simp, by go_simp⟩ hb)
  have HX : Hid (Own2 w.heap.size (.bool na) (.int .i64 va) w1) := Lib.hid (Own2.below ⟨by go_simp, by go_simp, by go_simp, by go_simp⟩ hb)
  have HY : Hid (Own2 (w.heap.size + 1) (.bool nb) (.int .i64 vb) w1) := Lib.hid (Own2.below ⟨by go_simp, by go_simp, by go_simp, by go_simp⟩ hb)
  clear hb
  cases q with
  | true =>
    have hres : Hid (divP ⟨na, va⟩ ⟨nb, vb⟩ = (nanN, 0)) := Lib.hid (by unfold divP; rw [HQ.out]; rfl)
    go_wp2_with fail
    refine (nan_calls _).mono ?_
    rintro e w9 ⟨rfl, hb9⟩
    have HB9 := Lib.hid (below_then HB.out hb9)
    obtain ⟨c0, c1, f0, f1⟩ := HR.out.below hb9
    clear hb9
    unfold numV nanN
    go_wp2
    rw [hres.out]
    exact bodyPost_ret (v := numC (nanN, 0)) (by simp [results, Tryd.results17, go_sem, numC, numV, nanN, c0, c1]) rfl ⟨rfl, (HB9.out.setCell (by simp; omega) _).setCell (by simp; omega) _⟩
  | false =>
    obtain ⟨k1, k2⟩ := odd2_false.1 HQ.out
    have g1 := (oddN_false.1 k1).2
    have g2 := (oddN_false.1 k2).2
    obtain ⟨g1, g1'⟩ := g1
    obtain ⟨g2, g2'⟩ := g2
    simp only at g1 g1' g2 g2'
    clear k1 k2
    by_cases hz : vb = 0
    · skip
      have hres : Hid (divP ⟨na, va⟩ ⟨nb, vb⟩ = (zeroN, 67)) := Lib.hid (by unfold divP; rw [HQ.out, if_neg (by decide)]; exact if_pos hz)
      obtain ⟨y0, y1, _, _⟩ := HY.out
      obtain ⟨c0, c1, f0, f1⟩ := HR.out
      subst hz
      go_wp2
      rw [hres.out]
      exact bodyPost_ret (v := numC (zeroN, 67)) (by simp [results, Tryd.results17, go_sem, numC, numV, zeroN, c0, c1]) rfl ⟨rfl, (HB.out.setCell (by simp; omega) _).setCell (by simp; omega) _⟩
    · have hres : Hid (divP ⟨na, va⟩ ⟨nb, vb⟩ = ratioP va 1000000 vb) := Lib.hid (by unfold divP; rw [HQ.out, if_neg (by decide)]; exact if_neg hz)
      have hzb : (vb == 0) = false := by simpa using hz
      have HZ := Lib.hid hz
      obtain ⟨x0, x1, _, _⟩ := HX.out
      obtain ⟨y0, y1, _, _⟩ := HY.out
      clear hz
      go_wp2_with fail
      refine (ratio_calls va 1000000 vb _ (by omega) (by omega) (by omega) (by omega) (by omega) (by omega) HZ.out).mono ?_
      rintro e w9 ⟨rfl, hb9⟩
      have HB9 := Lib.hid (below_then HB.out hb9)
      obtain ⟨c0, c1, f0, f1⟩ := HR.out.below hb9
      obtain ⟨⟨⟨n, v⟩, c⟩, hd⟩ : ∃ d, ratioP va 1000000 vb = d := ⟨_, rfl⟩
      rw [hd]
      have HD := Lib.hid (hres.out.trans hd)
      clear hb9 hd hres x0 x1 y0 y1
      unfold numC numV
      go_wp2
      rw [HD.out]
      exact bodyPost_ret (v := numC (⟨n, v⟩, c)) (by simp [results, Tryd.results17, go_sem, numC, numV, c0, c1]) rfl ⟨rfl, (HB9.out.setCell (by simp; omega) _).setCell (by simp; omega) _⟩

set_option maxRecDepth 100000 in
set_option maxHeartbeats 1000000 in
theorem modN_calls (a b : Num) (w : World) : Calls Tryd.prog 19 #[numV a, numV b] w (Leaves (numC (modP a b)) w) := by
  obtain ⟨q, hq⟩ : ∃ q, odd2 a b = q := ⟨_, rfl⟩
  have HQ := Lib.hid hq
  obtain ⟨na, va⟩ := a
  obtain ⟨nb, vb⟩ := b
  unfold numV
  clear hq
  go_enter Tryd.func19, Tryd.ntmps19
  go_wp2_with fail
  refine (known2 ⟨na, va⟩ ⟨nb, vb⟩ (w.heap.size + 1 + 1 + 1) 2 _ (numsAt_two (by go_simp) (by go_simp) (by go_simp) (by go_simp))).mono ?_
  rintro e w1 ⟨rfl, hb⟩
  rw [HQ.out]
  have HB : Hid (Below w.heap.size w w1) := Lib.hid (((((Below.refl _ w).alloc (Nat.le_refl _) _).alloc (by simp) _).alloc (by simp; omega) _).alloc (by simp; omega) _ |>.trans (hb.mono (by simp; omega)))
  have HR : Hid (Own2 (w.heap.size + 1 + 1) (.bool false) (.int .i64 0) w1) := Lib.hid (Own2.below ⟨by go_simp, by go_simp, by go_simp, by go_simp⟩ hb)
  have HX : Hid (Own2 w.heap.size (.bool na) (.int .i64 va) w1) := Lib.hid (Own2.below ⟨by go_simp, by go_simp, by go_simp, by go_simp⟩ hb)
  have HY : Hid (Own2 (w.heap.size + 1) (.bool nb) (.int .i64 vb) w1) := Lib.hid (Own2.below ⟨by go_simp, by go_simp, by go_simp, by go_simp⟩ hb)
  clear hb
  cases q with
  | true =>
    have hres : Hid (modP ⟨na, va⟩ ⟨nb, vb⟩ = (nanN, 0)) := Lib.hid (by unfold modP; rw [HQ.out]; rfl)
    go_wp2_with fail
    refine (nan_calls _).mono ?_
    rintro e w9 ⟨rfl, hb9⟩
    have HB9 := Lib.hid (below_then HB.out hb9)
    obtain ⟨c0, c1, f0, f1⟩ := HR.out.below hb9
    clear hb9
    unfold numV nanN
    go_wp2
    rw [hres.out]
    exact bodyPost_ret (v := numC (nanN, 0)) (by simp [results, Tryd.results19, go_sem, numC, numV, nanN, c0, c1]) rfl ⟨rfl, (HB9.out.setCell (by simp; omega) _).setCell (by simp; omega) _⟩
  | false =>
    obtain ⟨k1, k2⟩ := odd2_false.1 HQ.out
    have g1 := (oddN_false.1 k1).2
    have g2 := (oddN_false.1 k2).2
    obtain ⟨g1, g1'⟩ := g1
    obtain ⟨g2, g2'⟩ := g2
    simp only at g1 g1' g2 g2'
    clear k1 k2
    by_cases hz : vb = 0
    · skip
      have hres : Hid (modP ⟨na, va⟩ ⟨nb, vb⟩ = (zeroN, 67)) := Lib.hid (by unfold modP; rw [HQ.out, if_neg (by decide)]; exact if_pos hz)
      obtain ⟨y0, y1, _, _⟩ := HY.out
      obtain ⟨c0, c1, f0, f1⟩ := HR.out
      subst hz
      go_wp2
      rw [hres.out]
      exact bodyPost_ret (v := numC (zeroN, 67)) (by simp [results, Tryd.results19, go_sem, numC, numV, zeroN, c0, c1]) rfl ⟨rfl, (HB.out.setCell (by simp; omega) _).setCell (by simp; omega) _⟩
    · have htb : -1000000000000000 ≤ va.tmod vb ∧ va.tmod vb ≤ 1000000000000000 := tmod_fits g1 g1'
      obtain ⟨t, ht⟩ : ∃ t, va.tmod vb = t := ⟨_, rfl⟩
      rw [ht] at htb
      have hres : Hid (modP ⟨na, va⟩ ⟨nb, vb⟩ = fitP t) := Lib.hid (by unfold modP; rw [HQ.out, if_neg (by decide), fit_ok (outB_false.2 htb), ← ht]; exact if_neg hz)
      have hzb : (vb == 0) = false := by simpa using hz
      have hwrap : IntKind.i64.wrap (va.tmod vb) = t := by rw [ht, IntKind.wrap_i64]; omega
      obtain ⟨x0, x1, _, _⟩ := HX.out
      obtain ⟨y0, y1, _, _⟩ := HY.out
      go_wp2_with fail
      refine (made_calls t _).mono ?_
      rintro e w9 ⟨rfl, hb9⟩
      have HB9 := Lib.hid (below_then HB.out hb9)
      obtain ⟨c0, c1, f0, f1⟩ := HR.out.below hb9
      obtain ⟨⟨⟨n, v⟩, c⟩, hd⟩ : ∃ d, fitP t = d := ⟨_, rfl⟩
      rw [hd]
      have HD := Lib.hid (hres.out.trans hd)
      clear hb9 hd hres x0 x1 y0 y1 ht
      unfold numC numV
      go_wp2
      rw [HD.out]
      exact bodyPost_ret (v := numC (⟨n, v⟩, c)) (by simp [results, Tryd.results19, go_sem, numC, numV, c0, c1]) rfl ⟨rfl, (HB9.out.setCell (by simp; omega) _).setCell (by simp; omega) _⟩

end Go.Proofs.YteddnomneeonhaaDoor
