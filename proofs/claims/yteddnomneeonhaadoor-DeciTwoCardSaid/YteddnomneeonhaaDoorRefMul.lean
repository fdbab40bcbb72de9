/-
  The reference's Mul, Mod, Div: each tells what plain numbers say: the product in whole parts and places, the rest by a product taken away, the quotient digit by digit. No condition.
-/
import Derived.Test.YteddnomneeonhaaDoorRefNum
namespace Go.Proofs.YteddnomneeonhaaDoor
open Go.RowKit Go.Lib

/-- What the reference's Mul reckons. -/
theorem mul_plan (a b x y : Int) (hx : (a.natAbs : Int) = x) (hy : (b.natAbs : Int) = y) (a1 : x ≤ 1000000000000000) (b1 : y ≤ 1000000000000000) :
    ∃ W f Y g p1 p2 p3 M : Int, x / 1000000 = W ∧ x % 1000000 = f ∧ y / 1000000 = Y ∧ y % 1000000 = g ∧ 0 ≤ W ∧ W ≤ 1000000000 ∧ 0 ≤ f ∧ f < 1000000 ∧ 0 ≤ Y ∧ Y ≤ 1000000000 ∧ 0 ≤ g ∧ g < 1000000 ∧
      W * y = p1 ∧ f * Y = p2 ∧ f * g = p3 ∧ 0 ≤ p1 ∧ 0 ≤ p2 ∧ p2 ≤ 1000000000000000 ∧ 0 ≤ p3 ∧ p3 ≤ 1000000000000 ∧ ((a.natAbs * b.natAbs / 1000000 : Nat) : Int) = M ∧ p1 + p2 + p3 / 1000000 = M ∧
      (0 < W → 1000000000000000 / W < y → 1000000000000000 < M) ∧ ((0 < W → ¬ 1000000000000000 / W < y) → p1 ≤ 1000000000000000) := by
  subst hx hy
  generalize a.natAbs = x at *
  generalize b.natAbs = y at *
  have e := mul_parts x y
  have p2b : x % 1000000 * (y / 1000000) ≤ 1000000 * 1000000000 := Nat.mul_le_mul (by omega) (by omega)
  have p3b : x % 1000000 * (y % 1000000) ≤ 1000000 * 1000000 := Nat.mul_le_mul (by omega) (by omega)
  refine ⟨_, _, _, _, _, _, _, _, rfl, rfl, rfl, rfl, by omega, by omega, by omega, by omega, by omega, by omega, by omega, by omega, rfl, rfl, rfl, ?_, ?_, ?_, ?_, ?_, rfl, ?_, ?_, ?_⟩
  · exact Int.mul_nonneg (by omega) (by omega)
  · exact Int.mul_nonneg (by omega) (by omega)
  · have : (x : Int) % 1000000 * ((y : Int) / 1000000) = ((x % 1000000 * (y / 1000000) : Nat) : Int) := by simp [Int.natCast_ediv]
    omega
  · exact Int.mul_nonneg (by omega) (by omega)
  · have : (x : Int) % 1000000 * ((y : Int) % 1000000) = ((x % 1000000 * (y % 1000000) : Nat) : Int) := by simp
    omega
  · rw [e]
    simp [Int.natCast_ediv]
  · intro h1 h2
    have h3 : 0 < x / 1000000 := by omega
    have h4 : 1000000000000000 / (x / 1000000) < y := by
      have : (((1000000000000000 / (x / 1000000) : Nat)) : Int) = 1000000000000000 / ((x : Int) / 1000000) := by simp [Int.natCast_ediv]
      omega
    have := mul_guard h3 h4
    omega
  · intro h1
    have h4 : x / 1000000 * y ≤ 1000000000000000 := mul_guard' fun ⟨h2, h3⟩ => h1 (by omega) (by
      have : (((1000000000000000 / (x / 1000000) : Nat)) : Int) = 1000000000000000 / ((x : Int) / 1000000) := by simp [Int.natCast_ediv]
      omega)
    have : (x : Int) / 1000000 * (y : Int) = ((x / 1000000 * y : Nat) : Int) := by simp [Int.natCast_ediv]
    omega

theorem ratio_out {a b c : Int} {q : Int} (h : ((a.natAbs * b.natAbs / c.natAbs : Nat) : Int) = q) (hq : 1000000000000000 < q) : ratioP a b c = (zeroN, 66) := by
  unfold ratioP
  rw [fit_out]
  rw [outB_sgnd]
  exact decide_eq_true (by omega)
theorem sgnd_int {n : Nat} {q : Int} (h : (n : Int) = q) (g : Bool) : sgnd g n = if g = true then -q else q := by
  unfold sgnd
  rw [h]

theorem refMod_plan (a b x y : Int) (hx : (a.natAbs : Int) = x) (hy : (b.natAbs : Int) = y) (_hb : b ≠ 0) : ∃ t p r : Int, x / y = t ∧ t * y = p ∧ x - p = r ∧ 0 ≤ t ∧ t ≤ x ∧ 0 ≤ r ∧ r ≤ x ∧ 0 ≤ p ∧ p ≤ x ∧ a.tmod b = if a < 0 then -r else r := by
  subst hx hy
  have hd := Nat.div_add_mod a.natAbs b.natAbs
  have hm : a.natAbs % b.natAbs ≤ a.natAbs := Nat.mod_le _ _
  have hq : a.natAbs / b.natAbs ≤ a.natAbs := Nat.div_le_self _ _
  have hc : ((a.natAbs : Int)) / (b.natAbs : Int) * (b.natAbs : Int) = ((b.natAbs * (a.natAbs / b.natAbs) : Nat) : Int) := by
    rw [← Int.natCast_ediv, ← Int.natCast_mul, Nat.mul_comm]
  have hr : (a.natAbs : Int) - ((a.natAbs : Int)) / (b.natAbs : Int) * (b.natAbs : Int) = ((a.natAbs % b.natAbs : Nat) : Int) := by
    rw [hc]
    omega
  refine ⟨_, _, _, rfl, rfl, rfl, ?_, ?_, ?_, ?_, ?_, ?_, ?_⟩
  · rw [← Int.natCast_ediv]; exact Int.natCast_nonneg _
  · rw [← Int.natCast_ediv]; exact Int.ofNat_le.2 hq
  · rw [hr]; exact Int.natCast_nonneg _
  · rw [hr]; exact Int.ofNat_le.2 hm
  · rw [hc]; exact Int.natCast_nonneg _
  · rw [hc]; omega
  · rw [hr]
    have e : (a.tmod b).natAbs = a.natAbs % b.natAbs := Int.natAbs_tmod a b
    split
    · rename_i h
      have : a.tmod b ≤ 0 := by
        have := Int.tmod_nonneg b (show 0 ≤ -a by omega)
        rw [Int.neg_tmod] at this
        omega
      omega
    · rename_i h
      have := Int.tmod_nonneg b (show 0 ≤ a by omega)
      omega

set_option maxRecDepth 100000 in
set_option maxHeartbeats 1000000 in
theorem refMul_calls (a b : Num) (w : World) : Calls Tryd.prog 16 #[numV a, numV b] w (Leaves (numC (mulP a b)) w) := by
  obtain ⟨q, hq⟩ : ∃ q, odd2 a b = q := ⟨_, rfl⟩
  have HQ := Lib.hid hq
  obtain ⟨na, va⟩ := a
  obtain ⟨nb, vb⟩ := b
  unfold numV
  clear hq
  go_enter Tryd.func16, Tryd.ntmps16
  go_wp2_with fail
  refine (refOdd_calls ⟨na, va⟩ _).mono ?_
  rintro e w0 ⟨rfl, hb0⟩
  have HB0 : Hid (Below w.heap.size w w0) := Lib.hid ((((Below.refl _ w).alloc (Nat.le_refl _) _).alloc (by simp) _).alloc (by simp; omega) _ |>.trans (hb0.mono (by simp; omega)))
  have HR0 : Hid (Own2 (w.heap.size + 1 + 1) (.bool false) (.int .i64 0) w0) := Lib.hid (Own2.below ⟨by go_simp, by go_simp, by go_simp, by go_simp⟩ hb0)
  have HX0 : Hid (Own2 w.heap.size (.bool na) (.int .i64 va) w0) := Lib.hid (Own2.below ⟨by go_simp, by go_simp, by go_simp, by go_simp⟩ hb0)
  have HY0 : Hid (Own2 (w.heap.size + 1) (.bool nb) (.int .i64 vb) w0) := Lib.hid (Own2.below ⟨by go_simp, by go_simp, by go_simp, by go_simp⟩ hb0)
  clear hb0
  obtain ⟨oa, hoa⟩ : ∃ x, oddN ⟨na, va⟩ = x := ⟨_, rfl⟩
  rw [hoa]
  have HOA := Lib.hid hoa
  clear hoa
  cases oa with
  | true =>
    have hqt : q = true := by rw [← HQ.out]; exact odd_left HOA.out
    subst hqt
    have hres : Hid (mulP ⟨na, va⟩ ⟨nb, vb⟩ = (nanN, 0)) := Lib.hid (by unfold mulP; rw [HQ.out]; rfl)
    go_wp2_with fail
    refine (refNone_calls _).mono ?_
    rintro e w9 ⟨rfl, hb9⟩
    have HB9 := Lib.hid (below_then HB0.out hb9)
    obtain ⟨c0, c1, f0, f1⟩ := HR0.out.below hb9
    clear hb9
    unfold numV nanN
    go_wp2
    rw [hres.out]
    exact bodyPost_ret (v := numC (nanN, 0)) (by simp [results, Tryd.results16, go_sem, numC, numV, nanN, c0, c1]) rfl ⟨rfl, (HB9.out.setCell (by simp; omega) _).setCell (by simp; omega) _⟩
  | false =>
    obtain ⟨y0, y1, _, _⟩ := HY0.out
    go_wp2_with fail
    refine (refOdd_calls ⟨nb, vb⟩ _).mono ?_
    rintro e w1 ⟨rfl, hb⟩
    have hqo : oddN ⟨nb, vb⟩ = q := by rw [← HQ.out]; unfold odd2; rw [HOA.out]; rfl
    rw [hqo]
    have HB := Lib.hid (below_then HB0.out hb)
    have HR := Lib.hid (HR0.out.below hb)
    have HX := Lib.hid (HX0.out.below hb)
    have HY := Lib.hid (HY0.out.below hb)
    clear hb hqo y0 y1
    cases q with
    | true =>
      have hres : Hid (mulP ⟨na, va⟩ ⟨nb, vb⟩ = (nanN, 0)) := Lib.hid (by unfold mulP; rw [HQ.out]; rfl)
      go_wp2_with fail
      refine (refNone_calls _).mono ?_
      rintro e w9 ⟨rfl, hb9⟩
      have HB9 := Lib.hid (below_then HB.out hb9)
      obtain ⟨c0, c1, f0, f1⟩ := HR.out.below hb9
      clear hb9
      unfold numV nanN
      go_wp2
      rw [hres.out]
      exact bodyPost_ret (v := numC (nanN, 0)) (by simp [results, Tryd.results16, go_sem, numC, numV, nanN, c0, c1]) rfl ⟨rfl, (HB9.out.setCell (by simp; omega) _).setCell (by simp; omega) _⟩
    | false =>
      obtain ⟨k1, k2⟩ := odd2_false.1 HQ.out
      have g1 := (oddN_false.1 k1).2
      have g2 := (oddN_false.1 k2).2
      obtain ⟨g1, g1'⟩ := g1
      obtain ⟨g2, g2'⟩ := g2
      simp only at g1 g1' g2 g2'
      clear k1 k2
      obtain ⟨x, hx⟩ : ∃ x : Int, (va.natAbs : Int) = x := ⟨_, rfl⟩
      obtain ⟨y, hy⟩ : ∃ y : Int, (vb.natAbs : Int) = y := ⟨_, rfl⟩
      have cX : Hid (∀ W, Calls Tryd.prog 45 #[.int .i64 va] W (Leaves (.int .i64 x) W)) := Lib.hid fun W => by rw [← hx]; exact refAbs_calls va W (by omega) (by omega)
      have cY : Hid (∀ W, Calls Tryd.prog 45 #[.int .i64 vb] W (Leaves (.int .i64 y) W)) := Lib.hid fun W => by rw [← hy]; exact refAbs_calls vb W (by omega) (by omega)
      have x0' : 0 ≤ x := by omega
      have x1' : x ≤ 1000000000000000 := by omega
      have y0' : 0 ≤ y := by omega
      have y1' : y ≤ 1000000000000000 := by omega
      obtain ⟨W, f, Y, g, p1, p2, p3, M, e1, e2, e3, e4, l1, l2, l3, l4, l5, l6, l7, l8, m1, m2, m3, n1, n2, n3, n4, n5, hM, hsum, hyes, hno⟩ := mul_plan va vb x y hx hy x1' y1'
      have hres0 : mulP ⟨na, va⟩ ⟨nb, vb⟩ = ratioP va vb 1000000 := by unfold mulP; rw [HQ.out]; rfl
      have HSUM := Lib.hid hsum
      have HNO := Lib.hid hno
      have HM := Lib.hid hM
      have HYES : Hid (0 < W → 1000000000000000 / W < y → mulP ⟨na, va⟩ ⟨nb, vb⟩ = (zeroN, 66)) := Lib.hid fun h1 h2 => hres0.trans (ratio_out hM (hyes h1 h2))
      have HRES : Hid (mulP ⟨na, va⟩ ⟨nb, vb⟩ = fitP (if (decide (va < 0) != decide (vb < 0)) = true then -M else M)) := Lib.hid (by
        rw [hres0]
        show fitP (sgnd ((negB va != negB vb) != negB 1000000) (va.natAbs * vb.natAbs / 1000000)) = _
        rw [sgnd_int hM, show negB 1000000 = false from by decide]
        unfold negB
        rw [Bool.bne_false])
      clear hx hy hres0 hsum hM hyes hno
      obtain ⟨x0, x1, _, _⟩ := HX.out
      go_wp2_with fail
      refine (cX.out _).mono ?_
      rintro e w2 ⟨rfl, hb2⟩
      have HB2 := Lib.hid (below_then HB.out hb2)
      have HR2 := Lib.hid (HR.out.below hb2)
      have HX2 := Lib.hid (HX.out.below hb2)
      have HY2 := Lib.hid (HY.out.below hb2)
      clear hb2 x0 x1
      obtain ⟨y0, y1, _, _⟩ := HY2.out
      go_wp2_with fail
      refine (cY.out _).mono ?_
      rintro e w3 ⟨rfl, hb3⟩
      have HB3 := Lib.hid (below_then HB2.out hb3)
      have HR3 := Lib.hid (HR2.out.below hb3)
      have HX3 := Lib.hid (HX2.out.below hb3)
      have HY3 := Lib.hid (HY2.out.below hb3)
      clear hb3 y0 y1
      have q2 : IntKind.i64.wrap (f * Y) = p2 := by rw [m2, IntKind.wrap_i64]; omega
      have q3 : IntKind.i64.wrap (f * g) = p3 := by rw [m3, IntKind.wrap_i64]; omega
      by_cases hW : 0 < W
      · obtain ⟨m, hm⟩ : ∃ m, 1000000000000000 / W = m := ⟨_, rfl⟩
        have hmb : 0 ≤ m ∧ m ≤ 1000000000000000 := by
          rw [← hm]
          exact ⟨Int.ediv_nonneg (by omega) (by omega), Int.ediv_le_self _ (by omega)⟩
        obtain ⟨hmb1, hmb2⟩ := hmb
        by_cases hg : m < y
        · have hres := Lib.hid (HYES.out hW (by rw [hm]; exact hg))
          obtain ⟨c0, c1, f0, f1⟩ := HR3.out
          go_wp2
          rw [hres.out]
          exact bodyPost_ret (v := numC (zeroN, 66)) (by simp [results, Tryd.results16, go_sem, numC, numV, zeroN, c0, c1]) rfl ⟨rfl, (HB3.out.setCell (by simp; omega) _).setCell (by simp; omega) _⟩
        · have hp1 : p1 ≤ 1000000000000000 := HNO.out fun _ => by rw [hm]; omega
          have q1 : IntKind.i64.wrap (W * y) = p1 := by rw [m1, IntKind.wrap_i64]; omega
          have hMb : 0 ≤ M ∧ M ≤ 3000000000000000 := by have := HSUM.out; omega
          obtain ⟨hMb1, hMb2⟩ := hMb
          obtain ⟨x0, x1, _, _⟩ := HX3.out
          obtain ⟨y0, y1, _, _⟩ := HY3.out
          have hsum := HSUM.out
          obtain ⟨da, hda⟩ : ∃ z, decide (va < 0) = z := ⟨_, rfl⟩
          obtain ⟨db, hdb⟩ : ∃ z, decide (vb < 0) = z := ⟨_, rfl⟩
          have HDA := Lib.hid hda
          have HDB := Lib.hid hdb
          clear m1 m2 m3
          cases da <;> cases db
          all_goals
            go_wp2_with fail
            first
              | (have hres : Hid (mulP ⟨na, va⟩ ⟨nb, vb⟩ = fitP (-M)) := Lib.hid (by rw [HRES.out, HDA.out, HDB.out]; rfl)
                 refine (refFit_calls (-M) _).mono ?_
                 rintro e w9 ⟨rfl, hb9⟩
                 have HB9 := Lib.hid (below_then HB3.out hb9)
                 obtain ⟨c0, c1, f0, f1⟩ := HR3.out.below hb9
                 obtain ⟨⟨⟨n, v⟩, c⟩, hd⟩ : ∃ d, fitP (-M) = d := ⟨_, rfl⟩
                 rw [hd]
                 have HD := Lib.hid (hres.out.trans hd)
                 clear hb9 hd hres x0 x1 y0 y1
                 unfold numC numV
                 go_wp2
                 rw [HD.out]
                 exact bodyPost_ret (v := numC (⟨n, v⟩, c)) (by simp [results, Tryd.results16, go_sem, numC, numV, c0, c1]) rfl ⟨rfl, (HB9.out.setCell (by simp; omega) _).setCell (by simp; omega) _⟩)
              | (have hres : Hid (mulP ⟨na, va⟩ ⟨nb, vb⟩ = fitP M) := Lib.hid (by rw [HRES.out, HDA.out, HDB.out]; rfl)
                 refine (refFit_calls M _).mono ?_
                 rintro e w9 ⟨rfl, hb9⟩
                 have HB9 := Lib.hid (below_then HB3.out hb9)
                 obtain ⟨c0, c1, f0, f1⟩ := HR3.out.below hb9
                 obtain ⟨⟨⟨n, v⟩, c⟩, hd⟩ : ∃ d, fitP M = d := ⟨_, rfl⟩
                 rw [hd]
                 have HD := Lib.hid (hres.out.trans hd)
                 clear hb9 hd hres x0 x1 y0 y1
                 unfold numC numV
                 go_wp2
                 rw [HD.out]
                 exact bodyPost_ret (v := numC (⟨n, v⟩, c)) (by simp [results, Tryd.results16, go_sem, numC, numV, c0, c1]) rfl ⟨rfl, (HB9.out.setCell (by simp; omega) _).setCell (by simp; omega) _⟩)
      · have hp1 : p1 ≤ 1000000000000000 := HNO.out fun h => absurd h hW
        have q1 : IntKind.i64.wrap (W * y) = p1 := by rw [m1, IntKind.wrap_i64]; omega
        have hMb : 0 ≤ M ∧ M ≤ 3000000000000000 := by have := HSUM.out; omega
        obtain ⟨hMb1, hMb2⟩ := hMb
        obtain ⟨x0, x1, _, _⟩ := HX3.out
        obtain ⟨y0, y1, _, _⟩ := HY3.out
        have hsum := HSUM.out
        obtain ⟨da, hda⟩ : ∃ z, decide (va < 0) = z := ⟨_, rfl⟩
        obtain ⟨db, hdb⟩ : ∃ z, decide (vb < 0) = z := ⟨_, rfl⟩
        have HDA := Lib.hid hda
        have HDB := Lib.hid hdb
        clear m1 m2 m3
        cases da <;> cases db
        all_goals
          go_wp2_with fail
          first
            | (have hres : Hid (mulP ⟨na, va⟩ ⟨nb, vb⟩ = fitP (-M)) := Lib.hid (by rw [HRES.out, HDA.out, HDB.out]; rfl)
               refine (refFit_calls (-M) _).mono ?_
               rintro e w9 ⟨rfl, hb9⟩
               have HB9 := Lib.hid (below_then HB3.out hb9)
               obtain ⟨c0, c1, f0, f1⟩ := HR3.out.below hb9
               obtain ⟨⟨⟨n, v⟩, c⟩, hd⟩ : ∃ d, fitP (-M) = d := ⟨_, rfl⟩
               rw [hd]
               have HD := Lib.hid (hres.out.trans hd)
               clear hb9 hd hres x0 x1 y0 y1
               unfold numC numV
               go_wp2
               rw [HD.out]
               exact bodyPost_ret (v := numC (⟨n, v⟩, c)) (by simp [results, Tryd.results16, go_sem, numC, numV, c0, c1]) rfl ⟨rfl, (HB9.out.setCell (by simp; omega) _).setCell (by simp; omega) _⟩)
            | (have hres : Hid (mulP ⟨na, va⟩ ⟨nb, vb⟩ = fitP M) := Lib.hid (by rw [HRES.out, HDA.out, HDB.out]; rfl)
               refine (refFit_calls M _).mono ?_
               rintro e w9 ⟨rfl, hb9⟩
               have HB9 := Lib.hid (below_then HB3.out hb9)
               obtain ⟨c0, c1, f0, f1⟩ := HR3.out.below hb9
               obtain ⟨⟨⟨n, v⟩, c⟩, hd⟩ : ∃ d, fitP M = d := ⟨_, rfl⟩
               rw [hd]
               have HD := Lib.hid (hres.out.trans hd)
               clear hb9 hd hres x0 x1 y0 y1
               unfold numC numV
               go_wp2
               rw [HD.out]
               exact bodyPost_ret (v := numC (⟨n, v⟩, c)) (by simp [results, Tryd.results16, go_sem, numC, numV, c0, c1]) rfl ⟨rfl, (HB9.out.setCell (by simp; omega) _).setCell (by simp; omega) _⟩)

end Go.Proofs.YteddnomneeonhaaDoor
