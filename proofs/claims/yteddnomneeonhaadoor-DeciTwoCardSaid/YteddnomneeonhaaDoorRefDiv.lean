/-
  The reference's Mod and Div: the rest by a product taken away, the quotient digit by digit. No condition.
-/
import Derived.Test.YteddnomneeonhaaDoorRefMul
namespace Go.Proofs.YteddnomneeonhaaDoor
open Go.RowKit Go.Lib

/-- What holds behind i digits of a quotient. -/
def DivR (x y : Int) (i : Nat) (v r : Int) : Prop := v * y + r = x * 10 ^ i ∧ 0 ≤ r ∧ r < y ∧ 0 ≤ v ∧ v ≤ 10000000000000009

theorem divR_start {x y : Int} (hx : 0 ≤ x) (hx1 : x ≤ 1000000000000000) (hy : 0 < y) : DivR x y 0 (x / y) (x % y) := by
  refine ⟨?_, Int.emod_nonneg _ (by omega), Int.emod_lt_of_pos _ hy, Int.ediv_nonneg hx (by omega), ?_⟩
  · have := Int.mul_ediv_add_emod x y
    rw [Int.mul_comm y] at this
    simpa using this
  · have := Int.ediv_le_self y hx
    omega
theorem divR_step {x y : Int} {i : Nat} {v r : Int} (h : DivR x y i v r) (hv : v ≤ 1000000000000000) : ∃ t u, r * 10 / y = t ∧ r * 10 % y = u ∧ 0 ≤ t ∧ t ≤ 9 ∧ 0 ≤ u ∧ u ≤ 1000000000000000 + y ∧ DivR x y (i + 1) (v * 10 + t) u := by
  obtain ⟨h1, h2, h3, h4, h5⟩ := h
  have hd := Int.mul_ediv_add_emod (r * 10) y
  have ht0 : 0 ≤ r * 10 / y := Int.ediv_nonneg (by omega) (by omega)
  have ht9 : r * 10 / y ≤ 9 := by
    have : r * 10 / y < 10 := Int.ediv_lt_of_lt_mul (by omega) (by omega)
    omega
  have hu0 := Int.emod_nonneg (r * 10) (show y ≠ 0 by omega)
  have hu1 := Int.emod_lt_of_pos (r * 10) (show 0 < y by omega)
  refine ⟨_, _, rfl, rfl, ht0, ht9, hu0, by omega, ?_, hu0, hu1, by omega, by omega⟩
  rw [Int.pow_succ, ← Int.mul_assoc, ← h1, Int.add_mul, Int.add_mul]
  have e : v * 10 * y = v * y * 10 := Int.mul_right_comm _ _ _
  rw [e, Int.mul_comm (r * 10 / y) y]
  generalize y * (r * 10 / y) = z at *
  generalize v * y * 10 = z2 at *
  omega
theorem divR_end {a b x y v r : Int} (hx : (a.natAbs : Int) = x) (hy : (b.natAbs : Int) = y) (h : DivR x y 6 v r) : ((a.natAbs * (1000000 : Int).natAbs / b.natAbs : Nat) : Int) = v := by
  obtain ⟨h1, h2, h3, h4, _⟩ := h
  obtain ⟨v', rfl⟩ := Int.eq_ofNat_of_zero_le h4
  obtain ⟨r', rfl⟩ := Int.eq_ofNat_of_zero_le h2
  subst hx hy
  have e : v' * b.natAbs + r' = a.natAbs * 1000000 := by
    have : ((v' * b.natAbs + r' : Nat) : Int) = ((a.natAbs * 1000000 : Nat) : Int) := by
      rw [Int.natCast_add, Int.natCast_mul, h1]
      rfl
    omega
  have e2 : a.natAbs * 1000000 / b.natAbs = v' := by
    rw [← e, Nat.add_comm, Nat.add_mul_div_right _ _ (by omega), Nat.div_eq_of_lt (by omega), Nat.zero_add]
  show ((a.natAbs * 1000000 / b.natAbs : Nat) : Int) = v'
  rw [e2]
theorem pow_le6 {i : Nat} (h : i ≤ 6) : 10 ^ i ≤ 1000000 := by
  have := Nat.pow_le_pow_right (n := 10) (by decide) h
  simpa using this
theorem divR_over {a b x y v r : Int} {i : Nat} (hx : (a.natAbs : Int) = x) (hy : (b.natAbs : Int) = y) (hi : i ≤ 6) (h : DivR x y i v r) : v ≤ ((a.natAbs * (1000000 : Int).natAbs / b.natAbs : Nat) : Int) := by
  obtain ⟨h1, h2, h3, h4, _⟩ := h
  obtain ⟨v', rfl⟩ := Int.eq_ofNat_of_zero_le h4
  obtain ⟨r', rfl⟩ := Int.eq_ofNat_of_zero_le h2
  subst hx hy
  have e : v' * b.natAbs + r' = a.natAbs * 10 ^ i := by
    have : ((v' * b.natAbs + r' : Nat) : Int) = ((a.natAbs * 10 ^ i : Nat) : Int) := by
      rw [Int.natCast_add, Int.natCast_mul, h1]
      simp
    omega
  have e2 : v' ≤ a.natAbs * 1000000 / b.natAbs := by
    rw [Nat.le_div_iff_mul_le (by omega)]
    have : a.natAbs * 10 ^ i ≤ a.natAbs * 1000000 := Nat.mul_le_mul_left _ (pow_le6 hi)
    omega
  show (v' : Int) ≤ ((a.natAbs * 1000000 / b.natAbs : Nat) : Int)
  omega

set_option maxRecDepth 100000 in
set_option maxHeartbeats 1000000 in
theorem refMod_calls (a b : Num) (w : World) : Calls Tryd.prog 20 #[numV a, numV b] w (Leaves (numC (modP a b)) w) := by
  obtain ⟨q, hq⟩ : ∃ q, odd2 a b = q := ⟨_, rfl⟩
  have HQ := Lib.hid hq
  obtain ⟨na, va⟩ := a
  obtain ⟨nb, vb⟩ := b
  unfold numV
  clear hq
  go_enter Tryd.func20, Tryd.ntmps20
  go_wp2_with fail
  refine (refOdd_calls ⟨na, va⟩ _).mono ?_
  rintro e w0 ⟨rfl, hb0⟩
  have HB0 : Hid (Below w.heap.size w w0) := Lib.hid ((((Below.refl _ w).alloc (Nat.le_refl _) _).alloc (by simp) _).alloc (by simp; omega) _ |>.trans (hb0.mono (by simp; omega)))
  have HR0 : Hid (Own2 (w.heap.size + 1 + 1) (.bool false) (.int .i64 0) w0) := Lib.hid (Own2.below ⟨by go_simp, by go_simp, by go_simp, by go_simp⟩ hb0)
  have HX0 : Hid (Own2 w.heap.size (.bool na) (.int .i64 va) w0) := Lib.hid (Own2.below ⟨by go_simp, by go_simp, by go_simp, by go_simp⟩ hb0)
  have HY0 : Hid (Own2 (w.heap.size + 1) (.bool nb) (.int .i64 vb) w0) := Lib.hid (Own2.below ⟨by go_simp, by go_simp, by go_simp, by go_simp⟩ hb0)
  clear hb0
  obtain ⟨oa, hoa⟩ : ∃ x, oddN ⟨na, va⟩ = x := ⟨_, rfl⟩
  rw [hoa]
  have HOA := Lib.hid hoa
  clear hoa
  cases oa with
  | true =>
    have hqt : q = true := by rw [← HQ.out]; exact odd_left HOA.out
    subst hqt
    have hres : Hid (modP ⟨na, va⟩ ⟨nb, vb⟩ = (nanN, 0)) := Lib.hid (by unfold modP; rw [HQ.out]; rfl)
    go_wp2_with fail
    refine (refNone_calls _).mono ?_
    rintro e w9 ⟨rfl, hb9⟩
    have HB9 := Lib.hid (below_then HB0.out hb9)
    obtain ⟨c0, c1, f0, f1⟩ := HR0.out.below hb9
    clear hb9
    unfold numV nanN
    go_wp2
    rw [hres.out]
    exact bodyPost_ret (v := numC (nanN, 0)) (by simp [results, Tryd.results20, go_sem, numC, numV, nanN, c0, c1]) rfl ⟨rfl, (HB9.out.setCell (by simp; omega) _).setCell (by simp; omega) _⟩
  | false =>
    obtain ⟨y0, y1, _, _⟩ := HY0.out
    go_wp2_with fail
    refine (refOdd_calls ⟨nb, vb⟩ _).mono ?_
    rintro e w1 ⟨rfl, hb⟩
    have hqo : oddN ⟨nb, vb⟩ = q := by rw [← HQ.out]; unfold odd2; rw [HOA.out]; rfl
    rw [hqo]
    have HB := Lib.hid (below_then HB0.out hb)
    have HR := Lib.hid (HR0.out.below hb)
    have HX := Lib.hid (HX0.out.below hb)
    have HY := Lib.hid (HY0.out.below hb)
    clear hb hqo y0 y1
    cases q with
    | true =>
      have hres : Hid (modP ⟨na, va⟩ ⟨nb, vb⟩ = (nanN, 0)) := Lib.hid (by unfold modP; rw [HQ.out]; rfl)
      go_wp2_with fail
      refine (refNone_calls _).mono ?_
      rintro e w9 ⟨rfl, hb9⟩
      have HB9 := Lib.hid (below_then HB.out hb9)
      obtain ⟨c0, c1, f0, f1⟩ := HR.out.below hb9
      clear hb9
      unfold numV nanN
      go_wp2
      rw [hres.out]
      exact bodyPost_ret (v := numC (nanN, 0)) (by simp [results, Tryd.results20, go_sem, numC, numV, nanN, c0, c1]) rfl ⟨rfl, (HB9.out.setCell (by simp; omega) _).setCell (by simp; omega) _⟩
    | false =>
      obtain ⟨k1, k2⟩ := odd2_false.1 HQ.out
      have g1 := (oddN_false.1 k1).2
      have g2 := (oddN_false.1 k2).2
      obtain ⟨g1, g1'⟩ := g1
      obtain ⟨g2, g2'⟩ := g2
      simp only at g1 g1' g2 g2'
      clear k1 k2
      by_cases hz : vb = 0
      · skip
        have hres : Hid (modP ⟨na, va⟩ ⟨nb, vb⟩ = (zeroN, 67)) := Lib.hid (by unfold modP; rw [HQ.out, if_neg (by decide)]; exact if_pos hz)
        obtain ⟨y0, y1, _, _⟩ := HY.out
        obtain ⟨c0, c1, f0, f1⟩ := HR.out
        subst hz
        go_wp2
        rw [hres.out]
        exact bodyPost_ret (v := numC (zeroN, 67)) (by simp [results, Tryd.results20, go_sem, numC, numV, zeroN, c0, c1]) rfl ⟨rfl, (HB.out.setCell (by simp; omega) _).setCell (by simp; omega) _⟩
      · skip
        obtain ⟨x, hx⟩ : ∃ x : Int, (va.natAbs : Int) = x := ⟨_, rfl⟩
        obtain ⟨y, hy⟩ : ∃ y : Int, (vb.natAbs : Int) = y := ⟨_, rfl⟩
        have cX : Hid (∀ W, Calls Tryd.prog 45 #[.int .i64 va] W (Leaves (.int .i64 x) W)) := Lib.hid fun W => by rw [← hx]; exact refAbs_calls va W (by omega) (by omega)
        have cY : Hid (∀ W, Calls Tryd.prog 45 #[.int .i64 vb] W (Leaves (.int .i64 y) W)) := Lib.hid fun W => by rw [← hy]; exact refAbs_calls vb W (by omega) (by omega)
        have x0' : 0 ≤ x := by omega
        have x1' : x ≤ 1000000000000000 := by omega
        have y0' : 1 ≤ y := by omega
        have y1' : y ≤ 1000000000000000 := by omega
        obtain ⟨t, p, r, e1, e2, e3, t0, t1, r0, r1, p0, p1, hm⟩ := refMod_plan va vb x y hx hy hz
        have hzb : (vb == 0) = false := by simpa using hz
        have hwp : IntKind.i64.wrap (t * y) = p := by rw [e2, IntKind.wrap_i64]; omega
        have HRES : Hid (modP ⟨na, va⟩ ⟨nb, vb⟩ = (⟨false, if va < 0 then -r else r⟩, 0)) := Lib.hid (by unfold modP; rw [HQ.out, if_neg (by decide), ← hm]; exact if_neg hz)
        clear hx hy hm e2
        obtain ⟨y0, y1, _, _⟩ := HY.out
        obtain ⟨x0, x1, _, _⟩ := HX.out
        go_wp2_with fail
        refine (cX.out _).mono ?_
        rintro e w2 ⟨rfl, hb2⟩
        have HB2 := Lib.hid (below_then HB.out hb2)
        have HR2 := Lib.hid (HR.out.below hb2)
        have HX2 := Lib.hid (HX.out.below hb2)
        have HY2 := Lib.hid (HY.out.below hb2)
        clear hb2 x0 x1
        obtain ⟨y0, y1, _, _⟩ := HY2.out
        go_wp2_with fail
        refine (cY.out _).mono ?_
        rintro e w3 ⟨rfl, hb3⟩
        have HB3 := Lib.hid (below_then HB2.out hb3)
        have HR3 := Lib.hid (HR2.out.below hb3)
        have HX3 := Lib.hid (HX2.out.below hb3)
        have HY3 := Lib.hid (HY2.out.below hb3)
        clear hb3 y0 y1
        obtain ⟨x0, x1, _, _⟩ := HX3.out
        obtain ⟨c0, c1, f0, f1⟩ := HR3.out
        by_cases hneg : va < 0
        · have hres : Hid (modP ⟨na, va⟩ ⟨nb, vb⟩ = (⟨false, -r⟩, 0)) := Lib.hid (by rw [HRES.out, if_pos hneg])
          go_wp2
          rw [hres.out]
          exact bodyPost_ret (v := numC (⟨false, -r⟩, 0)) (by simp [results, Tryd.results20, go_sem, numC, numV, c0, c1]) rfl ⟨rfl, (HB3.out.setCell (by simp; omega) _).setCell (by simp; omega) _⟩
        · have hres : Hid (modP ⟨na, va⟩ ⟨nb, vb⟩ = (⟨false, r⟩, 0)) := Lib.hid (by rw [HRES.out, if_neg hneg])
          go_wp2
          rw [hres.out]
          exact bodyPost_ret (v := numC (⟨false, r⟩, 0)) (by simp [results, Tryd.results20, go_sem, numC, numV, c0, c1]) rfl ⟨rfl, (HB3.out.setCell (by simp; omega) _).setCell (by simp; omega) _⟩

set_option maxRecDepth 100000 in
set_option maxHeartbeats 1000000 in
theorem refDivN_calls (a b : Num) (w : World) : Calls Tryd.prog 18 #[numV a, numV b] w (Leaves (numC (divP a b)) w) := by
  obtain ⟨q, hq⟩ : ∃ q, odd2 a b = q := ⟨_, rfl⟩
  have HQ := Lib.hid hq
  obtain ⟨na, va⟩ := a
  obtain ⟨nb, vb⟩ := b
  unfold numV
  clear hq
  go_enter Tryd.func18, Tryd.ntmps18
  go_wp2_with fail
  refine (refOdd_calls ⟨na, va⟩ _).mono ?_
  rintro e w0 ⟨rfl, hb0⟩
  have HB0 : Hid (Below w.heap.size w w0) := Lib.hid ((((Below.refl _ w).alloc (Nat.le_refl _) _).alloc (by simp) _).alloc (by simp; omega) _ |>.trans (hb0.mono (by simp; omega)))
  have HR0 : Hid (Own2 (w.heap.size + 1 + 1) (.bool false) (.int .i64 0) w0) := Lib.hid (Own2.below ⟨by go_simp, by go_simp, by go_simp, by go_simp⟩ hb0)
  have HX0 : Hid (Own2 w.heap.size (.bool na) (.int .i64 va) w0) := Lib.hid (Own2.below ⟨by go_simp, by go_simp, by go_simp, by go_simp⟩ hb0)
  have HY0 : Hid (Own2 (w.heap.size + 1) (.bool nb) (.int .i64 vb) w0) := Lib.hid (Own2.below ⟨by go_simp, by go_simp, by go_simp, by go_simp⟩ hb0)
  clear hb0
  obtain ⟨oa, hoa⟩ : ∃ x, oddN ⟨na, va⟩ = x := ⟨_, rfl⟩
  rw [hoa]
  have HOA := Lib.hid hoa
  clear hoa
  cases oa with
  | true =>
    have hqt : q = true := by rw [← HQ.out]; exact odd_left HOA.out
    subst hqt
    have hres : Hid (divP ⟨na, va⟩ ⟨nb, vb⟩ = (nanN, 0)) := Lib.hid (by unfold divP; rw [HQ.out]; rfl)
    go_wp2_with fail
    refine (refNone_calls _).mono ?_
    rintro e w9 ⟨rfl, hb9⟩
    have HB9 := Lib.hid (below_then HB0.out hb9)
    obtain ⟨c0, c1, f0, f1⟩ := HR0.out.below hb9
    clear hb9
    unfold numV nanN
    go_wp2
    rw [hres.out]
    exact bodyPost_ret (v := numC (nanN, 0)) (by simp [results, Tryd.results18, go_sem, numC, numV, nanN, c0, c1]) rfl ⟨rfl, (HB9.out.setCell (by simp; omega) _).setCell (by simp; omega) _⟩
  | false =>
    obtain ⟨y0, y1, _, _⟩ := HY0.out
    go_wp2_with fail
    refine (refOdd_calls ⟨nb, vb⟩ _).mono ?_
    rintro e w1 ⟨rfl, hb⟩
    have hqo : oddN ⟨nb, vb⟩ = q := by rw [← HQ.out]; unfold odd2; rw [HOA.out]; rfl
    rw [hqo]
    have HB := Lib.hid (below_then HB0.out hb)
    have HR := Lib.hid (HR0.out.below hb)
    have HX := Lib.hid (HX0.out.below hb)
    have HY := Lib.hid (HY0.out.below hb)
    clear hb hqo y0 y1
    cases q with
    | true =>
      have hres : Hid (divP ⟨na, va⟩ ⟨nb, vb⟩ = (nanN, 0)) := Lib.hid (by unfold divP; rw [HQ.out]; rfl)
      go_wp2_with fail
      refine (refNone_calls _).mono ?_
      rintro e w9 ⟨rfl, hb9⟩
      have HB9 := Lib.hid (below_then HB.out hb9)
      obtain ⟨c0, c1, f0, f1⟩ := HR.out.below hb9
      clear hb9
      unfold numV nanN
      go_wp2
      rw [hres.out]
      exact bodyPost_ret (v := numC (nanN, 0)) (by simp [results, Tryd.results18, go_sem, numC, numV, nanN, c0, c1]) rfl ⟨rfl, (HB9.out.setCell (by simp; omega) _).setCell (by simp; omega) _⟩
    | false =>
      obtain ⟨k1, k2⟩ := odd2_false.1 HQ.out
      have g1 := (oddN_false.1 k1).2
      have g2 := (oddN_false.1 k2).2
      obtain ⟨g1, g1'⟩ := g1
      obtain ⟨g2, g2'⟩ := g2
      simp only at g1 g1' g2 g2'
      clear k1 k2
      by_cases hz : vb = 0
      · skip
        have hres : Hid (divP ⟨na, va⟩ ⟨nb, vb⟩ = (zeroN, 67)) := Lib.hid (by unfold divP; rw [HQ.out, if_neg (by decide)]; exact if_pos hz)
        obtain ⟨y0, y1, _, _⟩ := HY.out
        obtain ⟨c0, c1, f0, f1⟩ := HR.out
        subst hz
        go_wp2
        rw [hres.out]
        exact bodyPost_ret (v := numC (zeroN, 67)) (by simp [results, Tryd.results18, go_sem, numC, numV, zeroN, c0, c1]) rfl ⟨rfl, (HB.out.setCell (by simp; omega) _).setCell (by simp; omega) _⟩
      · skip
        obtain ⟨x, hx⟩ : ∃ x : Int, (va.natAbs : Int) = x := ⟨_, rfl⟩
        obtain ⟨y, hy⟩ : ∃ y : Int, (vb.natAbs : Int) = y := ⟨_, rfl⟩
        have cX : Hid (∀ W, Calls Tryd.prog 45 #[.int .i64 va] W (Leaves (.int .i64 x) W)) := Lib.hid fun W => by rw [← hx]; exact refAbs_calls va W (by omega) (by omega)
        have cY : Hid (∀ W, Calls Tryd.prog 45 #[.int .i64 vb] W (Leaves (.int .i64 y) W)) := Lib.hid fun W => by rw [← hy]; exact refAbs_calls vb W (by omega) (by omega)
        have x0' : 0 ≤ x := by omega
        have x1' : x ≤ 1000000000000000 := by omega
        have y0' : 1 ≤ y := by omega
        have y1' : y ≤ 1000000000000000 := by omega
        have hzb : (vb == 0) = false := by simpa using hz
        have hres0 : divP ⟨na, va⟩ ⟨nb, vb⟩ = ratioP va 1000000 vb := by unfold divP; rw [HQ.out, if_neg (by decide)]; exact if_neg hz
        have HST := Lib.hid (divR_start x0' x1' (show 0 < y by omega))
        obtain ⟨q0, hq0⟩ : ∃ q, x / y = q := ⟨_, rfl⟩
        obtain ⟨r0, hr0⟩ : ∃ r, x % y = r := ⟨_, rfl⟩
        rw [hq0, hr0] at HST
        have hqb : 0 ≤ q0 ∧ q0 ≤ 10000000000000009 := ⟨HST.out.2.2.2.1, HST.out.2.2.2.2⟩
        obtain ⟨hqb1, hqb2⟩ := hqb
        have HX' := Lib.hid hx
        have HY' := Lib.hid hy
        have HRES0 := Lib.hid hres0
        clear hx hy hres0
        obtain ⟨y0, y1, _, _⟩ := HY.out
        obtain ⟨x0, x1, _, _⟩ := HX.out
        go_wp2_with fail
        refine (cX.out _).mono ?_
        rintro e w2 ⟨rfl, hb2⟩
        have HB2 := Lib.hid (below_then HB.out hb2)
        have HR2 := Lib.hid (HR.out.below hb2)
        have HX2 := Lib.hid (HX.out.below hb2)
        have HY2 := Lib.hid (HY.out.below hb2)
        clear hb2 x0 x1
        obtain ⟨y0, y1, _, _⟩ := HY2.out
        go_wp2_with fail
        refine (cY.out _).mono ?_
        rintro e w3 ⟨rfl, hb3⟩
        have HB3 := Lib.hid (below_then HB2.out hb3)
        have HR3 := Lib.hid (HR2.out.below hb3)
        have HX3 := Lib.hid (HX2.out.below hb3)
        have HY3 := Lib.hid (HY2.out.below hb3)
        clear hb3 y0 y1
        go_wp2
        go_loopg [8, 9, 10] 6 (fun g v8 v9 v10 wr => ∃ (i : Nat) (v r : Int), v8 = .int .i64 v ∧ v9 = .int .i64 r ∧ v10 = .int .i64 i ∧ g + i = 6 ∧ DivR x y i v r ∧ wr = w3)
        case atStart => exact ⟨0, q0, r0, (by first | rfl | rw [hq0]), (by first | rfl | rw [hr0]), rfl, rfl, HST.out, rfl⟩
        case round =>
          obtain ⟨i, v, r, rfl, rfl, rfl, hg, hrel, rfl⟩ := hrel
          have HG := Lib.hid hg
          have HREL := Lib.hid hrel
          obtain ⟨_, rr0, rr1, vv0, vv1⟩ := hrel
          clear hq0 hr0 HST
          by_cases hi : i < 6
          · by_cases hv : 1000000000000000 < v
            · have hres := Lib.hid (HRES0.out.trans (ratio_out rfl (Int.lt_of_lt_of_le hv (divR_over HX'.out HY'.out (by omega) HREL.out))))
              obtain ⟨c0, c1, f0, f1⟩ := HR3.out
              go_wp2
              rw [hres.out]
              exact bodyPost_ret (v := numC (zeroN, 66)) (by simp [results, Tryd.results18, go_sem, numC, numV, zeroN, c0, c1]) rfl ⟨rfl, (HB3.out.setCell (by simp; omega) _).setCell (by simp; omega) _⟩
            · obtain ⟨t, u, e1, e2, t0, t1, u0, u1, hnext⟩ := divR_step HREL.out (show v ≤ 1000000000000000 by omega)
              have HN := Lib.hid hnext
              clear hnext
              go_wp2
              go_roundg (gk - 1)
              case measure => have := HG.out; omega
              case rel => exact ⟨i + 1, v * 10 + t, u, (by first | rfl | rw [e1]), (by first | rfl | rw [e2]), by go_num, by have := HG.out; omega, HN.out, rfl⟩
          · have hi6 : i = 6 := by have := HG.out; omega
            subst hi6
            have hM := divR_end HX'.out HY'.out HREL.out
            have HRES : Hid (divP ⟨na, va⟩ ⟨nb, vb⟩ = fitP (if (decide (va < 0) != decide (vb < 0)) = true then -v else v)) := Lib.hid (by
              rw [HRES0.out]
              show fitP (sgnd ((negB va != negB 1000000) != negB vb) (va.natAbs * (1000000 : Int).natAbs / vb.natAbs)) = _
              rw [sgnd_int hM, show negB 1000000 = false from by decide]
              unfold negB
              rw [Bool.bne_false])
            obtain ⟨x0, x1, _, _⟩ := HX3.out
            obtain ⟨y0, y1, _, _⟩ := HY3.out
            obtain ⟨da, hda⟩ : ∃ z, decide (va < 0) = z := ⟨_, rfl⟩
            obtain ⟨db, hdb⟩ : ∃ z, decide (vb < 0) = z := ⟨_, rfl⟩
            have HDA := Lib.hid hda
            have HDB := Lib.hid hdb
            clear hM
            cases da <;> cases db
            all_goals
              go_wp2_with fail
              first
                | (have hres : Hid (divP ⟨na, va⟩ ⟨nb, vb⟩ = fitP (-v)) := Lib.hid (by rw [HRES.out, HDA.out, HDB.out]; rfl)
                   refine (refFit_calls (-v) _).mono ?_
                   rintro e w9 ⟨rfl, hb9⟩
                   have HB9 := Lib.hid (below_then HB3.out hb9)
                   obtain ⟨c0, c1, f0, f1⟩ := HR3.out.below hb9
                   obtain ⟨⟨⟨n, v⟩, c⟩, hd⟩ : ∃ d, fitP (-v) = d := ⟨_, rfl⟩
                   rw [hd]
                   have HD := Lib.hid (hres.out.trans hd)
                   clear hb9 hd hres x0 x1 y0 y1
                   unfold numC numV
                   go_wp2
                   rw [HD.out]
                   exact bodyPost_ret (v := numC (⟨n, v⟩, c)) (by simp [results, Tryd.results18, go_sem, numC, numV, c0, c1]) rfl ⟨rfl, (HB9.out.setCell (by simp; omega) _).setCell (by simp; omega) _⟩)
                | (have hres : Hid (divP ⟨na, va⟩ ⟨nb, vb⟩ = fitP v) := Lib.hid (by rw [HRES.out, HDA.out, HDB.out]; rfl)
                   refine (refFit_calls v _).mono ?_
                   rintro e w9 ⟨rfl, hb9⟩
                   have HB9 := Lib.hid (below_then HB3.out hb9)
                   obtain ⟨c0, c1, f0, f1⟩ := HR3.out.below hb9
                   obtain ⟨⟨⟨n, v⟩, c⟩, hd⟩ : ∃ d, fitP v = d := ⟨_, rfl⟩
                   rw [hd]
                   have HD := Lib.hid (hres.out.trans hd)
                   clear hb9 hd hres x0 x1 y0 y1
                   unfold numC numV
                   go_wp2
                   rw [HD.out]
                   exact bodyPost_ret (v := numC (⟨n, v⟩, c)) (by simp [results, Tryd.results18, go_sem, numC, numV, c0, c1]) rfl ⟨rfl, (HB9.out.setCell (by simp; omega) _).setCell (by simp; omega) _⟩)

end Go.Proofs.YteddnomneeonhaaDoor
