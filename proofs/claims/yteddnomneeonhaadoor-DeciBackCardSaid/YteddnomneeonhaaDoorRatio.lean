/-
  The program's ratio: a times b divided by c, cut off towards 0, over the library's Mul64 and Div64. Conditions: the three are between -10 to the 15 and 10 to the 15; c isn't 0.
-/
import Derived.Test.YteddnomneeonhaaDoorMade
import Derived.Test.YteddnomneeonhaaDoorDivCall
namespace Go.Proofs.YteddnomneeonhaaDoor
open Go.RowKit Go.Lib

theorem div_any (hi lo y : Nat) (w : World) (h1 : hi < y) (h2 : y < 9223372036854775808) (h3 : lo < 18446744073709551616) :
    Calls Tryd.prog 58 #[.int .u64 hi, .int .u64 lo, .int .u64 y] w (Quot (((hi * 18446744073709551616 + lo) / y : Nat) : Int) w) := by
  rcases Nat.eq_zero_or_pos hi with h | h
  · subst h
    have := div_low lo y w h1 h2 h3
    rw [Nat.zero_mul, Nat.zero_add]
    exact this
  · exact div_calls hi lo y w h h1 h2 h3

theorem big_quot {P y : Nat} (hy : 0 < y) (h : y ≤ P / 18446744073709551616) : 18446744073709551616 ≤ P / y := by
  rw [Nat.le_div_iff_mul_le hy]
  have h1 : y * 18446744073709551616 ≤ P / 18446744073709551616 * 18446744073709551616 := Nat.mul_le_mul_right _ h
  have h2 := Nat.div_mul_le_self P 18446744073709551616
  rw [Nat.mul_comm]
  exact Nat.le_trans h1 h2

set_option maxRecDepth 100000 in
set_option maxHeartbeats 2000000 in
theorem ratio_walk (a b c xa xb xc hI lI qI : Int) (w : World) (g : Bool)
    (hg : g = ((negB a != negB b) != negB c))
    (cA : Hid (∀ W, Calls Tryd.prog 57 #[.int .i64 a] W (Leaves (.int .u64 xa) W))) (cB : Hid (∀ W, Calls Tryd.prog 57 #[.int .i64 b] W (Leaves (.int .u64 xb) W))) (cC : Hid (∀ W, Calls Tryd.prog 57 #[.int .i64 c] W (Leaves (.int .u64 xc) W)))
    (cM : Hid (∀ W, Calls Tryd.prog 56 #[.int .u64 xa, .int .u64 xb] W (Leaves (.tuple #[.int .u64 hI, .int .u64 lI]) W)))
    (cD : Hid (∀ W, hI < xc → Calls Tryd.prog 58 #[.int .u64 hI, .int .u64 lI, .int .u64 xc] W (Quot qI W)))
    (hq0 : 0 ≤ qI) (d : Num × Int)
    (H1 : Hid (xc ≤ hI → d = (zeroN, 66))) (H2 : Hid (hI < xc → 1000000000000000 < qI → d = (zeroN, 66))) (H3 : Hid (hI < xc → qI ≤ 1000000000000000 → d = (⟨false, if g = true then -qI else qI⟩, 0))) :
    Calls Tryd.prog 44 #[.int .i64 a, .int .i64 b, .int .i64 c] w (Leaves (numC d) w) := by
  have HG := Lib.hid hg
  clear hg
  go_enter Tryd.func44, Tryd.ntmps44
  go_wp2_with fail
  refine (cA.out _).mono ?_
  rintro e w1 ⟨rfl, hb1⟩
  have HB1 : Hid (Below w.heap.size w w1) := Lib.hid ((Below.refl _ w).alloc (Nat.le_refl _) _ |>.trans (hb1.mono (by simp)))
  have HR1 : Hid (Own2 w.heap.size (.bool false) (.int .i64 0) w1) := Lib.hid (Own2.below ⟨by go_simp, by go_simp, by go_simp, by go_simp⟩ hb1)
  clear hb1
  go_wp2_with fail
  refine (cB.out _).mono ?_
  rintro e w2 ⟨rfl, hb2⟩
  have HB2 := Lib.hid (below_then HB1.out hb2)
  have HR2 := Lib.hid (HR1.out.below hb2)
  clear hb2
  go_wp2_with fail
  refine (cM.out _).mono ?_
  rintro e w3 ⟨rfl, hb3⟩
  have HB3 := Lib.hid (below_then HB2.out hb3)
  have HR3 := Lib.hid (HR2.out.below hb3)
  clear hb3
  go_wp2_with fail
  refine (cC.out _).mono ?_
  rintro e w4 ⟨rfl, hb4⟩
  have HB4 := Lib.hid (below_then HB3.out hb4)
  have HR4 := Lib.hid (HR3.out.below hb4)
  clear hb4
  by_cases hle : xc ≤ hI
  · obtain ⟨c0, c1, f0, f1⟩ := HR4.out
    have hres := Lib.hid (H1.out hle)
    go_wp2
    rw [hres.out]
    exact bodyPost_ret (v := numC (zeroN, 66)) (by simp [results, Tryd.results44, go_sem, numC, numV, zeroN, c0, c1]) rfl ⟨rfl, (HB4.out.setCell (by simp) _).setCell (by simp) _⟩
  · have hlt : hI < xc := by omega
    have HLT := Lib.hid hlt
    go_wp2_with fail
    refine (cC.out _).mono ?_
    rintro e w5 ⟨rfl, hb5⟩
    have HB5 := Lib.hid (below_then HB4.out hb5)
    have HR5 := Lib.hid (HR4.out.below hb5)
    clear hb5
    go_wp2_with fail
    refine (cD.out _ HLT.out).mono ?_
    rintro e w6 ⟨⟨r, rfl⟩, hb6⟩
    have HB6 := Lib.hid (below_then HB5.out hb6)
    obtain ⟨c0, c1, f0, f1⟩ := HR5.out.below hb6
    clear hb6 hle hlt
    by_cases hbig : 1000000000000000 < qI
    · have hres := Lib.hid (H2.out HLT.out hbig)
      go_wp2
      rw [hres.out]
      exact bodyPost_ret (v := numC (zeroN, 66)) (by simp [results, Tryd.results44, go_sem, numC, numV, zeroN, c0, c1]) rfl ⟨rfl, (HB6.out.setCell (by simp) _).setCell (by simp) _⟩
    · have hq1 : qI ≤ 1000000000000000 := by omega
      have hres := Lib.hid (H3.out HLT.out hq1)
      clear hbig
      obtain ⟨da, hda⟩ : ∃ x, decide (a < 0) = x := ⟨_, rfl⟩
      obtain ⟨db, hdb⟩ : ∃ x, decide (b < 0) = x := ⟨_, rfl⟩
      obtain ⟨dc, hdc⟩ : ∃ x, decide (c < 0) = x := ⟨_, rfl⟩
      have HDA := Lib.hid hda
      have HDB := Lib.hid hdb
      have HDC := Lib.hid hdc
      cases da <;> cases db <;> cases dc
      all_goals
        have hgg : Hid (g = ((decide (a < 0) != decide (b < 0)) != decide (c < 0))) := Lib.hid HG.out
        go_wp2
        first
          | (have e : d = (⟨false, -qI⟩, 0) := by rw [hres.out, hgg.out, HDA.out, HDB.out, HDC.out]; rfl
             rw [e]
             exact bodyPost_ret (v := numC (⟨false, -qI⟩, 0)) (by simp [results, Tryd.results44, go_sem, numC, numV, c0, c1]) rfl ⟨rfl, (HB6.out.setCell (by simp) _).setCell (by simp) _⟩)
          | (have e : d = (⟨false, qI⟩, 0) := by rw [hres.out, hgg.out, HDA.out, HDB.out, HDC.out]; rfl
             rw [e]
             exact bodyPost_ret (v := numC (⟨false, qI⟩, 0)) (by simp [results, Tryd.results44, go_sem, numC, numV, c0, c1]) rfl ⟨rfl, (HB6.out.setCell (by simp) _).setCell (by simp) _⟩)

theorem ratio_calls (a b c : Int) (w : World) (a0 : -1000000000000000 ≤ a) (a1 : a ≤ 1000000000000000) (b0 : -1000000000000000 ≤ b) (b1 : b ≤ 1000000000000000) (c0 : -1000000000000000 ≤ c) (c1 : c ≤ 1000000000000000) (hc : c ≠ 0) :
    Calls Tryd.prog 44 #[.int .i64 a, .int .i64 b, .int .i64 c] w (Leaves (numC (ratioP a b c)) w) := by
  have hy : 0 < c.natAbs := by omega
  have lo : a.natAbs * b.natAbs % 18446744073709551616 < 18446744073709551616 := Nat.mod_lt _ (by decide)
  have hsplit : a.natAbs * b.natAbs / 18446744073709551616 * 18446744073709551616 + a.natAbs * b.natAbs % 18446744073709551616 = a.natAbs * b.natAbs := by
    rw [Nat.mul_comm (a.natAbs * b.natAbs / 18446744073709551616)]
    exact Nat.div_add_mod _ _
  have hP : ratioP a b c = fitP (sgnd ((negB a != negB b) != negB c) (a.natAbs * b.natAbs / c.natAbs)) := rfl
  refine ratio_walk a b c a.natAbs b.natAbs c.natAbs ((a.natAbs * b.natAbs / 18446744073709551616 : Nat) : Int) ((a.natAbs * b.natAbs % 18446744073709551616 : Nat) : Int) ((a.natAbs * b.natAbs / c.natAbs : Nat) : Int) w _ rfl
    (Lib.hid fun W => size_calls a W (by omega) (by omega)) (Lib.hid fun W => size_calls b W (by omega) (by omega)) (Lib.hid fun W => size_calls c W (by omega) (by omega))
    (Lib.hid fun W => (Tryd.bits_Mul64 a.natAbs b.natAbs (by omega) (by omega) W).mono fun e w' ⟨h1, h2⟩ => ⟨h1, h2 ▸ Below.refl _ _⟩)
    (Lib.hid fun W h => by
      have := div_any (a.natAbs * b.natAbs / 18446744073709551616) (a.natAbs * b.natAbs % 18446744073709551616) c.natAbs W (by omega) (by omega) lo
      rwa [hsplit] at this)
    (Int.natCast_nonneg _) (ratioP a b c) (Lib.hid fun h => ?_) (Lib.hid fun _ h => ?_) (Lib.hid fun _ h => ?_)
  · have := big_quot hy (show c.natAbs ≤ a.natAbs * b.natAbs / 18446744073709551616 by omega)
    rw [hP, fit_out]
    rw [outB_sgnd]
    exact decide_eq_true (Nat.lt_of_lt_of_le (by decide) this)
  · rw [hP, fit_out]
    rw [outB_sgnd]
    exact decide_eq_true (by omega)
  · rw [hP, fit_ok]
    · rfl
    · rw [outB_sgnd]
      exact decide_eq_false (by omega)

end Go.Proofs.YteddnomneeonhaaDoor
