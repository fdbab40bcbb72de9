/-
  The walk of the law FrameReads at every slice of bytes. No condition.
-/
import Derived.Test.YtoceknldlhmnoaaAwake
namespace Go.Proofs.Ytoceknldlhmnoaa
open Go.RowKit Go.Lib

theorem all_bounds : ∀ (n : Nat) (b : List Nat), b.length ≤ n → (allB b).1.length ≤ b.length ∧ ∀ r ∈ (allB b).1, r.length ≤ b.length
  | 0, b, h => by
    have hb : b = [] := List.length_eq_zero_iff.1 (by omega)
    subst hb
    rw [allB_nil]
    exact ⟨Nat.le_refl _, fun r hr => by cases hr⟩
  | n + 1, b, h => by
    by_cases hs : standsB b = 1
    · obtain ⟨g1, g2, g3, _, g5⟩ := whole hs
      have ih := all_bounds n (b.drop (8 + get32 b)) (by rw [List.length_drop]; omega)
      rw [List.length_drop] at ih
      rw [allB_whole hs]
      refine ⟨?_, fun r hr => ?_⟩
      · show _ + 1 ≤ _
        omega
      · rcases List.mem_cons.1 hr with rfl | hr
        · omega
        · have := ih.2 r hr
          omega
    · rw [allB_else hs]
      exact ⟨Nat.zero_le _, fun r hr => by cases hr⟩
theorem nxtR_len (l : List Nat) : (nxtR l).length ≤ l.length := by
  unfold nxtR
  split
  · next hs =>
    obtain ⟨g1, g2, g3, _, g5⟩ := whole hs
    omega
  · exact Nat.zero_le _

set_option maxRecDepth 100000 in
set_option maxHeartbeats 4000000 in
theorem law_reads {S : Nat → Prop} (a : Option Addr) (l : List Nat) (n c : Nat) (w : World) (hr : Row w S a l) (hn : l.length = n) (h0 : a = none → c = 0) (hc : n ≤ c) (hc2 : c ≤ maxLen) :
    Calls Try.prog 3 #[.slice a n c] w (Leaves (.bool true) w) := by
  have HR := Lib.hid hr
  have HN := Lib.hid hn
  have H0 := Lib.hid h0
  have HC := Lib.hid hc
  have HC2 := Lib.hid hc2
  clear hr hn h0 hc hc2
  go_enter Try.func3, Try.ntmps3
  go_wp2_with fail
  refine (awake_calls w).mono ?_
  rintro e w1 ⟨rfl, hb1⟩
  have HB1 := Lib.hid hb1
  clear hb1
  by_cases hbig : 16384 < n
  · have hd : decide ((n : Int) > 16384) = true := by simp; omega
    go_wp2
    go_ret
    exact ⟨rfl, HB1.out⟩
  have hd : decide ((n : Int) > 16384) = false := by simp; omega
  obtain ⟨v2, w2, hrun2, hown2, -⟩ := (Own.empty w1).append ((HR.out.below HB1.out).below ((Below.refl _ w1).alloc (Nat.le_refl _) (.cells #[] 5))) HN.out H0.out (by simp; omega)
  rw [List.nil_append] at hown2
  have HRUN2 := Lib.hid hrun2
  have HO2 := Lib.hid hown2
  have HB2 := Lib.hid (below_then HB1.out hown2.bel)
  obtain ⟨a2, c2, rfl, hr2, hn2, hcc2, hcm2⟩ := hown2.form
  rw [HN.out] at HRUN2 HO2 hcc2
  have HALL2 := Lib.hid (all_calls a2 l n c2 w2 hr2 HN.out (by omega) hcc2 hcm2 hn2)
  have HR2 := Lib.hid hr2
  have HCC2 := Lib.hid hcc2
  have HCM2 := Lib.hid hcm2
  clear hrun2 hown2 hn2 hr2 hcc2 hcm2
  go_wp2_with (at_builtin; refine wpList_step (fun K hK => step_app HRUN2.out (.tmp 21) (.tmp 22) rfl rfl rfl rfl (hK _ _ ?_)))
  go_wp2_with fail
  refine HALL2.out.mono ?_
  rintro e w3 ⟨x3, rfl, hown3⟩
  have HB3 := Lib.hid (below_then HB2.out hown3.bel)
  have HO3 := Lib.hid hown3
  have HRX := Lib.hid (HR2.out.below hown3.bel)
  clear hown3 HALL2 HR2
  obtain ⟨ax, cx, Sx, hvx, -⟩ := HO3.out.form
  subst hvx
  go_wp2_with fail
  refine (rall_calls a l n c w3 (HR.out.below HB3.out) HN.out (by omega) HC.out HC2.out H0.out).mono ?_
  rintro e w4 ⟨y4, rfl, hown4⟩
  have HB4 := Lib.hid (below_then HB3.out hown4.bel)
  have HO4 := Lib.hid hown4
  have HO34 := Lib.hid (HO3.out.below hown4.bel)
  have HRX4 := Lib.hid (HRX.out.below hown4.bel)
  clear hown4 HRX HO3
  obtain ⟨ay, cy, Sy, hvy, -⟩ := HO4.out.form
  subst hvy
  go_wp2_with fail
  refine (next_calls a2 l n c2 w4 HRX4.out HN.out (by omega) HCC2.out HCM2.out).mono ?_
  rintro e w5 ⟨v5, rfl, hown5⟩
  have HB5 := Lib.hid (below_then HB4.out hown5.bel)
  have HO5 := Lib.hid hown5
  have HO35 := Lib.hid (HO34.out.below hown5.bel)
  have HO45 := Lib.hid (HO4.out.below hown5.bel)
  have HRX5 := Lib.hid (HRX4.out.below hown5.bel)
  clear hown5 HRX4 HO34 HO4
  obtain ⟨av, cv, hvv, -⟩ := HO5.out.form
  subst hvv
  go_wp2_with fail
  refine (rnext_calls a l n c w5 (HR.out.below HB5.out) HN.out (by omega) HC.out HC2.out).mono ?_
  rintro e w6 ⟨v6, rfl, hown6⟩
  have HB6 := Lib.hid (below_then HB5.out hown6.bel)
  have HO6 := Lib.hid hown6
  have HO36 := Lib.hid (HO35.out.below hown6.bel)
  have HO46 := Lib.hid (HO45.out.below hown6.bel)
  have HO56 := Lib.hid (HO5.out.below hown6.bel)
  have HRX6 := Lib.hid (HRX5.out.below hown6.bel)
  clear hown6 HRX5 HO35 HO45 HO5
  obtain ⟨au, cu, hvu, -⟩ := HO6.out.form
  subst hvu
  obtain ⟨hL, hE⟩ := all_bounds n l (by rw [HN.out]; exact Nat.le_refl _)
  rw [HN.out] at hL hE
  have hK := nxtR_len l
  rw [HN.out] at hK
  have HREC : Hid (Calls Try.prog 13 #[.slice ax (allB l).1.length cx, .slice ay (allB l).1.length cy] w6 (Tells (.bool true) w6)) := Lib.hid (by
    obtain ⟨ax', cx', Sx', e1, hx, -⟩ := HO36.out.form
    obtain ⟨ay', cy', Sy', e2, hy, -⟩ := HO46.out.form
    simp only [Value.slice.injEq] at e1 e2
    obtain ⟨rfl, -, rfl⟩ := e1
    obtain ⟨rfl, -, rfl⟩ := e2
    have h := records_calls ax ay (allB l).1 (allB l).1 cx cy _ _ w6 hx hy rfl rfl (by omega) (by omega) (fun f hf => by have := hE f hf; omega) (fun f hf => by have := hE f hf; omega)
    rwa [decide_eq_true rfl] at h)
  have HBY1 : Hid (∀ k, Calls Try.prog 14 #[.slice av (nxtR l).length cv, .slice au (nxtR l).length cu] (w6.drewN k) (Tells (.bool true) (w6.drewN k))) := Lib.hid (fun k => by
    obtain ⟨ax', cx', e1, hx, -⟩ := HO56.out.form
    obtain ⟨ay', cy', e2, hy, -⟩ := HO6.out.form
    simp only [Value.slice.injEq] at e1 e2
    obtain ⟨rfl, -, rfl⟩ := e1
    obtain ⟨rfl, -, rfl⟩ := e2
    have h := bytes_calls av au (nxtR l) (nxtR l) cv cu _ _ (w6.drewN k) (hx.draws k) (hy.draws k) rfl rfl (by omega) (by omega)
    rwa [decide_eq_true rfl] at h)
  have HBY2 : Hid (∀ k, Calls Try.prog 14 #[.slice a2 n c2, .slice a n c] (w6.drewN k) (Tells (.bool true) (w6.drewN k))) := Lib.hid (fun k => by
    have h := bytes_calls a2 a l l c2 c n n (w6.drewN k) (HRX6.out.draws k) ((HR.out.below HB6.out).draws k) HN.out HN.out (by omega) (by omega)
    rwa [decide_eq_true rfl] at h)
  obtain ⟨k1, hk1⟩ : ∃ k, (allB l).1.length = k := ⟨_, rfl⟩
  obtain ⟨k2, hk2⟩ : ∃ k, (nxtR l).length = k := ⟨_, rfl⟩
  obtain ⟨k3, hk3⟩ : ∃ k : Int, (((allB l).2.1 : Nat) : Int) = k := ⟨_, rfl⟩
  obtain ⟨k4, hk4⟩ : ∃ k : Int, (((allB l).2.2 : Nat) : Int) = k := ⟨_, rfl⟩
  obtain ⟨k5, hk5⟩ : ∃ k : Int, ((nxtN l : Nat) : Int) = k := ⟨_, rfl⟩
  obtain ⟨k6, hk6⟩ : ∃ k : Int, ((standsB l : Nat) : Int) = k := ⟨_, rfl⟩
  rw [hk1] at HREC ⊢
  rw [hk2] at HBY1 ⊢
  rw [hk3, hk4, hk5, hk6]
  clear hk1 hk2 hk3 hk4 hk5 hk6 hL hE hK HO36 HO46 HO56 HO6 HRX6
  go_wp2_with fail
  refine HREC.out.mono ?_
  rintro e w7 ⟨rfl, d1, rfl⟩
  go_wp2_with fail
  refine (HBY1.out d1).mono ?_
  rintro e w7 ⟨rfl, d2, hw⟩
  rw [World.drewN_drewN] at hw
  subst hw
  go_wp2_with fail
  refine (HBY2.out _).mono ?_
  rintro e w7 ⟨rfl, d3, rfl⟩
  have HB7 := Lib.hid (below_then HB6.out (below_draws w6 (d1 + d2 + d3)))
  go_wp2
  go_ret
  exact ⟨rfl, HB7.out⟩

end Go.Proofs.Ytoceknldlhmnoaa
