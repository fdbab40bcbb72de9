/-
  IvsetLaws: the laws of sets: union and what is in both hang neither on order nor on brackets, and go through one another; a set is what it has in common with another one, and what it has without it. Conditions: the slices lead to what they are said to; the library's table of powers of ten and its two errors are laid.
-/
import Derived.Test.YtiolchdfjlffoaaDoorIAw
namespace Go.Proofs.YtiolchdfjlffoaaDoor
open Go.RowKit Go.Lib Go.Joins

theorem eq_sets {X Y : List Sp} (hX : mayS X = true) (hY : mayS Y = true) (h : ∀ v, inS X v = inS Y v) : eqS X Y = true := by
  unfold eqS
  rw [hX, hY, canonS hX hY h, sameP_refl]
  rfl
theorem in_orr {A B : List Sp} (hA : mayS A = true) (hB : mayS B = true) (v : Int) : inS (putS orrK A B) v = (inS A v || inS B v) := putS_in hA hB rfl v
theorem in_ann {A B : List Sp} (hA : mayS A = true) (hB : mayS B = true) (v : Int) : inS (putS annK A B) v = (inS A v && inS B v) := putS_in hA hB rfl v
theorem in_wit {A B : List Sp} (hA : mayS A = true) (hB : mayS B = true) (v : Int) : inS (putS witK A B) v = (inS A v && !inS B v) := putS_in hA hB rfl v
theorem lawU2 {A B : List Sp} (hA : mayS A = true) (hB : mayS B = true) : eqS (putS orrK A B) (putS orrK B A) = true :=
  eq_sets (putS_may _ _ _) (putS_may _ _ _) fun v => by
    rw [in_orr hA hB, in_orr hB hA]
    cases inS A v <;> cases inS B v <;> rfl
theorem lawN2 {A B : List Sp} (hA : mayS A = true) (hB : mayS B = true) : eqS (putS annK A B) (putS annK B A) = true :=
  eq_sets (putS_may _ _ _) (putS_may _ _ _) fun v => by
    rw [in_ann hA hB, in_ann hB hA]
    cases inS A v <;> cases inS B v <;> rfl
theorem lawU3 {A B C : List Sp} (hA : mayS A = true) (hB : mayS B = true) (hC : mayS C = true) : eqS (putS orrK A (putS orrK B C)) (putS orrK (putS orrK A B) C) = true :=
  eq_sets (putS_may _ _ _) (putS_may _ _ _) fun v => by
    rw [in_orr hA (putS_may _ _ _), in_orr hB hC, in_orr (putS_may _ _ _) hC, in_orr hA hB]
    cases inS A v <;> cases inS B v <;> cases inS C v <;> rfl
theorem lawN3 {A B C : List Sp} (hA : mayS A = true) (hB : mayS B = true) (hC : mayS C = true) : eqS (putS annK A (putS annK B C)) (putS annK (putS annK A B) C) = true :=
  eq_sets (putS_may _ _ _) (putS_may _ _ _) fun v => by
    rw [in_ann hA (putS_may _ _ _), in_ann hB hC, in_ann (putS_may _ _ _) hC, in_ann hA hB]
    cases inS A v <;> cases inS B v <;> cases inS C v <;> rfl
theorem lawD1 {A B C : List Sp} (hA : mayS A = true) (hB : mayS B = true) (hC : mayS C = true) : eqS (putS annK A (putS orrK B C)) (putS orrK (putS annK A B) (putS annK A C)) = true :=
  eq_sets (putS_may _ _ _) (putS_may _ _ _) fun v => by
    rw [in_ann hA (putS_may _ _ _), in_orr hB hC, in_orr (putS_may _ _ _) (putS_may _ _ _), in_ann hA hB, in_ann hA hC]
    cases inS A v <;> cases inS B v <;> cases inS C v <;> rfl
theorem lawD2 {A B C : List Sp} (hA : mayS A = true) (hB : mayS B = true) (hC : mayS C = true) : eqS (putS witK A (putS orrK B C)) (putS annK (putS witK A B) (putS witK A C)) = true :=
  eq_sets (putS_may _ _ _) (putS_may _ _ _) fun v => by
    rw [in_wit hA (putS_may _ _ _), in_orr hB hC, in_ann (putS_may _ _ _) (putS_may _ _ _), in_wit hA hB, in_wit hA hC]
    cases inS A v <;> cases inS B v <;> cases inS C v <;> rfl
theorem lawP {A B : List Sp} (hA : mayS A = true) (hB : mayS B = true) : eqS (putS orrK (putS annK A B) (putS witK A B)) A = true :=
  eq_sets (putS_may _ _ _) hA fun v => by
    rw [in_orr (putS_may _ _ _) (putS_may _ _ _), in_ann hA hB, in_wit hA hB]
    cases inS A v <;> cases inS B v <;> rfl
theorem in_none (v : Int) : inS [] v = false := rfl
theorem lawE {A B : List Sp} (hA : mayS A = true) (hB : mayS B = true) : putS annK (putS witK A B) B = [] :=
  canonS (putS_may _ _ _) rfl fun v => by
    rw [in_ann (putS_may _ _ _) hB, in_wit hA hB, in_none]
    cases inS A v <;> cases inS B v <;> rfl
theorem lawW {A B : List Sp} (hA : mayS A = true) (hB : mayS B = true) : inP A (putS orrK A B) = true := by
  have h : putS witK A (putS orrK A B) = [] := canonS (putS_may _ _ _) rfl fun v => by
    rw [in_wit hA (putS_may _ _ _), in_orr hA hB, in_none]
    cases inS A v <;> cases inS B v <;> rfl
  unfold inP
  rw [hA, putS_may, h]
  rfl
theorem cnt_may {l : List Sp} (h : mayS l = true) : cntS l = cntTo (inS l) 200 := by
  unfold cntS
  rw [if_pos h]
  exact (cnt_of h).1
theorem cntTo_most (g : Int → Bool) : ∀ n : Nat, 0 ≤ cntTo g n ∧ cntTo g n ≤ (n : Int)
  | 0 => ⟨Int.le_refl _, Int.le_refl _⟩
  | n + 1 => by
    have := cntTo_most g n
    rw [cntTo]
    split <;> omega
theorem cnt_most (l : List Sp) : 0 ≤ cntS l ∧ cntS l ≤ 200 := by
  cases hm : mayS l with
  | true =>
    rw [cnt_may hm]
    exact cntTo_most _ 200
  | false =>
    unfold cntS
    rw [hm]
    exact ⟨Int.le_refl _, (by decide : (0 : Int) ≤ 200)⟩
theorem lawC {A B : List Sp} (hA : mayS A = true) (hB : mayS B = true) : cntS (putS orrK A B) + cntS (putS annK A B) = cntS A + cntS B := by
  rw [cnt_may (putS_may _ _ _), cnt_may (putS_may _ _ _), cnt_may hA, cnt_may hB, funext (in_orr hA hB), funext (in_ann hA hB)]
  exact cntTo_two _ _ 200

set_option maxRecDepth 100000 in
set_option maxHeartbeats 32000000 in
theorem laws_law {w : World} {va vb vc : Value} {A B C : List Sp} (ha : SpIn w va A) (hb : SpIn w vb B) (hc : SpIn w vc C) (hE : IEnv w) : Calls Tryd.prog 6 #[va, vb, vc] w (Leaves (.bool true) w) := by
  have HA := Lib.hid ha
  have HBv := Lib.hid hb
  have HCv := Lib.hid hc
  obtain ⟨aa, ca, rfl, hca, hma, _⟩ := ha.form
  obtain ⟨ab, cb, rfl, hcb, hmb, _⟩ := hb.form
  obtain ⟨ac, cc, rfl, hcc, hmc, _⟩ := hc.form
  obtain ⟨na, hna⟩ : ∃ n, A.length = n := ⟨_, rfl⟩
  obtain ⟨nb, hnb⟩ : ∃ n, B.length = n := ⟨_, rfl⟩
  obtain ⟨nc, hnc⟩ : ∃ n, C.length = n := ⟨_, rfl⟩
  rw [hna] at HA hca ⊢
  rw [hnb] at HBv hcb ⊢
  rw [hnc] at HCv hcc ⊢
  have hna2 : na ≤ 9223372036854775807 := by unfold maxLen at hma; omega
  have hnb2 : nb ≤ 9223372036854775807 := by unfold maxLen at hmb; omega
  have hnc2 : nc ≤ 9223372036854775807 := by unfold maxLen at hmc; omega
  have HNA := Lib.hid hna2
  have HNB := Lib.hid hnb2
  have HNC := Lib.hid hnc2
  have HE := Lib.hid hE
  clear ha hb hc hE hna hnb hnc hca hcb hcc hma hmb hmc hna2 hnb2 hnc2
  go_enter Tryd.func6, Tryd.ntmps6
  have hc1 := awake_calls w HE.out
  have HC1 := Lib.hid hc1
  clear hc1 
  go_wp2_with fail
  with_reducible refine HC1.out.mono ?_
  rintro e w1 ⟨rfl, hb1⟩
  have HB1 := Lib.hid hb1
  have A_1 := Lib.hid (HA.out.below hb1)
  have B_1 := Lib.hid (HBv.out.below hb1)
  have C_1 := Lib.hid (HCv.out.below hb1)
  clear hb1 HC1
  have HSM1 := Lib.hid (small_calls aa ab na nb ca cb w1 HNA.out HNB.out)
  cases hsm1 : (decide (na ≤ 300) && decide (nb ≤ 300)) with
  | false =>
    rw [hsm1] at HSM1
    clear hsm1
    go_wp2_with fail
    with_reducible refine HSM1.out.mono ?_
    rintro e ws1 ⟨rfl, rfl⟩
    go_wp2_with fail
    go_ret
    exact ⟨rfl, HB1.out⟩
  | true =>
    rw [hsm1] at HSM1
    clear hsm1
    go_wp2_with fail
    with_reducible refine HSM1.out.mono ?_
    rintro e ws1 ⟨rfl, rfl⟩
    clear HSM1
    have HSM2 := Lib.hid (small_calls ac none nc 0 cc 0 w1 HNC.out (by omega))
    cases hsm2 : (decide (nc ≤ 300) && decide (0 ≤ 300)) with
    | false =>
      rw [hsm2] at HSM2
      clear hsm2
      go_wp2_with fail
      with_reducible refine HSM2.out.mono ?_
      rintro e ws2 ⟨rfl, rfl⟩
      go_wp2_with fail
      go_ret
      exact ⟨rfl, HB1.out⟩
    | true =>
      rw [hsm2] at HSM2
      clear hsm2
      go_wp2_with fail
      with_reducible refine HSM2.out.mono ?_
      rintro e ws2 ⟨rfl, rfl⟩
      clear HSM2
      have hc2 := rmay_calls A_1.out
      have HC2 := Lib.hid hc2
      clear hc2 
      go_wp2_with fail
      with_reducible refine HC2.out.mono ?_
      rintro e w2 ⟨rfl, hb2⟩
      have HB2 := Lib.hid (below_then HB1.out hb2)
      have A_2 := Lib.hid (A_1.out.below hb2)
      have B_2 := Lib.hid (B_1.out.below hb2)
      have C_2 := Lib.hid (C_1.out.below hb2)
      clear hb2 HC2
      cases hmA : mayS A with
      | false =>
        clear hmA
        go_wp2_with fail
        go_ret
        exact ⟨rfl, HB2.out⟩
      | true =>
        have HMA := Lib.hid hmA
        clear hmA
        have hc3 := rmay_calls B_2.out
        have HC3 := Lib.hid hc3
        clear hc3 
        go_wp2_with fail
        with_reducible refine HC3.out.mono ?_
        rintro e w3 ⟨rfl, hb3⟩
        have HB3 := Lib.hid (below_then HB2.out hb3)
        have A_3 := Lib.hid (A_2.out.below hb3)
        have B_3 := Lib.hid (B_2.out.below hb3)
        have C_3 := Lib.hid (C_2.out.below hb3)
        clear hb3 HC3
        cases hmB : mayS B with
        | false =>
          clear hmB
          go_wp2_with fail
          go_ret
          exact ⟨rfl, HB3.out⟩
        | true =>
          have HMB := Lib.hid hmB
          clear hmB
          have hc4 := rmay_calls C_3.out
          have HC4 := Lib.hid hc4
          clear hc4 
          go_wp2_with fail
          with_reducible refine HC4.out.mono ?_
          rintro e w4 ⟨rfl, hb4⟩
          have HB4 := Lib.hid (below_then HB3.out hb4)
          have A_4 := Lib.hid (A_3.out.below hb4)
          have B_4 := Lib.hid (B_3.out.below hb4)
          have C_4 := Lib.hid (C_3.out.below hb4)
          clear hb4 HC4
          cases hmC : mayS C with
          | false =>
            clear hmC
            go_wp2_with fail
            go_ret
            exact ⟨rfl, HB4.out⟩
          | true =>
            have HMC := Lib.hid hmC
            clear hmC
            have hc5 := union_calls A_4.out B_4.out
            unfold SetOut at hc5
            have HC5 := Lib.hid hc5
            clear hc5 
            go_wp2_with fail
            with_reducible refine HC5.out.mono ?_
            rintro e w5 ⟨v5, rfl, hin5, hb5⟩
            obtain ⟨a5, c5, rfl, _⟩ := hin5.form
            have HB5 := Lib.hid (below_then HB4.out hb5)
            have A_5 := Lib.hid (A_4.out.below hb5)
            have B_5 := Lib.hid (B_4.out.below hb5)
            have C_5 := Lib.hid (C_4.out.below hb5)
            have HI5 := Lib.hid hin5
            obtain ⟨n5, hn5⟩ : ∃ n, ((putS orrK A B)).length = n := ⟨_, rfl⟩
            rw [hn5] at HI5 ⊢
            have HN5 := Lib.hid hn5
            clear hin5 hb5 hn5 HC5
            have hc6 := union_calls B_5.out A_5.out
            unfold SetOut at hc6
            have HC6 := Lib.hid hc6
            clear hc6 
            go_wp2_with fail
            with_reducible refine HC6.out.mono ?_
            rintro e w6 ⟨v6, rfl, hin6, hb6⟩
            obtain ⟨a6, c6, rfl, _⟩ := hin6.form
            have HB6 := Lib.hid (below_then HB5.out hb6)
            have A_6 := Lib.hid (A_5.out.below hb6)
            have B_6 := Lib.hid (B_5.out.below hb6)
            have C_6 := Lib.hid (C_5.out.below hb6)
            have R1_6 := Lib.hid (HI5.out.below hb6)
            have HI6 := Lib.hid hin6
            obtain ⟨n6, hn6⟩ : ∃ n, ((putS orrK B A)).length = n := ⟨_, rfl⟩
            rw [hn6] at HI6 ⊢
            have HN6 := Lib.hid hn6
            clear hin6 hb6 hn6 HC6
            have hc7 := equal_calls R1_6.out HI6.out
            rw [lawU2 HMA.out HMB.out] at hc7
            have HC7 := Lib.hid hc7
            clear hc7 
            go_wp2_with fail
            with_reducible refine HC7.out.mono ?_
            rintro e w7 ⟨rfl, hb7⟩
            have HB7 := Lib.hid (below_then HB6.out hb7)
            have A_7 := Lib.hid (A_6.out.below hb7)
            have B_7 := Lib.hid (B_6.out.below hb7)
            have C_7 := Lib.hid (C_6.out.below hb7)
            have R1_7 := Lib.hid (R1_6.out.below hb7)
            have R2_7 := Lib.hid (HI6.out.below hb7)
            clear hb7 HC7
            have hc8 := both_calls A_7.out B_7.out
            unfold SetOut at hc8
            have HC8 := Lib.hid hc8
            clear hc8 
            go_wp2_with fail
            with_reducible refine HC8.out.mono ?_
            rintro e w8 ⟨v8, rfl, hin8, hb8⟩
            obtain ⟨a8, c8, rfl, _⟩ := hin8.form
            have HB8 := Lib.hid (below_then HB7.out hb8)
            have A_8 := Lib.hid (A_7.out.below hb8)
            have B_8 := Lib.hid (B_7.out.below hb8)
            have C_8 := Lib.hid (C_7.out.below hb8)
            have HI8 := Lib.hid hin8
            obtain ⟨n8, hn8⟩ : ∃ n, ((putS annK A B)).length = n := ⟨_, rfl⟩
            rw [hn8] at HI8 ⊢
            have HN8 := Lib.hid hn8
            clear hin8 hb8 hn8 HC8
            have hc9 := both_calls B_8.out A_8.out
            unfold SetOut at hc9
            have HC9 := Lib.hid hc9
            clear hc9 
            go_wp2_with fail
            with_reducible refine HC9.out.mono ?_
            rintro e w9 ⟨v9, rfl, hin9, hb9⟩
            obtain ⟨a9, c9, rfl, _⟩ := hin9.form
            have HB9 := Lib.hid (below_then HB8.out hb9)
            have A_9 := Lib.hid (A_8.out.below hb9)
            have B_9 := Lib.hid (B_8.out.below hb9)
            have C_9 := Lib.hid (C_8.out.below hb9)
            have R3_9 := Lib.hid (HI8.out.below hb9)
            have HI9 := Lib.hid hin9
            obtain ⟨n9, hn9⟩ : ∃ n, ((putS annK B A)).length = n := ⟨_, rfl⟩
            rw [hn9] at HI9 ⊢
            have HN9 := Lib.hid hn9
            clear hin9 hb9 hn9 HC9
            have hc10 := equal_calls R3_9.out HI9.out
            rw [lawN2 HMA.out HMB.out] at hc10
            have HC10 := Lib.hid hc10
            clear hc10 
            go_wp2_with fail
            with_reducible refine HC10.out.mono ?_
            rintro e w10 ⟨rfl, hb10⟩
            have HB10 := Lib.hid (below_then HB9.out hb10)
            have A_10 := Lib.hid (A_9.out.below hb10)
            have B_10 := Lib.hid (B_9.out.below hb10)
            have C_10 := Lib.hid (C_9.out.below hb10)
            have R3_10 := Lib.hid (R3_9.out.below hb10)
            have R4_10 := Lib.hid (HI9.out.below hb10)
            clear hb10 HC10
            have hc11 := union_calls B_10.out C_10.out
            unfold SetOut at hc11
            have HC11 := Lib.hid hc11
            clear hc11 
            go_wp2_with fail
            with_reducible refine HC11.out.mono ?_
            rintro e w11 ⟨v11, rfl, hin11, hb11⟩
            obtain ⟨a11, c11, rfl, _⟩ := hin11.form
            have HB11 := Lib.hid (below_then HB10.out hb11)
            have A_11 := Lib.hid (A_10.out.below hb11)
            have B_11 := Lib.hid (B_10.out.below hb11)
            have C_11 := Lib.hid (C_10.out.below hb11)
            have HI11 := Lib.hid hin11
            obtain ⟨n11, hn11⟩ : ∃ n, ((putS orrK B C)).length = n := ⟨_, rfl⟩
            rw [hn11] at HI11 ⊢
            have HN11 := Lib.hid hn11
            clear hin11 hb11 hn11 HC11
            have hc12 := union_calls A_11.out HI11.out
            unfold SetOut at hc12
            have HC12 := Lib.hid hc12
            clear hc12 
            go_wp2_with fail
            with_reducible refine HC12.out.mono ?_
            rintro e w12 ⟨v12, rfl, hin12, hb12⟩
            obtain ⟨a12, c12, rfl, _⟩ := hin12.form
            have HB12 := Lib.hid (below_then HB11.out hb12)
            have A_12 := Lib.hid (A_11.out.below hb12)
            have B_12 := Lib.hid (B_11.out.below hb12)
            have C_12 := Lib.hid (C_11.out.below hb12)
            have R5_12 := Lib.hid (HI11.out.below hb12)
            have HI12 := Lib.hid hin12
            obtain ⟨n12, hn12⟩ : ∃ n, ((putS orrK A (putS orrK B C))).length = n := ⟨_, rfl⟩
            rw [hn12] at HI12 ⊢
            have HN12 := Lib.hid hn12
            clear hin12 hb12 hn12 HC12
            have hc13 := union_calls A_12.out B_12.out
            unfold SetOut at hc13
            have HC13 := Lib.hid hc13
            clear hc13 
            go_wp2_with fail
            with_reducible refine HC13.out.mono ?_
            rintro e w13 ⟨v13, rfl, hin13, hb13⟩
            obtain ⟨a13, c13, rfl, _⟩ := hin13.form
            have HB13 := Lib.hid (below_then HB12.out hb13)
            have A_13 := Lib.hid (A_12.out.below hb13)
            have B_13 := Lib.hid (B_12.out.below hb13)
            have C_13 := Lib.hid (C_12.out.below hb13)
            have R6_13 := Lib.hid (HI12.out.below hb13)
            have HI13 := Lib.hid hin13
            obtain ⟨n13, hn13⟩ : ∃ n, ((putS orrK A B)).length = n := ⟨_, rfl⟩
            rw [hn13] at HI13 ⊢
            have HN13 := Lib.hid hn13
            clear hin13 hb13 hn13 HC13
            have hc14 := union_calls HI13.out C_13.out
            unfold SetOut at hc14
            have HC14 := Lib.hid hc14
            clear hc14 
            go_wp2_with fail
            with_reducible refine HC14.out.mono ?_
            rintro e w14 ⟨v14, rfl, hin14, hb14⟩
            obtain ⟨a14, c14, rfl, _⟩ := hin14.form
            have HB14 := Lib.hid (below_then HB13.out hb14)
            have A_14 := Lib.hid (A_13.out.below hb14)
            have B_14 := Lib.hid (B_13.out.below hb14)
            have C_14 := Lib.hid (C_13.out.below hb14)
            have R6_14 := Lib.hid (R6_13.out.below hb14)
            have R7_14 := Lib.hid (HI13.out.below hb14)
            have HI14 := Lib.hid hin14
            obtain ⟨n14, hn14⟩ : ∃ n, ((putS orrK (putS orrK A B) C)).length = n := ⟨_, rfl⟩
            rw [hn14] at HI14 ⊢
            have HN14 := Lib.hid hn14
            clear hin14 hb14 hn14 HC14
            have hc15 := equal_calls R6_14.out HI14.out
            rw [lawU3 HMA.out HMB.out HMC.out] at hc15
            have HC15 := Lib.hid hc15
            clear hc15 
            go_wp2_with fail
            with_reducible refine HC15.out.mono ?_
            rintro e w15 ⟨rfl, hb15⟩
            have HB15 := Lib.hid (below_then HB14.out hb15)
            have A_15 := Lib.hid (A_14.out.below hb15)
            have B_15 := Lib.hid (B_14.out.below hb15)
            have C_15 := Lib.hid (C_14.out.below hb15)
            have R6_15 := Lib.hid (R6_14.out.below hb15)
            have R8_15 := Lib.hid (HI14.out.below hb15)
            clear hb15 HC15
            have hc16 := both_calls B_15.out C_15.out
            unfold SetOut at hc16
            have HC16 := Lib.hid hc16
            clear hc16 
            go_wp2_with fail
            with_reducible refine HC16.out.mono ?_
            rintro e w16 ⟨v16, rfl, hin16, hb16⟩
            obtain ⟨a16, c16, rfl, _⟩ := hin16.form
            have HB16 := Lib.hid (below_then HB15.out hb16)
            have A_16 := Lib.hid (A_15.out.below hb16)
            have B_16 := Lib.hid (B_15.out.below hb16)
            have C_16 := Lib.hid (C_15.out.below hb16)
            have HI16 := Lib.hid hin16
            obtain ⟨n16, hn16⟩ : ∃ n, ((putS annK B C)).length = n := ⟨_, rfl⟩
            rw [hn16] at HI16 ⊢
            have HN16 := Lib.hid hn16
            clear hin16 hb16 hn16 HC16
            have hc17 := both_calls A_16.out HI16.out
            unfold SetOut at hc17
            have HC17 := Lib.hid hc17
            clear hc17 
            go_wp2_with fail
            with_reducible refine HC17.out.mono ?_
            rintro e w17 ⟨v17, rfl, hin17, hb17⟩
            obtain ⟨a17, c17, rfl, _⟩ := hin17.form
            have HB17 := Lib.hid (below_then HB16.out hb17)
            have A_17 := Lib.hid (A_16.out.below hb17)
            have B_17 := Lib.hid (B_16.out.below hb17)
            have C_17 := Lib.hid (C_16.out.below hb17)
            have R9_17 := Lib.hid (HI16.out.below hb17)
            have HI17 := Lib.hid hin17
            obtain ⟨n17, hn17⟩ : ∃ n, ((putS annK A (putS annK B C))).length = n := ⟨_, rfl⟩
            rw [hn17] at HI17 ⊢
            have HN17 := Lib.hid hn17
            clear hin17 hb17 hn17 HC17
            have hc18 := both_calls A_17.out B_17.out
            unfold SetOut at hc18
            have HC18 := Lib.hid hc18
            clear hc18 
            go_wp2_with fail
            with_reducible refine HC18.out.mono ?_
            rintro e w18 ⟨v18, rfl, hin18, hb18⟩
            obtain ⟨a18, c18, rfl, _⟩ := hin18.form
            have HB18 := Lib.hid (below_then HB17.out hb18)
            have A_18 := Lib.hid (A_17.out.below hb18)
            have B_18 := Lib.hid (B_17.out.below hb18)
            have C_18 := Lib.hid (C_17.out.below hb18)
            have R10_18 := Lib.hid (HI17.out.below hb18)
            have HI18 := Lib.hid hin18
            obtain ⟨n18, hn18⟩ : ∃ n, ((putS annK A B)).length = n := ⟨_, rfl⟩
            rw [hn18] at HI18 ⊢
            have HN18 := Lib.hid hn18
            clear hin18 hb18 hn18 HC18
            have hc19 := both_calls HI18.out C_18.out
            unfold SetOut at hc19
            have HC19 := Lib.hid hc19
            clear hc19 
            go_wp2_with fail
            with_reducible refine HC19.out.mono ?_
            rintro e w19 ⟨v19, rfl, hin19, hb19⟩
            obtain ⟨a19, c19, rfl, _⟩ := hin19.form
            have HB19 := Lib.hid (below_then HB18.out hb19)
            have A_19 := Lib.hid (A_18.out.below hb19)
            have B_19 := Lib.hid (B_18.out.below hb19)
            have C_19 := Lib.hid (C_18.out.below hb19)
            have R10_19 := Lib.hid (R10_18.out.below hb19)
            have R11_19 := Lib.hid (HI18.out.below hb19)
            have HI19 := Lib.hid hin19
            obtain ⟨n19, hn19⟩ : ∃ n, ((putS annK (putS annK A B) C)).length = n := ⟨_, rfl⟩
            rw [hn19] at HI19 ⊢
            have HN19 := Lib.hid hn19
            clear hin19 hb19 hn19 HC19
            have hc20 := equal_calls R10_19.out HI19.out
            rw [lawN3 HMA.out HMB.out HMC.out] at hc20
            have HC20 := Lib.hid hc20
            clear hc20 
            go_wp2_with fail
            with_reducible refine HC20.out.mono ?_
            rintro e w20 ⟨rfl, hb20⟩
            have HB20 := Lib.hid (below_then HB19.out hb20)
            have A_20 := Lib.hid (A_19.out.below hb20)
            have B_20 := Lib.hid (B_19.out.below hb20)
            have C_20 := Lib.hid (C_19.out.below hb20)
            have R10_20 := Lib.hid (R10_19.out.below hb20)
            have R12_20 := Lib.hid (HI19.out.below hb20)
            clear hb20 HC20
            have hc21 := union_calls B_20.out C_20.out
            unfold SetOut at hc21
            have HC21 := Lib.hid hc21
            clear hc21 
            go_wp2_with fail
            with_reducible refine HC21.out.mono ?_
            rintro e w21 ⟨v21, rfl, hin21, hb21⟩
            obtain ⟨a21, c21, rfl, _⟩ := hin21.form
            have HB21 := Lib.hid (below_then HB20.out hb21)
            have A_21 := Lib.hid (A_20.out.below hb21)
            have B_21 := Lib.hid (B_20.out.below hb21)
            have C_21 := Lib.hid (C_20.out.below hb21)
            have HI21 := Lib.hid hin21
            obtain ⟨n21, hn21⟩ : ∃ n, ((putS orrK B C)).length = n := ⟨_, rfl⟩
            rw [hn21] at HI21 ⊢
            have HN21 := Lib.hid hn21
            clear hin21 hb21 hn21 HC21
            have hc22 := both_calls A_21.out HI21.out
            unfold SetOut at hc22
            have HC22 := Lib.hid hc22
            clear hc22 
            go_wp2_with fail
            with_reducible refine HC22.out.mono ?_
            rintro e w22 ⟨v22, rfl, hin22, hb22⟩
            obtain ⟨a22, c22, rfl, _⟩ := hin22.form
            have HB22 := Lib.hid (below_then HB21.out hb22)
            have A_22 := Lib.hid (A_21.out.below hb22)
            have B_22 := Lib.hid (B_21.out.below hb22)
            have C_22 := Lib.hid (C_21.out.below hb22)
            have R13_22 := Lib.hid (HI21.out.below hb22)
            have HI22 := Lib.hid hin22
            obtain ⟨n22, hn22⟩ : ∃ n, ((putS annK A (putS orrK B C))).length = n := ⟨_, rfl⟩
            rw [hn22] at HI22 ⊢
            have HN22 := Lib.hid hn22
            clear hin22 hb22 hn22 HC22
            have hc23 := both_calls A_22.out B_22.out
            unfold SetOut at hc23
            have HC23 := Lib.hid hc23
            clear hc23 
            go_wp2_with fail
            with_reducible refine HC23.out.mono ?_
            rintro e w23 ⟨v23, rfl, hin23, hb23⟩
            obtain ⟨a23, c23, rfl, _⟩ := hin23.form
            have HB23 := Lib.hid (below_then HB22.out hb23)
            have A_23 := Lib.hid (A_22.out.below hb23)
            have B_23 := Lib.hid (B_22.out.below hb23)
            have C_23 := Lib.hid (C_22.out.below hb23)
            have R14_23 := Lib.hid (HI22.out.below hb23)
            have HI23 := Lib.hid hin23
            obtain ⟨n23, hn23⟩ : ∃ n, ((putS annK A B)).length = n := ⟨_, rfl⟩
            rw [hn23] at HI23 ⊢
            have HN23 := Lib.hid hn23
            clear hin23 hb23 hn23 HC23
            have hc24 := both_calls A_23.out C_23.out
            unfold SetOut at hc24
            have HC24 := Lib.hid hc24
            clear hc24 
            go_wp2_with fail
            with_reducible refine HC24.out.mono ?_
            rintro e w24 ⟨v24, rfl, hin24, hb24⟩
            obtain ⟨a24, c24, rfl, _⟩ := hin24.form
            have HB24 := Lib.hid (below_then HB23.out hb24)
            have A_24 := Lib.hid (A_23.out.below hb24)
            have B_24 := Lib.hid (B_23.out.below hb24)
            have C_24 := Lib.hid (C_23.out.below hb24)
            have R14_24 := Lib.hid (R14_23.out.below hb24)
            have R15_24 := Lib.hid (HI23.out.below hb24)
            have HI24 := Lib.hid hin24
            obtain ⟨n24, hn24⟩ : ∃ n, ((putS annK A C)).length = n := ⟨_, rfl⟩
            rw [hn24] at HI24 ⊢
            have HN24 := Lib.hid hn24
            clear hin24 hb24 hn24 HC24
            have hc25 := union_calls R15_24.out HI24.out
            unfold SetOut at hc25
            have HC25 := Lib.hid hc25
            clear hc25 
            go_wp2_with fail
            with_reducible refine HC25.out.mono ?_
            rintro e w25 ⟨v25, rfl, hin25, hb25⟩
            obtain ⟨a25, c25, rfl, _⟩ := hin25.form
            have HB25 := Lib.hid (below_then HB24.out hb25)
            have A_25 := Lib.hid (A_24.out.below hb25)
            have B_25 := Lib.hid (B_24.out.below hb25)
            have C_25 := Lib.hid (C_24.out.below hb25)
            have R14_25 := Lib.hid (R14_24.out.below hb25)
            have R15_25 := Lib.hid (R15_24.out.below hb25)
            have R16_25 := Lib.hid (HI24.out.below hb25)
            have HI25 := Lib.hid hin25
            obtain ⟨n25, hn25⟩ : ∃ n, ((putS orrK (putS annK A B) (putS annK A C))).length = n := ⟨_, rfl⟩
            rw [hn25] at HI25 ⊢
            have HN25 := Lib.hid hn25
            clear hin25 hb25 hn25 HC25
            have hc26 := equal_calls R14_25.out HI25.out
            rw [lawD1 HMA.out HMB.out HMC.out] at hc26
            have HC26 := Lib.hid hc26
            clear hc26 
            go_wp2_with fail
            with_reducible refine HC26.out.mono ?_
            rintro e w26 ⟨rfl, hb26⟩
            have HB26 := Lib.hid (below_then HB25.out hb26)
            have A_26 := Lib.hid (A_25.out.below hb26)
            have B_26 := Lib.hid (B_25.out.below hb26)
            have C_26 := Lib.hid (C_25.out.below hb26)
            have R14_26 := Lib.hid (R14_25.out.below hb26)
            have R17_26 := Lib.hid (HI25.out.below hb26)
            clear hb26 HC26
            have hc27 := union_calls B_26.out C_26.out
            unfold SetOut at hc27
            have HC27 := Lib.hid hc27
            clear hc27 
            go_wp2_with fail
            with_reducible refine HC27.out.mono ?_
            rintro e w27 ⟨v27, rfl, hin27, hb27⟩
            obtain ⟨a27, c27, rfl, _⟩ := hin27.form
            have HB27 := Lib.hid (below_then HB26.out hb27)
            have A_27 := Lib.hid (A_26.out.below hb27)
            have B_27 := Lib.hid (B_26.out.below hb27)
            have C_27 := Lib.hid (C_26.out.below hb27)
            have HI27 := Lib.hid hin27
            obtain ⟨n27, hn27⟩ : ∃ n, ((putS orrK B C)).length = n := ⟨_, rfl⟩
            rw [hn27] at HI27 ⊢
            have HN27 := Lib.hid hn27
            clear hin27 hb27 hn27 HC27
            have hc28 := without_calls A_27.out HI27.out
            unfold SetOut at hc28
            have HC28 := Lib.hid hc28
            clear hc28 
            go_wp2_with fail
            with_reducible refine HC28.out.mono ?_
            rintro e w28 ⟨v28, rfl, hin28, hb28⟩
            obtain ⟨a28, c28, rfl, _⟩ := hin28.form
            have HB28 := Lib.hid (below_then HB27.out hb28)
            have A_28 := Lib.hid (A_27.out.below hb28)
            have B_28 := Lib.hid (B_27.out.below hb28)
            have C_28 := Lib.hid (C_27.out.below hb28)
            have R18_28 := Lib.hid (HI27.out.below hb28)
            have HI28 := Lib.hid hin28
            obtain ⟨n28, hn28⟩ : ∃ n, ((putS witK A (putS orrK B C))).length = n := ⟨_, rfl⟩
            rw [hn28] at HI28 ⊢
            have HN28 := Lib.hid hn28
            clear hin28 hb28 hn28 HC28
            have hc29 := without_calls A_28.out B_28.out
            unfold SetOut at hc29
            have HC29 := Lib.hid hc29
            clear hc29 
            go_wp2_with fail
            with_reducible refine HC29.out.mono ?_
            rintro e w29 ⟨v29, rfl, hin29, hb29⟩
            obtain ⟨a29, c29, rfl, _⟩ := hin29.form
            have HB29 := Lib.hid (below_then HB28.out hb29)
            have A_29 := Lib.hid (A_28.out.below hb29)
            have B_29 := Lib.hid (B_28.out.below hb29)
            have C_29 := Lib.hid (C_28.out.below hb29)
            have R19_29 := Lib.hid (HI28.out.below hb29)
            have HI29 := Lib.hid hin29
            obtain ⟨n29, hn29⟩ : ∃ n, ((putS witK A B)).length = n := ⟨_, rfl⟩
            rw [hn29] at HI29 ⊢
            have HN29 := Lib.hid hn29
            clear hin29 hb29 hn29 HC29
            have hc30 := without_calls A_29.out C_29.out
            unfold SetOut at hc30
            have HC30 := Lib.hid hc30
            clear hc30 
            go_wp2_with fail
            with_reducible refine HC30.out.mono ?_
            rintro e w30 ⟨v30, rfl, hin30, hb30⟩
            obtain ⟨a30, c30, rfl, _⟩ := hin30.form
            have HB30 := Lib.hid (below_then HB29.out hb30)
            have A_30 := Lib.hid (A_29.out.below hb30)
            have B_30 := Lib.hid (B_29.out.below hb30)
            have C_30 := Lib.hid (C_29.out.below hb30)
            have R19_30 := Lib.hid (R19_29.out.below hb30)
            have R20_30 := Lib.hid (HI29.out.below hb30)
            have HI30 := Lib.hid hin30
            obtain ⟨n30, hn30⟩ : ∃ n, ((putS witK A C)).length = n := ⟨_, rfl⟩
            rw [hn30] at HI30 ⊢
            have HN30 := Lib.hid hn30
            clear hin30 hb30 hn30 HC30
            have hc31 := both_calls R20_30.out HI30.out
            unfold SetOut at hc31
            have HC31 := Lib.hid hc31
            clear hc31 
            go_wp2_with fail
            with_reducible refine HC31.out.mono ?_
            rintro e w31 ⟨v31, rfl, hin31, hb31⟩
            obtain ⟨a31, c31, rfl, _⟩ := hin31.form
            have HB31 := Lib.hid (below_then HB30.out hb31)
            have A_31 := Lib.hid (A_30.out.below hb31)
            have B_31 := Lib.hid (B_30.out.below hb31)
            have C_31 := Lib.hid (C_30.out.below hb31)
            have R19_31 := Lib.hid (R19_30.out.below hb31)
            have R20_31 := Lib.hid (R20_30.out.below hb31)
            have R21_31 := Lib.hid (HI30.out.below hb31)
            have HI31 := Lib.hid hin31
            obtain ⟨n31, hn31⟩ : ∃ n, ((putS annK (putS witK A B) (putS witK A C))).length = n := ⟨_, rfl⟩
            rw [hn31] at HI31 ⊢
            have HN31 := Lib.hid hn31
            clear hin31 hb31 hn31 HC31
            have hc32 := equal_calls R19_31.out HI31.out
            rw [lawD2 HMA.out HMB.out HMC.out] at hc32
            have HC32 := Lib.hid hc32
            clear hc32 
            go_wp2_with fail
            with_reducible refine HC32.out.mono ?_
            rintro e w32 ⟨rfl, hb32⟩
            have HB32 := Lib.hid (below_then HB31.out hb32)
            have A_32 := Lib.hid (A_31.out.below hb32)
            have B_32 := Lib.hid (B_31.out.below hb32)
            have C_32 := Lib.hid (C_31.out.below hb32)
            have R19_32 := Lib.hid (R19_31.out.below hb32)
            have R22_32 := Lib.hid (HI31.out.below hb32)
            clear hb32 HC32
            have hc33 := both_calls A_32.out B_32.out
            unfold SetOut at hc33
            have HC33 := Lib.hid hc33
            clear hc33 
            go_wp2_with fail
            with_reducible refine HC33.out.mono ?_
            rintro e w33 ⟨v33, rfl, hin33, hb33⟩
            obtain ⟨a33, c33, rfl, _⟩ := hin33.form
            have HB33 := Lib.hid (below_then HB32.out hb33)
            have A_33 := Lib.hid (A_32.out.below hb33)
            have B_33 := Lib.hid (B_32.out.below hb33)
            have C_33 := Lib.hid (C_32.out.below hb33)
            have HI33 := Lib.hid hin33
            obtain ⟨n33, hn33⟩ : ∃ n, ((putS annK A B)).length = n := ⟨_, rfl⟩
            rw [hn33] at HI33 ⊢
            have HN33 := Lib.hid hn33
            clear hin33 hb33 hn33 HC33
            have hc34 := without_calls A_33.out B_33.out
            unfold SetOut at hc34
            have HC34 := Lib.hid hc34
            clear hc34 
            go_wp2_with fail
            with_reducible refine HC34.out.mono ?_
            rintro e w34 ⟨v34, rfl, hin34, hb34⟩
            obtain ⟨a34, c34, rfl, _⟩ := hin34.form
            have HB34 := Lib.hid (below_then HB33.out hb34)
            have A_34 := Lib.hid (A_33.out.below hb34)
            have B_34 := Lib.hid (B_33.out.below hb34)
            have C_34 := Lib.hid (C_33.out.below hb34)
            have R23_34 := Lib.hid (HI33.out.below hb34)
            have HI34 := Lib.hid hin34
            obtain ⟨n34, hn34⟩ : ∃ n, ((putS witK A B)).length = n := ⟨_, rfl⟩
            rw [hn34] at HI34 ⊢
            have HN34 := Lib.hid hn34
            clear hin34 hb34 hn34 HC34
            have hc35 := union_calls R23_34.out HI34.out
            unfold SetOut at hc35
            have HC35 := Lib.hid hc35
            clear hc35 
            go_wp2_with fail
            with_reducible refine HC35.out.mono ?_
            rintro e w35 ⟨v35, rfl, hin35, hb35⟩
            obtain ⟨a35, c35, rfl, _⟩ := hin35.form
            have HB35 := Lib.hid (below_then HB34.out hb35)
            have A_35 := Lib.hid (A_34.out.below hb35)
            have B_35 := Lib.hid (B_34.out.below hb35)
            have C_35 := Lib.hid (C_34.out.below hb35)
            have R23_35 := Lib.hid (R23_34.out.below hb35)
            have R24_35 := Lib.hid (HI34.out.below hb35)
            have HI35 := Lib.hid hin35
            obtain ⟨n35, hn35⟩ : ∃ n, ((putS orrK (putS annK A B) (putS witK A B))).length = n := ⟨_, rfl⟩
            rw [hn35] at HI35 ⊢
            have HN35 := Lib.hid hn35
            clear hin35 hb35 hn35 HC35
            have hc36 := equal_calls HI35.out A_35.out
            rw [lawP HMA.out HMB.out] at hc36
            have HC36 := Lib.hid hc36
            clear hc36 
            go_wp2_with fail
            with_reducible refine HC36.out.mono ?_
            rintro e w36 ⟨rfl, hb36⟩
            have HB36 := Lib.hid (below_then HB35.out hb36)
            have A_36 := Lib.hid (A_35.out.below hb36)
            have B_36 := Lib.hid (B_35.out.below hb36)
            have C_36 := Lib.hid (C_35.out.below hb36)
            have R25_36 := Lib.hid (HI35.out.below hb36)
            clear hb36 HC36
            have hc37 := without_calls A_36.out B_36.out
            unfold SetOut at hc37
            have HC37 := Lib.hid hc37
            clear hc37 
            go_wp2_with fail
            with_reducible refine HC37.out.mono ?_
            rintro e w37 ⟨v37, rfl, hin37, hb37⟩
            obtain ⟨a37, c37, rfl, _⟩ := hin37.form
            have HB37 := Lib.hid (below_then HB36.out hb37)
            have A_37 := Lib.hid (A_36.out.below hb37)
            have B_37 := Lib.hid (B_36.out.below hb37)
            have C_37 := Lib.hid (C_36.out.below hb37)
            have HI37 := Lib.hid hin37
            obtain ⟨n37, hn37⟩ : ∃ n, ((putS witK A B)).length = n := ⟨_, rfl⟩
            rw [hn37] at HI37 ⊢
            have HN37 := Lib.hid hn37
            clear hin37 hb37 hn37 HC37
            have hc38 := both_calls HI37.out B_37.out
            unfold SetOut at hc38
            have HC38 := Lib.hid hc38
            clear hc38 
            go_wp2_with fail
            with_reducible refine HC38.out.mono ?_
            rintro e w38 ⟨v38, rfl, hin38, hb38⟩
            obtain ⟨a38, c38, rfl, _⟩ := hin38.form
            have HB38 := Lib.hid (below_then HB37.out hb38)
            have A_38 := Lib.hid (A_37.out.below hb38)
            have B_38 := Lib.hid (B_37.out.below hb38)
            have C_38 := Lib.hid (C_37.out.below hb38)
            have R26_38 := Lib.hid (HI37.out.below hb38)
            have HI38 := Lib.hid hin38
            obtain ⟨n38, hn38⟩ : ∃ n, ((putS annK (putS witK A B) B)).length = n := ⟨_, rfl⟩
            rw [hn38] at HI38 ⊢
            have HN38 := Lib.hid hn38
            clear hin38 hb38 hn38 HC38
            obtain rfl : n38 = 0 := by rw [← HN38.out, lawE HMA.out HMB.out]; rfl
            have hc39 := union_calls A_38.out B_38.out
            unfold SetOut at hc39
            have HC39 := Lib.hid hc39
            clear hc39 
            go_wp2_with fail
            with_reducible refine HC39.out.mono ?_
            rintro e w39 ⟨v39, rfl, hin39, hb39⟩
            obtain ⟨a39, c39, rfl, _⟩ := hin39.form
            have HB39 := Lib.hid (below_then HB38.out hb39)
            have A_39 := Lib.hid (A_38.out.below hb39)
            have B_39 := Lib.hid (B_38.out.below hb39)
            have C_39 := Lib.hid (C_38.out.below hb39)
            have HI39 := Lib.hid hin39
            obtain ⟨n39, hn39⟩ : ∃ n, ((putS orrK A B)).length = n := ⟨_, rfl⟩
            rw [hn39] at HI39 ⊢
            have HN39 := Lib.hid hn39
            clear hin39 hb39 hn39 HC39
            have hc40 := within_calls A_39.out HI39.out
            rw [lawW HMA.out HMB.out] at hc40
            have HC40 := Lib.hid hc40
            clear hc40 
            go_wp2_with fail
            with_reducible refine HC40.out.mono ?_
            rintro e w40 ⟨rfl, hb40⟩
            have HB40 := Lib.hid (below_then HB39.out hb40)
            have A_40 := Lib.hid (A_39.out.below hb40)
            have B_40 := Lib.hid (B_39.out.below hb40)
            have C_40 := Lib.hid (C_39.out.below hb40)
            have R28_40 := Lib.hid (HI39.out.below hb40)
            clear hb40 HC40
            have hsum := lawC HMA.out HMB.out
            have c1 := cnt_most (putS orrK A B)
            have c2 := cnt_most (putS annK A B)
            have c3 := cnt_most A
            have c4 := cnt_most B
            obtain ⟨k1, hk1⟩ : ∃ k, cntS (putS orrK A B) = k := ⟨_, rfl⟩
            obtain ⟨k2, hk2⟩ : ∃ k, cntS (putS annK A B) = k := ⟨_, rfl⟩
            obtain ⟨k3, hk3⟩ : ∃ k, cntS A = k := ⟨_, rfl⟩
            obtain ⟨k4, hk4⟩ : ∃ k, cntS B = k := ⟨_, rfl⟩
            rw [hk1, hk2, hk3, hk4] at hsum
            rw [hk1] at c1
            rw [hk2] at c2
            rw [hk3] at c3
            rw [hk4] at c4
            have K1 := Lib.hid hk1
            have K2 := Lib.hid hk2
            have K3 := Lib.hid hk3
            have K4 := Lib.hid hk4
            have KS := Lib.hid hsum
            have KC := Lib.hid (And.intro c1 (And.intro c2 (And.intro c3 c4)))
            clear hk1 hk2 hk3 hk4 hsum c1 c2 c3 c4
            have hc41 := union_calls A_40.out B_40.out
            unfold SetOut at hc41
            have HC41 := Lib.hid hc41
            clear hc41 
            go_wp2_with fail
            with_reducible refine HC41.out.mono ?_
            rintro e w41 ⟨v41, rfl, hin41, hb41⟩
            obtain ⟨a41, c41, rfl, _⟩ := hin41.form
            have HB41 := Lib.hid (below_then HB40.out hb41)
            have A_41 := Lib.hid (A_40.out.below hb41)
            have B_41 := Lib.hid (B_40.out.below hb41)
            have C_41 := Lib.hid (C_40.out.below hb41)
            have HI41 := Lib.hid hin41
            obtain ⟨n41, hn41⟩ : ∃ n, ((putS orrK A B)).length = n := ⟨_, rfl⟩
            rw [hn41] at HI41 ⊢
            have HN41 := Lib.hid hn41
            clear hin41 hb41 hn41 HC41
            have hc42 := count_calls HI41.out
            rw [K1.out] at hc42
            have HC42 := Lib.hid hc42
            clear hc42 
            go_wp2_with fail
            with_reducible refine HC42.out.mono ?_
            rintro e w42 ⟨rfl, hb42⟩
            have HB42 := Lib.hid (below_then HB41.out hb42)
            have A_42 := Lib.hid (A_41.out.below hb42)
            have B_42 := Lib.hid (B_41.out.below hb42)
            have C_42 := Lib.hid (C_41.out.below hb42)
            have R29_42 := Lib.hid (HI41.out.below hb42)
            clear hb42 HC42
            have hc43 := both_calls A_42.out B_42.out
            unfold SetOut at hc43
            have HC43 := Lib.hid hc43
            clear hc43 
            go_wp2_with fail
            with_reducible refine HC43.out.mono ?_
            rintro e w43 ⟨v43, rfl, hin43, hb43⟩
            obtain ⟨a43, c43, rfl, _⟩ := hin43.form
            have HB43 := Lib.hid (below_then HB42.out hb43)
            have A_43 := Lib.hid (A_42.out.below hb43)
            have B_43 := Lib.hid (B_42.out.below hb43)
            have C_43 := Lib.hid (C_42.out.below hb43)
            have HI43 := Lib.hid hin43
            obtain ⟨n43, hn43⟩ : ∃ n, ((putS annK A B)).length = n := ⟨_, rfl⟩
            rw [hn43] at HI43 ⊢
            have HN43 := Lib.hid hn43
            clear hin43 hb43 hn43 HC43
            have hc44 := count_calls HI43.out
            rw [K2.out] at hc44
            have HC44 := Lib.hid hc44
            clear hc44 
            go_wp2_with fail
            with_reducible refine HC44.out.mono ?_
            rintro e w44 ⟨rfl, hb44⟩
            have HB44 := Lib.hid (below_then HB43.out hb44)
            have A_44 := Lib.hid (A_43.out.below hb44)
            have B_44 := Lib.hid (B_43.out.below hb44)
            have C_44 := Lib.hid (C_43.out.below hb44)
            have R30_44 := Lib.hid (HI43.out.below hb44)
            clear hb44 HC44
            have hc45 := count_calls A_44.out
            rw [K3.out] at hc45
            have HC45 := Lib.hid hc45
            clear hc45 
            go_wp2_with fail
            with_reducible refine HC45.out.mono ?_
            rintro e w45 ⟨rfl, hb45⟩
            have HB45 := Lib.hid (below_then HB44.out hb45)
            have A_45 := Lib.hid (A_44.out.below hb45)
            have B_45 := Lib.hid (B_44.out.below hb45)
            have C_45 := Lib.hid (C_44.out.below hb45)
            clear hb45 HC45
            have hc46 := count_calls B_45.out
            rw [K4.out] at hc46
            have HC46 := Lib.hid hc46
            clear hc46 
            go_wp2_with fail
            with_reducible refine HC46.out.mono ?_
            rintro e w46 ⟨rfl, hb46⟩
            have HB46 := Lib.hid (below_then HB45.out hb46)
            have A_46 := Lib.hid (A_45.out.below hb46)
            have B_46 := Lib.hid (B_45.out.below hb46)
            have C_46 := Lib.hid (C_45.out.below hb46)
            clear hb46 HC46
            have KA : k1 + k2 = k3 + k4 := KS.out
            obtain ⟨⟨x1, x2⟩, ⟨x3, x4⟩, ⟨x5, x6⟩, ⟨x7, x8⟩⟩ := KC.out
            go_wp2_with fail
            go_ret
            exact ⟨by show Ending.returned (.bool (wrap64 (k3 + k4) == k3 + k4)) = _; rw [show wrap64 (k3 + k4) = k3 + k4 from by unfold wrap64; omega, beq_self_eq_true], HB46.out⟩
end Go.Proofs.YtiolchdfjlffoaaDoor
