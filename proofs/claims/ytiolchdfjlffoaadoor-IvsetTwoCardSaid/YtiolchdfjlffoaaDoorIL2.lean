/-
  IvsetTwo: of every two rows of spans union, both, without, sameness and being within are what the reference tells. Conditions: the slices lead to what they are said to; the library's table of powers of ten and its two errors are laid.
-/
import Derived.Test.YtiolchdfjlffoaaDoorIAw
namespace Go.Proofs.YtiolchdfjlffoaaDoor
open Go.RowKit Go.Lib Go.Joins

set_option maxRecDepth 100000 in
set_option maxHeartbeats 16000000 in
theorem two_law {w : World} {va vb : Value} {A B : List Sp} (ha : SpIn w va A) (hb : SpIn w vb B) (hE : IEnv w) : Calls Tryd.prog 3 #[va, vb] w (Leaves (.bool true) w) := by
  have HA := Lib.hid ha
  have HBv := Lib.hid hb
  obtain ⟨aa, ca, rfl, hca, hma, _⟩ := ha.form
  obtain ⟨ab, cb, rfl, hcb, hmb, _⟩ := hb.form
  obtain ⟨na, hna⟩ : ∃ n, A.length = n := ⟨_, rfl⟩
  obtain ⟨nb, hnb⟩ : ∃ n, B.length = n := ⟨_, rfl⟩
  rw [hna] at HA hca ⊢
  rw [hnb] at HBv hcb ⊢
  have hna2 : na ≤ 9223372036854775807 := by unfold maxLen at hma; omega
  have hnb2 : nb ≤ 9223372036854775807 := by unfold maxLen at hmb; omega
  have HN := Lib.hid hna2
  have HM := Lib.hid hnb2
  have HE := Lib.hid hE
  clear ha hb hE hna hnb hca hcb hma hmb hna2 hnb2
  go_enter Tryd.func3, Tryd.ntmps3
  have hc1 := awake_calls w HE.out
  have HC1 := Lib.hid hc1
  clear hc1 
  go_wp2_with fail
  with_reducible refine HC1.out.mono ?_
  rintro e w1 ⟨rfl, hb1⟩
  have HB1 := Lib.hid hb1
  have A_1 := Lib.hid (HA.out.below hb1)
  have B_1 := Lib.hid (HBv.out.below hb1)
  clear hb1 HC1
  have HSM := Lib.hid (small_calls aa ab na nb ca cb w1 HN.out HM.out)
  cases hsm : (decide (na ≤ 300) && decide (nb ≤ 300)) with
  | false =>
    rw [hsm] at HSM
    clear hsm
    go_wp2_with fail
    with_reducible refine HSM.out.mono ?_
    rintro e ws ⟨rfl, rfl⟩
    go_wp2_with fail
    go_ret
    exact ⟨rfl, HB1.out⟩
  | true =>
    rw [hsm] at HSM
    clear hsm
    go_wp2_with fail
    with_reducible refine HSM.out.mono ?_
    rintro e ws ⟨rfl, rfl⟩
    have hc2 := rmay_calls A_1.out
    have HC2 := Lib.hid hc2
    clear hc2 
    go_wp2_with fail
    with_reducible refine HC2.out.mono ?_
    rintro e w2 ⟨rfl, hb2⟩
    have HB2 := Lib.hid (below_then HB1.out hb2)
    have A_2 := Lib.hid (A_1.out.below hb2)
    have B_2 := Lib.hid (B_1.out.below hb2)
    clear hb2 HC2
    cases hMA : mayS A with
    | false =>
      have HEQ : Hid (eqS A B = false) := Lib.hid (by unfold eqS; rw [hMA]; rfl)
      clear hMA
      have hc3 := union_calls A_2.out B_2.out
      unfold SetOut at hc3
      have HC3 := Lib.hid hc3
      clear hc3 
      go_wp2_with fail
      with_reducible refine HC3.out.mono ?_
      rintro e w3 ⟨v3, rfl, hin3, hb3⟩
      obtain ⟨a3, c3, rfl, _⟩ := hin3.form
      have HB3 := Lib.hid (below_then HB2.out hb3)
      have A_3 := Lib.hid (A_2.out.below hb3)
      have B_3 := Lib.hid (B_2.out.below hb3)
      have HI3 := Lib.hid hin3
      obtain ⟨n3, hn3⟩ : ∃ n, (putS orrK A B).length = n := ⟨_, rfl⟩
      rw [hn3] at HI3 ⊢
      have HN3 := Lib.hid hn3
      clear hin3 hb3 hn3 HC3
      have hc4 := orr_calls A_3.out B_3.out
      unfold SetOut at hc4
      have HC4 := Lib.hid hc4
      clear hc4 
      go_wp2_with fail
      with_reducible refine HC4.out.mono ?_
      rintro e w4 ⟨v4, rfl, hin4, hb4⟩
      obtain ⟨a4, c4, rfl, _⟩ := hin4.form
      have HB4 := Lib.hid (below_then HB3.out hb4)
      have A_4 := Lib.hid (A_3.out.below hb4)
      have B_4 := Lib.hid (B_3.out.below hb4)
      have X0_4 := Lib.hid (HI3.out.below hb4)
      have HI4 := Lib.hid hin4
      obtain ⟨n4, hn4⟩ : ∃ n, (putS orrK A B).length = n := ⟨_, rfl⟩
      rw [hn4] at HI4 ⊢
      have HN4 := Lib.hid hn4
      clear hin4 hb4 hn4 HC4
      have hc5 := rsame_calls X0_4.out HI4.out
      rw [sameP_refl] at hc5
      have HC5 := Lib.hid hc5
      clear hc5 
      go_wp2_with fail
      with_reducible refine HC5.out.mono ?_
      rintro e w5 ⟨rfl, hb5⟩
      have HB5 := Lib.hid (below_then HB4.out hb5)
      have A_5 := Lib.hid (A_4.out.below hb5)
      have B_5 := Lib.hid (B_4.out.below hb5)
      have X0_5 := Lib.hid (X0_4.out.below hb5)
      have Y0_5 := Lib.hid (HI4.out.below hb5)
      clear hb5 HC5
      have hc6 := both_calls A_5.out B_5.out
      unfold SetOut at hc6
      have HC6 := Lib.hid hc6
      clear hc6 
      go_wp2_with fail
      with_reducible refine HC6.out.mono ?_
      rintro e w6 ⟨v6, rfl, hin6, hb6⟩
      obtain ⟨a6, c6, rfl, _⟩ := hin6.form
      have HB6 := Lib.hid (below_then HB5.out hb6)
      have A_6 := Lib.hid (A_5.out.below hb6)
      have B_6 := Lib.hid (B_5.out.below hb6)
      have HI6 := Lib.hid hin6
      obtain ⟨n6, hn6⟩ : ∃ n, (putS annK A B).length = n := ⟨_, rfl⟩
      rw [hn6] at HI6 ⊢
      have HN6 := Lib.hid hn6
      clear hin6 hb6 hn6 HC6
      have hc7 := ann_calls A_6.out B_6.out
      unfold SetOut at hc7
      have HC7 := Lib.hid hc7
      clear hc7 
      go_wp2_with fail
      with_reducible refine HC7.out.mono ?_
      rintro e w7 ⟨v7, rfl, hin7, hb7⟩
      obtain ⟨a7, c7, rfl, _⟩ := hin7.form
      have HB7 := Lib.hid (below_then HB6.out hb7)
      have A_7 := Lib.hid (A_6.out.below hb7)
      have B_7 := Lib.hid (B_6.out.below hb7)
      have X1_7 := Lib.hid (HI6.out.below hb7)
      have HI7 := Lib.hid hin7
      obtain ⟨n7, hn7⟩ : ∃ n, (putS annK A B).length = n := ⟨_, rfl⟩
      rw [hn7] at HI7 ⊢
      have HN7 := Lib.hid hn7
      clear hin7 hb7 hn7 HC7
      have hc8 := rsame_calls X1_7.out HI7.out
      rw [sameP_refl] at hc8
      have HC8 := Lib.hid hc8
      clear hc8 
      go_wp2_with fail
      with_reducible refine HC8.out.mono ?_
      rintro e w8 ⟨rfl, hb8⟩
      have HB8 := Lib.hid (below_then HB7.out hb8)
      have A_8 := Lib.hid (A_7.out.below hb8)
      have B_8 := Lib.hid (B_7.out.below hb8)
      have X1_8 := Lib.hid (X1_7.out.below hb8)
      have Y1_8 := Lib.hid (HI7.out.below hb8)
      clear hb8 HC8
      have hc9 := without_calls A_8.out B_8.out
      unfold SetOut at hc9
      have HC9 := Lib.hid hc9
      clear hc9 
      go_wp2_with fail
      with_reducible refine HC9.out.mono ?_
      rintro e w9 ⟨v9, rfl, hin9, hb9⟩
      obtain ⟨a9, c9, rfl, _⟩ := hin9.form
      have HB9 := Lib.hid (below_then HB8.out hb9)
      have A_9 := Lib.hid (A_8.out.below hb9)
      have B_9 := Lib.hid (B_8.out.below hb9)
      have HI9 := Lib.hid hin9
      obtain ⟨n9, hn9⟩ : ∃ n, (putS witK A B).length = n := ⟨_, rfl⟩
      rw [hn9] at HI9 ⊢
      have HN9 := Lib.hid hn9
      clear hin9 hb9 hn9 HC9
      have hc10 := wit_calls A_9.out B_9.out
      unfold SetOut at hc10
      have HC10 := Lib.hid hc10
      clear hc10 
      go_wp2_with fail
      with_reducible refine HC10.out.mono ?_
      rintro e w10 ⟨v10, rfl, hin10, hb10⟩
      obtain ⟨a10, c10, rfl, _⟩ := hin10.form
      have HB10 := Lib.hid (below_then HB9.out hb10)
      have A_10 := Lib.hid (A_9.out.below hb10)
      have B_10 := Lib.hid (B_9.out.below hb10)
      have X2_10 := Lib.hid (HI9.out.below hb10)
      have HI10 := Lib.hid hin10
      obtain ⟨n10, hn10⟩ : ∃ n, (putS witK A B).length = n := ⟨_, rfl⟩
      rw [hn10] at HI10 ⊢
      have HN10 := Lib.hid hn10
      clear hin10 hb10 hn10 HC10
      have hc11 := rsame_calls X2_10.out HI10.out
      rw [sameP_refl] at hc11
      have HC11 := Lib.hid hc11
      clear hc11 
      go_wp2_with fail
      with_reducible refine HC11.out.mono ?_
      rintro e w11 ⟨rfl, hb11⟩
      have HB11 := Lib.hid (below_then HB10.out hb11)
      have A_11 := Lib.hid (A_10.out.below hb11)
      have B_11 := Lib.hid (B_10.out.below hb11)
      have X2_11 := Lib.hid (X2_10.out.below hb11)
      have Y2_11 := Lib.hid (HI10.out.below hb11)
      clear hb11 HC11
      have hc12 := equal_calls A_11.out B_11.out
      rw [HEQ.out] at hc12
      have HC12 := Lib.hid hc12
      clear hc12 
      go_wp2_with fail
      with_reducible refine HC12.out.mono ?_
      rintro e w12 ⟨rfl, hb12⟩
      have HB12 := Lib.hid (below_then HB11.out hb12)
      have A_12 := Lib.hid (A_11.out.below hb12)
      have B_12 := Lib.hid (B_11.out.below hb12)
      clear hb12 HC12
      obtain ⟨r2, hr2⟩ : ∃ r, inP A B = r := ⟨_, rfl⟩
      have HR2 := Lib.hid hr2
      clear hr2
      have hc13 := within_calls A_12.out B_12.out
      rw [HR2.out] at hc13
      have HC13 := Lib.hid hc13
      clear hc13 
      go_wp2_with fail
      with_reducible refine HC13.out.mono ?_
      rintro e w13 ⟨rfl, hb13⟩
      have HB13 := Lib.hid (below_then HB12.out hb13)
      have A_13 := Lib.hid (A_12.out.below hb13)
      have B_13 := Lib.hid (B_12.out.below hb13)
      clear hb13 HC13
      have hc14 := rwithin_calls A_13.out B_13.out
      rw [HR2.out] at hc14
      have HC14 := Lib.hid hc14
      clear hc14 
      go_wp2_with fail
      with_reducible refine HC14.out.mono ?_
      rintro e w14 ⟨rfl, hb14⟩
      have HB14 := Lib.hid (below_then HB13.out hb14)
      have A_14 := Lib.hid (A_13.out.below hb14)
      have B_14 := Lib.hid (B_13.out.below hb14)
      clear hb14 HC14
      go_wp2_with fail
      go_ret
      exact ⟨rfl, HB14.out⟩
    | true =>
      have HMA := Lib.hid hMA
      clear hMA
      have hc3 := rmay_calls B_2.out
      have HC3 := Lib.hid hc3
      clear hc3 
      go_wp2_with fail
      with_reducible refine HC3.out.mono ?_
      rintro e w3 ⟨rfl, hb3⟩
      have HB3 := Lib.hid (below_then HB2.out hb3)
      have A_3 := Lib.hid (A_2.out.below hb3)
      have B_3 := Lib.hid (B_2.out.below hb3)
      clear hb3 HC3
      cases hMB : mayS B with
      | false =>
        have HEQ : Hid (eqS A B = false) := Lib.hid (by unfold eqS; rw [hMB, Bool.and_false]; rfl)
        clear hMB
        have hc4 := union_calls A_3.out B_3.out
        unfold SetOut at hc4
        have HC4 := Lib.hid hc4
        clear hc4 
        go_wp2_with fail
        with_reducible refine HC4.out.mono ?_
        rintro e w4 ⟨v4, rfl, hin4, hb4⟩
        obtain ⟨a4, c4, rfl, _⟩ := hin4.form
        have HB4 := Lib.hid (below_then HB3.out hb4)
        have A_4 := Lib.hid (A_3.out.below hb4)
        have B_4 := Lib.hid (B_3.out.below hb4)
        have HI4 := Lib.hid hin4
        obtain ⟨n4, hn4⟩ : ∃ n, (putS orrK A B).length = n := ⟨_, rfl⟩
        rw [hn4] at HI4 ⊢
        have HN4 := Lib.hid hn4
        clear hin4 hb4 hn4 HC4
        have hc5 := orr_calls A_4.out B_4.out
        unfold SetOut at hc5
        have HC5 := Lib.hid hc5
        clear hc5 
        go_wp2_with fail
        with_reducible refine HC5.out.mono ?_
        rintro e w5 ⟨v5, rfl, hin5, hb5⟩
        obtain ⟨a5, c5, rfl, _⟩ := hin5.form
        have HB5 := Lib.hid (below_then HB4.out hb5)
        have A_5 := Lib.hid (A_4.out.below hb5)
        have B_5 := Lib.hid (B_4.out.below hb5)
        have X0_5 := Lib.hid (HI4.out.below hb5)
        have HI5 := Lib.hid hin5
        obtain ⟨n5, hn5⟩ : ∃ n, (putS orrK A B).length = n := ⟨_, rfl⟩
        rw [hn5] at HI5 ⊢
        have HN5 := Lib.hid hn5
        clear hin5 hb5 hn5 HC5
        have hc6 := rsame_calls X0_5.out HI5.out
        rw [sameP_refl] at hc6
        have HC6 := Lib.hid hc6
        clear hc6 
        go_wp2_with fail
        with_reducible refine HC6.out.mono ?_
        rintro e w6 ⟨rfl, hb6⟩
        have HB6 := Lib.hid (below_then HB5.out hb6)
        have A_6 := Lib.hid (A_5.out.below hb6)
        have B_6 := Lib.hid (B_5.out.below hb6)
        have X0_6 := Lib.hid (X0_5.out.below hb6)
        have Y0_6 := Lib.hid (HI5.out.below hb6)
        clear hb6 HC6
        have hc7 := both_calls A_6.out B_6.out
        unfold SetOut at hc7
        have HC7 := Lib.hid hc7
        clear hc7 
        go_wp2_with fail
        with_reducible refine HC7.out.mono ?_
        rintro e w7 ⟨v7, rfl, hin7, hb7⟩
        obtain ⟨a7, c7, rfl, _⟩ := hin7.form
        have HB7 := Lib.hid (below_then HB6.out hb7)
        have A_7 := Lib.hid (A_6.out.below hb7)
        have B_7 := Lib.hid (B_6.out.below hb7)
        have HI7 := Lib.hid hin7
        obtain ⟨n7, hn7⟩ : ∃ n, (putS annK A B).length = n := ⟨_, rfl⟩
        rw [hn7] at HI7 ⊢
        have HN7 := Lib.hid hn7
        clear hin7 hb7 hn7 HC7
        have hc8 := ann_calls A_7.out B_7.out
        unfold SetOut at hc8
        have HC8 := Lib.hid hc8
        clear hc8 
        go_wp2_with fail
        with_reducible refine HC8.out.mono ?_
        rintro e w8 ⟨v8, rfl, hin8, hb8⟩
        obtain ⟨a8, c8, rfl, _⟩ := hin8.form
        have HB8 := Lib.hid (below_then HB7.out hb8)
        have A_8 := Lib.hid (A_7.out.below hb8)
        have B_8 := Lib.hid (B_7.out.below hb8)
        have X1_8 := Lib.hid (HI7.out.below hb8)
        have HI8 := Lib.hid hin8
        obtain ⟨n8, hn8⟩ : ∃ n, (putS annK A B).length = n := ⟨_, rfl⟩
        rw [hn8] at HI8 ⊢
        have HN8 := Lib.hid hn8
        clear hin8 hb8 hn8 HC8
        have hc9 := rsame_calls X1_8.out HI8.out
        rw [sameP_refl] at hc9
        have HC9 := Lib.hid hc9
        clear hc9 
        go_wp2_with fail
        with_reducible refine HC9.out.mono ?_
        rintro e w9 ⟨rfl, hb9⟩
        have HB9 := Lib.hid (below_then HB8.out hb9)
        have A_9 := Lib.hid (A_8.out.below hb9)
        have B_9 := Lib.hid (B_8.out.below hb9)
        have X1_9 := Lib.hid (X1_8.out.below hb9)
        have Y1_9 := Lib.hid (HI8.out.below hb9)
        clear hb9 HC9
        have hc10 := without_calls A_9.out B_9.out
        unfold SetOut at hc10
        have HC10 := Lib.hid hc10
        clear hc10 
        go_wp2_with fail
        with_reducible refine HC10.out.mono ?_
        rintro e w10 ⟨v10, rfl, hin10, hb10⟩
        obtain ⟨a10, c10, rfl, _⟩ := hin10.form
        have HB10 := Lib.hid (below_then HB9.out hb10)
        have A_10 := Lib.hid (A_9.out.below hb10)
        have B_10 := Lib.hid (B_9.out.below hb10)
        have HI10 := Lib.hid hin10
        obtain ⟨n10, hn10⟩ : ∃ n, (putS witK A B).length = n := ⟨_, rfl⟩
        rw [hn10] at HI10 ⊢
        have HN10 := Lib.hid hn10
        clear hin10 hb10 hn10 HC10
        have hc11 := wit_calls A_10.out B_10.out
        unfold SetOut at hc11
        have HC11 := Lib.hid hc11
        clear hc11 
        go_wp2_with fail
        with_reducible refine HC11.out.mono ?_
        rintro e w11 ⟨v11, rfl, hin11, hb11⟩
        obtain ⟨a11, c11, rfl, _⟩ := hin11.form
        have HB11 := Lib.hid (below_then HB10.out hb11)
        have A_11 := Lib.hid (A_10.out.below hb11)
        have B_11 := Lib.hid (B_10.out.below hb11)
        have X2_11 := Lib.hid (HI10.out.below hb11)
        have HI11 := Lib.hid hin11
        obtain ⟨n11, hn11⟩ : ∃ n, (putS witK A B).length = n := ⟨_, rfl⟩
        rw [hn11] at HI11 ⊢
        have HN11 := Lib.hid hn11
        clear hin11 hb11 hn11 HC11
        have hc12 := rsame_calls X2_11.out HI11.out
        rw [sameP_refl] at hc12
        have HC12 := Lib.hid hc12
        clear hc12 
        go_wp2_with fail
        with_reducible refine HC12.out.mono ?_
        rintro e w12 ⟨rfl, hb12⟩
        have HB12 := Lib.hid (below_then HB11.out hb12)
        have A_12 := Lib.hid (A_11.out.below hb12)
        have B_12 := Lib.hid (B_11.out.below hb12)
        have X2_12 := Lib.hid (X2_11.out.below hb12)
        have Y2_12 := Lib.hid (HI11.out.below hb12)
        clear hb12 HC12
        have hc13 := equal_calls A_12.out B_12.out
        rw [HEQ.out] at hc13
        have HC13 := Lib.hid hc13
        clear hc13 
        go_wp2_with fail
        with_reducible refine HC13.out.mono ?_
        rintro e w13 ⟨rfl, hb13⟩
        have HB13 := Lib.hid (below_then HB12.out hb13)
        have A_13 := Lib.hid (A_12.out.below hb13)
        have B_13 := Lib.hid (B_12.out.below hb13)
        clear hb13 HC13
        obtain ⟨r2, hr2⟩ : ∃ r, inP A B = r := ⟨_, rfl⟩
        have HR2 := Lib.hid hr2
        clear hr2
        have hc14 := within_calls A_13.out B_13.out
        rw [HR2.out] at hc14
        have HC14 := Lib.hid hc14
        clear hc14 
        go_wp2_with fail
        with_reducible refine HC14.out.mono ?_
        rintro e w14 ⟨rfl, hb14⟩
        have HB14 := Lib.hid (below_then HB13.out hb14)
        have A_14 := Lib.hid (A_13.out.below hb14)
        have B_14 := Lib.hid (B_13.out.below hb14)
        clear hb14 HC14
        have hc15 := rwithin_calls A_14.out B_14.out
        rw [HR2.out] at hc15
        have HC15 := Lib.hid hc15
        clear hc15 
        go_wp2_with fail
        with_reducible refine HC15.out.mono ?_
        rintro e w15 ⟨rfl, hb15⟩
        have HB15 := Lib.hid (below_then HB14.out hb15)
        have A_15 := Lib.hid (A_14.out.below hb15)
        have B_15 := Lib.hid (B_14.out.below hb15)
        clear hb15 HC15
        go_wp2_with fail
        go_ret
        exact ⟨rfl, HB15.out⟩
      | true =>
        obtain ⟨r, hr⟩ : ∃ r, sameP A B = r := ⟨_, rfl⟩
        have HEQ : Hid (eqS A B = r) := Lib.hid (by unfold eqS; rw [HMA.out, hMB]; exact hr)
        have HRR := Lib.hid hr
        clear hMB hr
        have hc4 := rsame_calls A_3.out B_3.out
        rw [HRR.out] at hc4
        have HC4 := Lib.hid hc4
        clear hc4 
        go_wp2_with fail
        with_reducible refine HC4.out.mono ?_
        rintro e w4 ⟨rfl, hb4⟩
        have HB4 := Lib.hid (below_then HB3.out hb4)
        have A_4 := Lib.hid (A_3.out.below hb4)
        have B_4 := Lib.hid (B_3.out.below hb4)
        clear hb4 HC4
        have hc5 := union_calls A_4.out B_4.out
        unfold SetOut at hc5
        have HC5 := Lib.hid hc5
        clear hc5 
        go_wp2_with fail
        with_reducible refine HC5.out.mono ?_
        rintro e w5 ⟨v5, rfl, hin5, hb5⟩
        obtain ⟨a5, c5, rfl, _⟩ := hin5.form
        have HB5 := Lib.hid (below_then HB4.out hb5)
        have A_5 := Lib.hid (A_4.out.below hb5)
        have B_5 := Lib.hid (B_4.out.below hb5)
        have HI5 := Lib.hid hin5
        obtain ⟨n5, hn5⟩ : ∃ n, (putS orrK A B).length = n := ⟨_, rfl⟩
        rw [hn5] at HI5 ⊢
        have HN5 := Lib.hid hn5
        clear hin5 hb5 hn5 HC5
        have hc6 := orr_calls A_5.out B_5.out
        unfold SetOut at hc6
        have HC6 := Lib.hid hc6
        clear hc6 
        go_wp2_with fail
        with_reducible refine HC6.out.mono ?_
        rintro e w6 ⟨v6, rfl, hin6, hb6⟩
        obtain ⟨a6, c6, rfl, _⟩ := hin6.form
        have HB6 := Lib.hid (below_then HB5.out hb6)
        have A_6 := Lib.hid (A_5.out.below hb6)
        have B_6 := Lib.hid (B_5.out.below hb6)
        have X0_6 := Lib.hid (HI5.out.below hb6)
        have HI6 := Lib.hid hin6
        obtain ⟨n6, hn6⟩ : ∃ n, (putS orrK A B).length = n := ⟨_, rfl⟩
        rw [hn6] at HI6 ⊢
        have HN6 := Lib.hid hn6
        clear hin6 hb6 hn6 HC6
        have hc7 := rsame_calls X0_6.out HI6.out
        rw [sameP_refl] at hc7
        have HC7 := Lib.hid hc7
        clear hc7 
        go_wp2_with fail
        with_reducible refine HC7.out.mono ?_
        rintro e w7 ⟨rfl, hb7⟩
        have HB7 := Lib.hid (below_then HB6.out hb7)
        have A_7 := Lib.hid (A_6.out.below hb7)
        have B_7 := Lib.hid (B_6.out.below hb7)
        have X0_7 := Lib.hid (X0_6.out.below hb7)
        have Y0_7 := Lib.hid (HI6.out.below hb7)
        clear hb7 HC7
        have hc8 := both_calls A_7.out B_7.out
        unfold SetOut at hc8
        have HC8 := Lib.hid hc8
        clear hc8 
        go_wp2_with fail
        with_reducible refine HC8.out.mono ?_
        rintro e w8 ⟨v8, rfl, hin8, hb8⟩
        obtain ⟨a8, c8, rfl, _⟩ := hin8.form
        have HB8 := Lib.hid (below_then HB7.out hb8)
        have A_8 := Lib.hid (A_7.out.below hb8)
        have B_8 := Lib.hid (B_7.out.below hb8)
        have HI8 := Lib.hid hin8
        obtain ⟨n8, hn8⟩ : ∃ n, (putS annK A B).length = n := ⟨_, rfl⟩
        rw [hn8] at HI8 ⊢
        have HN8 := Lib.hid hn8
        clear hin8 hb8 hn8 HC8
        have hc9 := ann_calls A_8.out B_8.out
        unfold SetOut at hc9
        have HC9 := Lib.hid hc9
        clear hc9 
        go_wp2_with fail
        with_reducible refine HC9.out.mono ?_
        rintro e w9 ⟨v9, rfl, hin9, hb9⟩
        obtain ⟨a9, c9, rfl, _⟩ := hin9.form
        have HB9 := Lib.hid (below_then HB8.out hb9)
        have A_9 := Lib.hid (A_8.out.below hb9)
        have B_9 := Lib.hid (B_8.out.below hb9)
        have X1_9 := Lib.hid (HI8.out.below hb9)
        have HI9 := Lib.hid hin9
        obtain ⟨n9, hn9⟩ : ∃ n, (putS annK A B).length = n := ⟨_, rfl⟩
        rw [hn9] at HI9 ⊢
        have HN9 := Lib.hid hn9
        clear hin9 hb9 hn9 HC9
        have hc10 := rsame_calls X1_9.out HI9.out
        rw [sameP_refl] at hc10
        have HC10 := Lib.hid hc10
        clear hc10 
        go_wp2_with fail
        with_reducible refine HC10.out.mono ?_
        rintro e w10 ⟨rfl, hb10⟩
        have HB10 := Lib.hid (below_then HB9.out hb10)
        have A_10 := Lib.hid (A_9.out.below hb10)
        have B_10 := Lib.hid (B_9.out.below hb10)
        have X1_10 := Lib.hid (X1_9.out.below hb10)
        have Y1_10 := Lib.hid (HI9.out.below hb10)
        clear hb10 HC10
        have hc11 := without_calls A_10.out B_10.out
        unfold SetOut at hc11
        have HC11 := Lib.hid hc11
        clear hc11 
        go_wp2_with fail
        with_reducible refine HC11.out.mono ?_
        rintro e w11 ⟨v11, rfl, hin11, hb11⟩
        obtain ⟨a11, c11, rfl, _⟩ := hin11.form
        have HB11 := Lib.hid (below_then HB10.out hb11)
        have A_11 := Lib.hid (A_10.out.below hb11)
        have B_11 := Lib.hid (B_10.out.below hb11)
        have HI11 := Lib.hid hin11
        obtain ⟨n11, hn11⟩ : ∃ n, (putS witK A B).length = n := ⟨_, rfl⟩
        rw [hn11] at HI11 ⊢
        have HN11 := Lib.hid hn11
        clear hin11 hb11 hn11 HC11
        have hc12 := wit_calls A_11.out B_11.out
        unfold SetOut at hc12
        have HC12 := Lib.hid hc12
        clear hc12 
        go_wp2_with fail
        with_reducible refine HC12.out.mono ?_
        rintro e w12 ⟨v12, rfl, hin12, hb12⟩
        obtain ⟨a12, c12, rfl, _⟩ := hin12.form
        have HB12 := Lib.hid (below_then HB11.out hb12)
        have A_12 := Lib.hid (A_11.out.below hb12)
        have B_12 := Lib.hid (B_11.out.below hb12)
        have X2_12 := Lib.hid (HI11.out.below hb12)
        have HI12 := Lib.hid hin12
        obtain ⟨n12, hn12⟩ : ∃ n, (putS witK A B).length = n := ⟨_, rfl⟩
        rw [hn12] at HI12 ⊢
        have HN12 := Lib.hid hn12
        clear hin12 hb12 hn12 HC12
        have hc13 := rsame_calls X2_12.out HI12.out
        rw [sameP_refl] at hc13
        have HC13 := Lib.hid hc13
        clear hc13 
        go_wp2_with fail
        with_reducible refine HC13.out.mono ?_
        rintro e w13 ⟨rfl, hb13⟩
        have HB13 := Lib.hid (below_then HB12.out hb13)
        have A_13 := Lib.hid (A_12.out.below hb13)
        have B_13 := Lib.hid (B_12.out.below hb13)
        have X2_13 := Lib.hid (X2_12.out.below hb13)
        have Y2_13 := Lib.hid (HI12.out.below hb13)
        clear hb13 HC13
        have hc14 := equal_calls A_13.out B_13.out
        rw [HEQ.out] at hc14
        have HC14 := Lib.hid hc14
        clear hc14 
        go_wp2_with fail
        with_reducible refine HC14.out.mono ?_
        rintro e w14 ⟨rfl, hb14⟩
        have HB14 := Lib.hid (below_then HB13.out hb14)
        have A_14 := Lib.hid (A_13.out.below hb14)
        have B_14 := Lib.hid (B_13.out.below hb14)
        clear hb14 HC14
        obtain ⟨r2, hr2⟩ : ∃ r, inP A B = r := ⟨_, rfl⟩
        have HR2 := Lib.hid hr2
        clear hr2
        have hc15 := within_calls A_14.out B_14.out
        rw [HR2.out] at hc15
        have HC15 := Lib.hid hc15
        clear hc15 
        go_wp2_with fail
        with_reducible refine HC15.out.mono ?_
        rintro e w15 ⟨rfl, hb15⟩
        have HB15 := Lib.hid (below_then HB14.out hb15)
        have A_15 := Lib.hid (A_14.out.below hb15)
        have B_15 := Lib.hid (B_14.out.below hb15)
        clear hb15 HC15
        have hc16 := rwithin_calls A_15.out B_15.out
        rw [HR2.out] at hc16
        have HC16 := Lib.hid hc16
        clear hc16 
        go_wp2_with fail
        with_reducible refine HC16.out.mono ?_
        rintro e w16 ⟨rfl, hb16⟩
        have HB16 := Lib.hid (below_then HB15.out hb16)
        have A_16 := Lib.hid (A_15.out.below hb16)
        have B_16 := Lib.hid (B_15.out.below hb16)
        clear hb16 HC16
        go_wp2_with fail
        go_ret
        exact ⟨rfl, HB16.out⟩
end Go.Proofs.YtiolchdfjlffoaaDoor
