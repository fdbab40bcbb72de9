/-
  IvsetOne: of every row of spans the program tells what the reference tells: whether it is a set, whether a version is in it, how many are, the first and the last; so it is with one more, and with the set of any versions. Conditions: the slices lead to what they are said to; the library's table of powers of ten and its two errors are laid.
-/
import Derived.Test.YtiolchdfjlffoaaDoorIAw
namespace Go.Proofs.YtiolchdfjlffoaaDoor
open Go.RowKit Go.Lib Go.Joins

/-- One number in a literal. -/
theorem num_in (w : World) (v : Int) : IntIn (w.alloc (.cells #[.int .i64 v] 3)) (.slice (some ⟨w.heap.size, 0, none⟩) 1 1) [v] := by
  refine ⟨_, 1, rfl, Nat.le_refl _, by unfold maxLen; omega, fun e => (by cases e), .inr ⟨_, 0, rfl, fun i x hx => ?_⟩⟩
  cases i with
  | zero =>
    obtain rfl : v = x := by simpa using hx
    exact (cell_of_block (heap_alloc_new _ _) 0).trans rfl
  | succ i => simp at hx
set_option maxRecDepth 100000 in
set_option maxHeartbeats 16000000 in
theorem one_law {w : World} {va vl : Value} {A : List Sp} {l : List Int} (ha : SpIn w va A) (v : Int) (hl : IntIn w vl l) (hE : IEnv w) : Calls Tryd.prog 4 #[va, .int .i64 v, vl] w (Leaves (.bool true) w) := by
  have HA := Lib.hid ha
  have HLv := Lib.hid hl
  obtain ⟨aa, ca, rfl, hca, hma, _⟩ := ha.form
  obtain ⟨al, cl, rfl, hcl, hml, _⟩ := hl.form
  obtain ⟨na, hna⟩ : ∃ n, A.length = n := ⟨_, rfl⟩
  obtain ⟨nl, hnl⟩ : ∃ n, l.length = n := ⟨_, rfl⟩
  rw [hna] at HA hca ⊢
  rw [hnl] at HLv hcl ⊢
  have hna2 : na ≤ 9223372036854775807 := by unfold maxLen at hma; omega
  have HN := Lib.hid hna2
  have HE := Lib.hid hE
  clear ha hl hE hna hnl hca hcl hma hml hna2
  go_enter Tryd.func4, Tryd.ntmps4
  have hc1 := awake_calls w HE.out
  have HC1 := Lib.hid hc1
  clear hc1 
  go_wp2_with fail
  with_reducible refine HC1.out.mono ?_
  rintro e w1 ⟨rfl, hb1⟩
  have HB1 := Lib.hid hb1
  have A_1 := Lib.hid (HA.out.below hb1)
  have Z_1 := Lib.hid (HLv.out.below hb1)
  clear hb1 HC1
  have HSM := Lib.hid (small_calls aa none na 0 ca 0 w1 HN.out (by omega))
  cases hsm : (decide (na ≤ 300) && decide (0 ≤ 300)) with
  | false =>
    rw [hsm] at HSM
    clear hsm
    go_wp2_with fail
    with_reducible refine HSM.out.mono ?_
    rintro e ws ⟨rfl, rfl⟩
    go_wp2_with fail
    go_ret
    exact ⟨rfl, HB1.out⟩
  | true =>
    rw [hsm] at HSM
    clear hsm
    go_wp2_with fail
    with_reducible refine HSM.out.mono ?_
    rintro e ws ⟨rfl, rfl⟩
    by_cases hlong : (nl : Int) > 1000
    · go_wp2_with fail
      go_ret
      exact ⟨rfl, HB1.out⟩
    · obtain ⟨bm, hbm⟩ : ∃ r, mayS A = r := ⟨_, rfl⟩
      have Ebm := Lib.hid hbm
      clear hbm
      obtain ⟨bh, hbh⟩ : ∃ r, hasS A v = r := ⟨_, rfl⟩
      have Ebh := Lib.hid hbh
      clear hbh
      obtain ⟨kn, hkn⟩ : ∃ r, cntS A = r := ⟨_, rfl⟩
      have Ekn := Lib.hid hkn
      clear hkn
      obtain ⟨kf, hkf⟩ : ∃ r, fstS A = r := ⟨_, rfl⟩
      have Ekf := Lib.hid hkf
      clear hkf
      obtain ⟨kl, hkl⟩ : ∃ r, lstS A = r := ⟨_, rfl⟩
      have Ekl := Lib.hid hkl
      clear hkl
      have hc2 := rcount_calls A_1.out
      rw [Ekn.out] at hc2
      rw [Ekf.out] at hc2
      rw [Ekl.out] at hc2
      have HC2 := Lib.hid hc2
      clear hc2 
      go_wp2_with fail
      with_reducible refine HC2.out.mono ?_
      rintro e w2 ⟨rfl, hb2⟩
      have HB2 := Lib.hid (below_then HB1.out hb2)
      have A_2 := Lib.hid (A_1.out.below hb2)
      have Z_2 := Lib.hid (Z_1.out.below hb2)
      clear hb2 HC2
      have hc3 := may_calls A_2.out
      rw [Ebm.out] at hc3
      have HC3 := Lib.hid hc3
      clear hc3 
      go_wp2_with fail
      with_reducible refine HC3.out.mono ?_
      rintro e w3 ⟨rfl, hb3⟩
      have HB3 := Lib.hid (below_then HB2.out hb3)
      have A_3 := Lib.hid (A_2.out.below hb3)
      have Z_3 := Lib.hid (Z_2.out.below hb3)
      clear hb3 HC3
      have hc4 := rmay_calls A_3.out
      rw [Ebm.out] at hc4
      have HC4 := Lib.hid hc4
      clear hc4 
      go_wp2_with fail
      with_reducible refine HC4.out.mono ?_
      rintro e w4 ⟨rfl, hb4⟩
      have HB4 := Lib.hid (below_then HB3.out hb4)
      have A_4 := Lib.hid (A_3.out.below hb4)
      have Z_4 := Lib.hid (Z_3.out.below hb4)
      clear hb4 HC4
      have hc5 := has_calls v A_4.out
      rw [Ebh.out] at hc5
      have HC5 := Lib.hid hc5
      clear hc5 
      go_wp2_with fail
      with_reducible refine HC5.out.mono ?_
      rintro e w5 ⟨rfl, hb5⟩
      have HB5 := Lib.hid (below_then HB4.out hb5)
      have A_5 := Lib.hid (A_4.out.below hb5)
      have Z_5 := Lib.hid (Z_4.out.below hb5)
      clear hb5 HC5
      have hc6 := rhas_calls v A_5.out
      rw [Ebh.out] at hc6
      have HC6 := Lib.hid hc6
      clear hc6 
      go_wp2_with fail
      with_reducible refine HC6.out.mono ?_
      rintro e w6 ⟨rfl, hb6⟩
      have HB6 := Lib.hid (below_then HB5.out hb6)
      have A_6 := Lib.hid (A_5.out.below hb6)
      have Z_6 := Lib.hid (Z_5.out.below hb6)
      clear hb6 HC6
      have hc7 := count_calls A_6.out
      rw [Ekn.out] at hc7
      have HC7 := Lib.hid hc7
      clear hc7 
      go_wp2_with fail
      with_reducible refine HC7.out.mono ?_
      rintro e w7 ⟨rfl, hb7⟩
      have HB7 := Lib.hid (below_then HB6.out hb7)
      have A_7 := Lib.hid (A_6.out.below hb7)
      have Z_7 := Lib.hid (Z_6.out.below hb7)
      clear hb7 HC7
      have hc8 := first_calls A_7.out
      rw [Ekf.out] at hc8
      have HC8 := Lib.hid hc8
      clear hc8 
      go_wp2_with fail
      with_reducible refine HC8.out.mono ?_
      rintro e w8 ⟨rfl, hb8⟩
      have HB8 := Lib.hid (below_then HB7.out hb8)
      have A_8 := Lib.hid (A_7.out.below hb8)
      have Z_8 := Lib.hid (Z_7.out.below hb8)
      clear hb8 HC8
      have hc9 := last_calls A_8.out
      rw [Ekl.out] at hc9
      have HC9 := Lib.hid hc9
      clear hc9 
      go_wp2_with fail
      with_reducible refine HC9.out.mono ?_
      rintro e w9 ⟨rfl, hb9⟩
      have HB9 := Lib.hid (below_then HB8.out hb9)
      have A_9 := Lib.hid (A_8.out.below hb9)
      have Z_9 := Lib.hid (Z_8.out.below hb9)
      clear hb9 HC9
      have hc10 := add_calls v A_9.out
      unfold SetOut at hc10
      have HC10 := Lib.hid hc10
      clear hc10 
      go_wp2_with fail
      with_reducible refine HC10.out.mono ?_
      rintro e w10 ⟨v10, rfl, hin10, hb10⟩
      obtain ⟨a10, c10, rfl, _⟩ := hin10.form
      have HB10 := Lib.hid (below_then HB9.out hb10)
      have A_10 := Lib.hid (A_9.out.below hb10)
      have Z_10 := Lib.hid (Z_9.out.below hb10)
      have HI10 := Lib.hid hin10
      obtain ⟨n10, hn10⟩ : ∃ n, (putS orrK A (setF (inI [v]))).length = n := ⟨_, rfl⟩
      rw [hn10] at HI10 ⊢
      have HN10 := Lib.hid hn10
      clear hin10 hb10 hn10 HC10
      obtain ⟨w11, hw11⟩ : ∃ W, World.alloc w10 (.cells #[.int .i64 v] 3) = W := ⟨_, rfl⟩
      have hi11 := num_in w10 v
      rw [hw11] at hi11
      have hb11 : Below (w10).heap.size w10 w11 := by rw [← hw11]; exact (Below.refl _ _).alloc (Nat.le_refl _) _
      have HB11 := Lib.hid (below_then HB10.out hb11)
      have A_11 := Lib.hid (A_10.out.below hb11)
      have Z_11 := Lib.hid (Z_10.out.below hb11)
      have X_11 := Lib.hid (HI10.out.below hb11)
      have HI11 := Lib.hid hi11
      have HW11 := Lib.hid hw11
      clear hi11 hb11 hw11
      have hc12 := rof_calls HI11.out
      unfold SetOut at hc12
      have HC12 := Lib.hid hc12
      clear hc12 
      go_wp2_with (rw [HW11.out])
      with_reducible refine HC12.out.mono ?_
      rintro e w12 ⟨v12, rfl, hin12, hb12⟩
      obtain ⟨a12, c12, rfl, _⟩ := hin12.form
      have HB12 := Lib.hid (below_then HB11.out hb12)
      have A_12 := Lib.hid (A_11.out.below hb12)
      have Z_12 := Lib.hid (Z_11.out.below hb12)
      have X_12 := Lib.hid (X_11.out.below hb12)
      have V_12 := Lib.hid (HI11.out.below hb12)
      have HI12 := Lib.hid hin12
      obtain ⟨n12, hn12⟩ : ∃ n, (setF (inI [v])).length = n := ⟨_, rfl⟩
      rw [hn12] at HI12 ⊢
      have HN12 := Lib.hid hn12
      clear hin12 hb12 hn12 HC12
      have hc13 := orr_calls A_12.out HI12.out
      unfold SetOut at hc13
      have HC13 := Lib.hid hc13
      clear hc13 
      go_wp2_with fail
      with_reducible refine HC13.out.mono ?_
      rintro e w13 ⟨v13, rfl, hin13, hb13⟩
      obtain ⟨a13, c13, rfl, _⟩ := hin13.form
      have HB13 := Lib.hid (below_then HB12.out hb13)
      have A_13 := Lib.hid (A_12.out.below hb13)
      have Z_13 := Lib.hid (Z_12.out.below hb13)
      have X_13 := Lib.hid (X_12.out.below hb13)
      have V_13 := Lib.hid (V_12.out.below hb13)
      have Y_13 := Lib.hid (HI12.out.below hb13)
      have HI13 := Lib.hid hin13
      obtain ⟨n13, hn13⟩ : ∃ n, (putS orrK A (setF (inI [v]))).length = n := ⟨_, rfl⟩
      rw [hn13] at HI13 ⊢
      have HN13 := Lib.hid hn13
      clear hin13 hb13 hn13 HC13
      have hc14 := rsame_calls X_13.out HI13.out
      rw [sameP_refl] at hc14
      have HC14 := Lib.hid hc14
      clear hc14 
      go_wp2_with fail
      with_reducible refine HC14.out.mono ?_
      rintro e w14 ⟨rfl, hb14⟩
      have HB14 := Lib.hid (below_then HB13.out hb14)
      have A_14 := Lib.hid (A_13.out.below hb14)
      have Z_14 := Lib.hid (Z_13.out.below hb14)
      have X_14 := Lib.hid (X_13.out.below hb14)
      have V_14 := Lib.hid (V_13.out.below hb14)
      have Y_14 := Lib.hid (Y_13.out.below hb14)
      have U_14 := Lib.hid (HI13.out.below hb14)
      clear hb14 HC14
      have hc15 := of_calls Z_14.out
      unfold SetOut at hc15
      have HC15 := Lib.hid hc15
      clear hc15 
      go_wp2_with fail
      with_reducible refine HC15.out.mono ?_
      rintro e w15 ⟨v15, rfl, hin15, hb15⟩
      obtain ⟨a15, c15, rfl, _⟩ := hin15.form
      have HB15 := Lib.hid (below_then HB14.out hb15)
      have A_15 := Lib.hid (A_14.out.below hb15)
      have Z_15 := Lib.hid (Z_14.out.below hb15)
      have HI15 := Lib.hid hin15
      obtain ⟨n15, hn15⟩ : ∃ n, (setF (inI l)).length = n := ⟨_, rfl⟩
      rw [hn15] at HI15 ⊢
      have HN15 := Lib.hid hn15
      clear hin15 hb15 hn15 HC15
      have hc16 := rof_calls Z_15.out
      unfold SetOut at hc16
      have HC16 := Lib.hid hc16
      clear hc16 
      go_wp2_with fail
      with_reducible refine HC16.out.mono ?_
      rintro e w16 ⟨v16, rfl, hin16, hb16⟩
      obtain ⟨a16, c16, rfl, _⟩ := hin16.form
      have HB16 := Lib.hid (below_then HB15.out hb16)
      have A_16 := Lib.hid (A_15.out.below hb16)
      have Z_16 := Lib.hid (Z_15.out.below hb16)
      have X_16 := Lib.hid (HI15.out.below hb16)
      have HI16 := Lib.hid hin16
      obtain ⟨n16, hn16⟩ : ∃ n, (setF (inI l)).length = n := ⟨_, rfl⟩
      rw [hn16] at HI16 ⊢
      have HN16 := Lib.hid hn16
      clear hin16 hb16 hn16 HC16
      have hc17 := rsame_calls X_16.out HI16.out
      rw [sameP_refl] at hc17
      have HC17 := Lib.hid hc17
      clear hc17 
      go_wp2_with fail
      with_reducible refine HC17.out.mono ?_
      rintro e w17 ⟨rfl, hb17⟩
      have HB17 := Lib.hid (below_then HB16.out hb17)
      have A_17 := Lib.hid (A_16.out.below hb17)
      have Z_17 := Lib.hid (Z_16.out.below hb17)
      have X_17 := Lib.hid (X_16.out.below hb17)
      have Y_17 := Lib.hid (HI16.out.below hb17)
      clear hb17 HC17
      go_wp2_with fail
      go_ret
      exact ⟨rfl, HB17.out⟩
end Go.Proofs.YtiolchdfjlffoaaDoor
