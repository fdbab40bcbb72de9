/-
  IvsetTexts: every set's text, and every text read as a set, are what the reference tells, and a set's text is read as it. Conditions: the slice leads to what it is said to; the library's table of powers of ten and its two errors are laid.
-/
import Derived.Test.YtiolchdfjlffoaaDoorIAw
namespace Go.Proofs.YtiolchdfjlffoaaDoor
open Go.RowKit Go.Lib Go.Joins

theorem read_some {d : List UInt8} {s : List Sp} (h : progP d = some s) : parseR d = some s ∧ mayS s = true := ⟨parseR_of (progP_some h), (progP_some h).1⟩
theorem read_none {d : List UInt8} {S : List Sp} (h : progP d = none) (hS : parseR d = some S) : mayS S = false := by
  cases hm : mayS S with
  | false => rfl
  | true =>
    rw [progP_of (parseR_some hS hm)] at h
    cases h
theorem text_back {A : List Sp} (h : mayS A = true) : progP (textS A) = some A := progP_of ⟨h, by unfold textS; rw [if_pos h]⟩
set_option maxRecDepth 100000 in
set_option maxHeartbeats 16000000 in
theorem texts_law {w : World} {va : Value} {A : List Sp} (ha : SpIn w va A) (d : List UInt8) (hE : IEnv w) : Calls Tryd.prog 5 #[va, .string (strB d)] w (Leaves (.bool true) w) := by
  have HA := Lib.hid ha
  have hsz := strB_size d
  have HP1 := Lib.hid (fun (W : World) (hd : d.length ≤ 100000) (hb : IEnv W) => parse_calls d W hd hb)
  have HP2 := Lib.hid (fun (W : World) (hd : d.length ≤ 100000) => rparse_calls d W hd)
  obtain ⟨z, hz⟩ : ∃ z, strB d = z := ⟨_, rfl⟩
  rw [hz] at hsz HP1 HP2 ⊢
  have HSZ := Lib.hid hsz
  obtain ⟨aa, ca, rfl, hca, hma, _⟩ := ha.form
  obtain ⟨na, hna⟩ : ∃ n, A.length = n := ⟨_, rfl⟩
  rw [hna] at HA hca ⊢
  have hna2 : na ≤ 9223372036854775807 := by unfold maxLen at hma; omega
  have HN := Lib.hid hna2
  have HE := Lib.hid hE
  clear ha hE hna hca hma hna2 hsz hz
  unfold ParseOut at HP1
  unfold ReadOut at HP2
  go_enter Tryd.func5, Tryd.ntmps5
  have hc1 := awake_calls w HE.out
  have HC1 := Lib.hid hc1
  clear hc1 
  go_wp2_with fail
  with_reducible refine HC1.out.mono ?_
  rintro e w1 ⟨rfl, hb1⟩
  have HB1 := Lib.hid hb1
  have A_1 := Lib.hid (HA.out.below hb1)
  clear hb1 HC1
  have HSM := Lib.hid (small_calls aa none na 0 ca 0 w1 HN.out (by omega))
  cases hsm : (decide (na ≤ 300) && decide (0 ≤ 300)) with
  | false =>
    rw [hsm] at HSM
    clear hsm
    go_wp2_with fail
    with_reducible refine HSM.out.mono ?_
    rintro e ws ⟨rfl, rfl⟩
    go_wp2_with fail
    go_ret
    exact ⟨rfl, HB1.out⟩
  | true =>
    rw [hsm] at HSM
    clear hsm
    go_wp2_with fail
    with_reducible refine HSM.out.mono ?_
    rintro e ws ⟨rfl, rfl⟩
    by_cases hlong : (z.size : Int) > 2000
    · go_wp2_with fail
      go_ret
      exact ⟨rfl, HB1.out⟩
    · have hd : d.length ≤ 100000 := by have := HSZ.out; omega
      have HQ1 := Lib.hid (HP1.out w1 hd (HE.out.below HB1.out))
      have HD := Lib.hid hd
      clear hd
      go_wp2_with fail
      with_reducible refine HQ1.out.mono ?_
      rintro e wp ⟨v1, o1, rfl, hbp, hr1⟩
      have HB1 := Lib.hid (below_then HB1.out hbp)
      have A_1 := Lib.hid (A_1.out.below hbp)
      have HR1 := Lib.hid hr1
      clear hbp hr1 HQ1
      have HQ2 := Lib.hid (HP2.out wp HD.out)
      go_wp2_with fail
      with_reducible refine HQ2.out.mono ?_
      rintro e wr ⟨v2, o2, rfl, hbr, hr2⟩
      have HB2 := Lib.hid (below_then HB1.out hbr)
      have A_2 := Lib.hid (A_1.out.below hbr)
      have hboth : (∃ s, o1 = true ∧ o2 = true ∧ SpIn wr v1 s ∧ SpIn wr v2 s) ∨ (o1 = false ∧ o2 = false) := by
        rcases HR1.out with ⟨s, h1, h2, h3⟩ | ⟨h1, h2, _⟩
        · obtain ⟨g1, g2⟩ := read_some h1
          rcases hr2 with ⟨S, k1, k2, k3⟩ | ⟨k1, _⟩
          · rw [g1] at k1
            injection k1 with k1
            subst k1
            exact .inl ⟨s, h2, k2.trans g2, h3.below hbr, k3⟩
          · rw [g1] at k1
            cases k1
        · rcases hr2 with ⟨S, k1, k2, _⟩ | ⟨_, k2, _⟩
          · exact .inr ⟨h2, k2.trans (read_none h1 k1)⟩
          · exact .inr ⟨h2, k2⟩
      clear hbr hr2 HQ2 HR1
      rcases hboth with ⟨s, rfl, rfl, hs1, hs2⟩ | ⟨rfl, rfl⟩
      · obtain ⟨a1, c1, rfl, _⟩ := hs1.form
        obtain ⟨a2, c2, rfl, _⟩ := hs2.form
        obtain ⟨ns, hns⟩ : ∃ n, s.length = n := ⟨_, rfl⟩
        rw [hns] at hs1 hs2 ⊢
        have HS1 := Lib.hid hs1
        have HS2 := Lib.hid hs2
        clear hs1 hs2 hns
        have hc4 := rsame_calls HS1.out HS2.out
        rw [sameP_refl] at hc4
        have HC4 := Lib.hid hc4
        clear hc4 
        go_wp2_with fail
        with_reducible refine HC4.out.mono ?_
        rintro e w4 ⟨rfl, hb4⟩
        have HB4 := Lib.hid (below_then HB2.out hb4)
        have A_4 := Lib.hid (A_2.out.below hb4)
        have S1_4 := Lib.hid (HS1.out.below hb4)
        have S2_4 := Lib.hid (HS2.out.below hb4)
        clear hb4 HC4
        obtain ⟨t, ht⟩ : ∃ t, strB (textS A) = t := ⟨_, rfl⟩
        have HT := Lib.hid ht
        clear ht
        have hc5 := text_calls A_4.out (HE.out.tab.below HB4.out)
        rw [HT.out] at hc5
        have HC5 := Lib.hid hc5
        clear hc5 
        go_wp2_with fail
        with_reducible refine HC5.out.mono ?_
        rintro e w5 ⟨rfl, hb5⟩
        have HB5 := Lib.hid (below_then HB4.out hb5)
        have A_5 := Lib.hid (A_4.out.below hb5)
        clear hb5 HC5
        have hc6 := rtext_calls A_5.out
        rw [HT.out] at hc6
        have HC6 := Lib.hid hc6
        clear hc6 
        go_wp2_with fail
        with_reducible refine HC6.out.mono ?_
        rintro e w6 ⟨rfl, hb6⟩
        have HB6 := Lib.hid (below_then HB5.out hb6)
        have A_6 := Lib.hid (A_5.out.below hb6)
        clear hb6 HC6
        have hc7 := text_calls A_6.out (HE.out.tab.below HB6.out)
        rw [HT.out] at hc7
        have HC7 := Lib.hid hc7
        clear hc7 
        go_wp2_with fail
        with_reducible refine HC7.out.mono ?_
        rintro e w7 ⟨rfl, hb7⟩
        have HB7 := Lib.hid (below_then HB6.out hb7)
        have A_7 := Lib.hid (A_6.out.below hb7)
        clear hb7 HC7
        have hp := parse_calls (textS A) w7 (by have := text_short A; omega) (HE.out.below HB7.out)
        rw [HT.out] at hp
        unfold ParseOut at hp
        have HPT := Lib.hid hp
        clear hp
        go_wp2_with fail
        with_reducible refine HPT.out.mono ?_
        rintro e wt ⟨vt, ot, rfl, hbt, hres⟩
        have HB7 := Lib.hid (below_then HB7.out hbt)
        have A_7 := Lib.hid (A_7.out.below hbt)
        have HRES := Lib.hid hres
        clear hbt HPT hres
        have HMA := Lib.hid (rmay_calls A_7.out)
        go_wp2_with fail
        with_reducible refine HMA.out.mono ?_
        rintro e wm ⟨rfl, hbm⟩
        have HB8 := Lib.hid (below_then HB7.out hbm)
        have A_8 := Lib.hid (A_7.out.below hbm)
        have HBM := Lib.hid hbm
        clear hbm HMA
        cases hmy : mayS A with
        | false =>
          clear hmy
          go_wp2_with fail
          go_ret
          exact ⟨rfl, HB8.out⟩
        | true =>
          have hfin : ot = true ∧ SpIn wm vt A := by
            have hr := HRES.out
            rw [text_back hmy] at hr
            rcases hr with ⟨s, h1, h2, h3⟩ | ⟨h1, _⟩
            · injection h1 with h1
              subst h1
              exact ⟨h2, h3.below HBM.out⟩
            · cases h1
          obtain ⟨rfl, hvt⟩ := hfin
          obtain ⟨at_, ct, rfl, _⟩ := hvt.form
          have HVT := Lib.hid hvt
          clear hmy HRES hvt
          have hnA : A.length = na := by
            obtain ⟨_, _, e, _⟩ := A_8.out
            injection e with _ e _
            exact e.symm
          rw [hnA] at HVT ⊢
          clear hnA
          have hc9 := rsame_calls HVT.out A_8.out
          rw [sameP_refl] at hc9
          have HC9 := Lib.hid hc9
          clear hc9 
          go_wp2_with fail
          with_reducible refine HC9.out.mono ?_
          rintro e w9 ⟨rfl, hb9⟩
          have HB9 := Lib.hid (below_then HB8.out hb9)
          have A_9 := Lib.hid (A_8.out.below hb9)
          have T_9 := Lib.hid (HVT.out.below hb9)
          clear hb9 HC9
          go_wp2_with fail
          go_ret
          exact ⟨rfl, HB9.out⟩
      · obtain ⟨t, ht⟩ : ∃ t, strB (textS A) = t := ⟨_, rfl⟩
        have HT := Lib.hid ht
        clear ht
        have hc4 := text_calls A_2.out (HE.out.tab.below HB2.out)
        rw [HT.out] at hc4
        have HC4 := Lib.hid hc4
        clear hc4 
        go_wp2_with fail
        with_reducible refine HC4.out.mono ?_
        rintro e w4 ⟨rfl, hb4⟩
        have HB4 := Lib.hid (below_then HB2.out hb4)
        have A_4 := Lib.hid (A_2.out.below hb4)
        clear hb4 HC4
        have hc5 := rtext_calls A_4.out
        rw [HT.out] at hc5
        have HC5 := Lib.hid hc5
        clear hc5 
        go_wp2_with fail
        with_reducible refine HC5.out.mono ?_
        rintro e w5 ⟨rfl, hb5⟩
        have HB5 := Lib.hid (below_then HB4.out hb5)
        have A_5 := Lib.hid (A_4.out.below hb5)
        clear hb5 HC5
        have hc6 := text_calls A_5.out (HE.out.tab.below HB5.out)
        rw [HT.out] at hc6
        have HC6 := Lib.hid hc6
        clear hc6 
        go_wp2_with fail
        with_reducible refine HC6.out.mono ?_
        rintro e w6 ⟨rfl, hb6⟩
        have HB6 := Lib.hid (below_then HB5.out hb6)
        have A_6 := Lib.hid (A_5.out.below hb6)
        clear hb6 HC6
        have hp := parse_calls (textS A) w6 (by have := text_short A; omega) (HE.out.below HB6.out)
        rw [HT.out] at hp
        unfold ParseOut at hp
        have HPT := Lib.hid hp
        clear hp
        go_wp2_with fail
        with_reducible refine HPT.out.mono ?_
        rintro e wt ⟨vt, ot, rfl, hbt, hres⟩
        have HB6 := Lib.hid (below_then HB6.out hbt)
        have A_6 := Lib.hid (A_6.out.below hbt)
        have HRES := Lib.hid hres
        clear hbt HPT hres
        have HMA := Lib.hid (rmay_calls A_6.out)
        go_wp2_with fail
        with_reducible refine HMA.out.mono ?_
        rintro e wm ⟨rfl, hbm⟩
        have HB7 := Lib.hid (below_then HB6.out hbm)
        have A_7 := Lib.hid (A_6.out.below hbm)
        have HBM := Lib.hid hbm
        clear hbm HMA
        cases hmy : mayS A with
        | false =>
          clear hmy
          go_wp2_with fail
          go_ret
          exact ⟨rfl, HB7.out⟩
        | true =>
          have hfin : ot = true ∧ SpIn wm vt A := by
            have hr := HRES.out
            rw [text_back hmy] at hr
            rcases hr with ⟨s, h1, h2, h3⟩ | ⟨h1, _⟩
            · injection h1 with h1
              subst h1
              exact ⟨h2, h3.below HBM.out⟩
            · cases h1
          obtain ⟨rfl, hvt⟩ := hfin
          obtain ⟨at_, ct, rfl, _⟩ := hvt.form
          have HVT := Lib.hid hvt
          clear hmy HRES hvt
          have hnA : A.length = na := by
            obtain ⟨_, _, e, _⟩ := A_7.out
            injection e with _ e _
            exact e.symm
          rw [hnA] at HVT ⊢
          clear hnA
          have hc8 := rsame_calls HVT.out A_7.out
          rw [sameP_refl] at hc8
          have HC8 := Lib.hid hc8
          clear hc8 
          go_wp2_with fail
          with_reducible refine HC8.out.mono ?_
          rintro e w8 ⟨rfl, hb8⟩
          have HB8 := Lib.hid (below_then HB7.out hb8)
          have A_8 := Lib.hid (A_7.out.below hb8)
          have T_8 := Lib.hid (HVT.out.below hb8)
          clear hb8 HC8
          go_wp2_with fail
          go_ret
          exact ⟨rfl, HB8.out⟩
end Go.Proofs.YtiolchdfjlffoaaDoor
