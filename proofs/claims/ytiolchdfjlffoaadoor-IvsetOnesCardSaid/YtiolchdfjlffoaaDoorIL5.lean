/-
  IvsetOnes: a set's versions, told one by one, and put together in whatever order, are the set. Conditions: the slice leads to what it is said to; the library's table of powers of ten and its two errors are laid.
-/
import Derived.Test.YtiolchdfjlffoaaDoorIOi
namespace Go.Proofs.YtiolchdfjlffoaaDoor
open Go.RowKit Go.Lib Go.Joins

set_option maxRecDepth 100000 in
set_option maxHeartbeats 16000000 in
theorem ones_law {w : World} {va : Value} {A : List Sp} (ha : SpIn w va A) (t : Nat) (ht : t < 256) (hE : IEnv w) : Calls Tryd.prog 7 #[va, .int .u8 (t : Int)] w (Leaves (.bool true) w) := by
  have HA := Lib.hid ha
  obtain ⟨aa, ca, rfl, hca, hma, _⟩ := ha.form
  obtain ⟨na, hna⟩ : ∃ n, A.length = n := ⟨_, rfl⟩
  rw [hna] at HA hca ⊢
  have HE := Lib.hid hE
  have HTB := Lib.hid ht
  clear ha hE hna hca hma ht
  go_enter Tryd.func7, Tryd.ntmps7
  have hc1 := awake_calls w HE.out
  have HC1 := Lib.hid hc1
  clear hc1 
  go_wp2_with fail
  with_reducible refine HC1.out.mono ?_
  rintro e w1 ⟨rfl, hb1⟩
  have HB1 := Lib.hid hb1
  have A_1 := Lib.hid (HA.out.below hb1)
  clear hb1 HC1
  have hc2 := rmay_calls A_1.out
  have HC2 := Lib.hid hc2
  clear hc2 
  go_wp2_with fail
  with_reducible refine HC2.out.mono ?_
  rintro e w2 ⟨rfl, hb2⟩
  have HB2 := Lib.hid (below_then HB1.out hb2)
  have A_2 := Lib.hid (A_1.out.below hb2)
  clear hb2 HC2
  cases hmy : mayS A with
  | false =>
    clear hmy
    go_wp2_with fail
    go_ret
    exact ⟨rfl, HB2.out⟩
  | true =>
    have HMY := Lib.hid hmy
    clear hmy
    go_wp2_with fail
    go_loopg [5, 6] 200 (fun g l ix wr => ∃ (k : Nat), OwnI w2.heap.size wr l (upTo (inS A) k) ∧ ix = .int .i64 ((k : Int) + 1) ∧ g + k = 200 ∧ Below w2.heap.size w2 wr)
    case atStart => exact ⟨0, OwnI.nil _ _, rfl, rfl, Below.refl _ _⟩
    case round =>
      obtain ⟨k, hown, rfl, hg, hb⟩ := hrel
      have HO := Lib.hid hown
      have HB := Lib.hid hb
      have HAR := Lib.hid (A_2.out.below hb)
      have HBT := Lib.hid (below_then HB2.out hb)
      obtain ⟨la, lc, hsv, hlc, hlm, _⟩ := hown.in.form
      subst hsv
      clear hown hb
      cases gk with
      | zero =>
        obtain ⟨L, hL⟩ : ∃ L, upTo (inS A) k = L := ⟨_, rfl⟩
        have hk : k = 200 := by omega
        have hge : ¬ ((k : Int) + 1 ≤ 200) := by omega
        have HL : Hid (upTo (inS A) 200 = L) := Lib.hid (by rw [← hL, hk])
        rw [hL] at HO hlc ⊢
        have HIL := Lib.hid HO.out.in
        have hl200 : L.length ≤ 200 := by rw [← HL.out]; exact (upTo_len _ 200).2
        obtain ⟨nl, hnl⟩ : ∃ n, L.length = n := ⟨_, rfl⟩
        rw [hnl] at HIL hlc hl200 ⊢
        have HNL := Lib.hid hnl
        have HCN : Hid (cntS A = (nl : Int)) := Lib.hid (by rw [ones_count HMY.out, HL.out, hnl])
        have HOF : Hid (setF (inI L) = A) := Lib.hid (by rw [← HL.out]; exact ones_set HMY.out)
        have HRE : Hid (setF (inI (rotL L t nl)) = A) := Lib.hid (by
          have h := rot_end HMY.out t
          rw [HL.out, hnl] at h
          exact h)
        clear hL hnl HO HB
        unfold maxLen at hlm
        go_wp2_with fail
        go_loopg [7, 8] nl (fun g x ix w5 => ∃ (i : Nat) (S : List Sp), SpIn w5 x S ∧ S = setF (inI (rotL L t i)) ∧ ix = .int .i64 (i : Int) ∧ g + i = nl ∧ Below wr.heap.size wr w5)
        case atStart => exact ⟨0, [], SpIn.nil _, setF_of rfl (fun v _ _ => rfl), rfl, rfl, Below.refl _ _⟩
        case round =>
          obtain ⟨i, S, hin, hS, rfl, hg2, hb5⟩ := hrel
          have HS := Lib.hid hS
          have HI := Lib.hid hin
          have HB5 := Lib.hid hb5
          have HBW := Lib.hid (below_then HBT.out hb5)
          have HA5 := Lib.hid (HAR.out.below hb5)
          have HL5 := Lib.hid (HIL.out.below hb5)
          obtain ⟨xa, xc, hxv, _⟩ := hin.form
          subst hxv
          obtain ⟨ns, hns⟩ : ∃ n, S.length = n := ⟨_, rfl⟩
          rw [hns] at HI ⊢
          clear hin hS hb5 hns
          cases gk with
          | zero =>
            obtain rfl : i = nl := by omega
            have hge2 : ¬ ((i : Int) < (i : Int)) := by omega
            have HSA : Hid (S = A) := Lib.hid (by rw [HS.out]; exact HRE.out)
            have HEQ : Hid (eqS S A = true) := Lib.hid (by rw [HSA.out]; unfold eqS; rw [HMY.out, sameP_refl]; rfl)
            have HEA : Hid (eqS A A = true) := Lib.hid (by unfold eqS; rw [HMY.out, sameP_refl]; rfl)
            clear HS HRE HSA
            have hc3 := equal_calls HI.out HA5.out
            rw [HEQ.out] at hc3
            have HC3 := Lib.hid hc3
            clear hc3 
            go_wp2_with fail
            with_reducible refine HC3.out.mono ?_
            rintro e w3 ⟨rfl, hb3⟩
            have HB3 := Lib.hid (below_then HBW.out hb3)
            have A_3 := Lib.hid (HA5.out.below hb3)
            have X_3 := Lib.hid (HI.out.below hb3)
            have L_3 := Lib.hid (HL5.out.below hb3)
            clear hb3 HC3
            have hc4 := of_calls L_3.out
            rw [HOF.out] at hc4
            unfold SetOut at hc4
            have HC4 := Lib.hid hc4
            clear hc4 
            go_wp2_with fail
            with_reducible refine HC4.out.mono ?_
            rintro e w4 ⟨v4, rfl, hin4, hb4⟩
            obtain ⟨a4, c4, rfl, _⟩ := hin4.form
            have HB4 := Lib.hid (below_then HB3.out hb4)
            have A_4 := Lib.hid (A_3.out.below hb4)
            have L_4 := Lib.hid (L_3.out.below hb4)
            have HI4 := Lib.hid hin4
            obtain ⟨n4, hn4⟩ : ∃ n, (A).length = n := ⟨_, rfl⟩
            rw [hn4] at HI4 ⊢
            have HN4 := Lib.hid hn4
            clear hin4 hb4 hn4 HC4
            have hc5 := equal_calls HI4.out A_4.out
            rw [HEA.out] at hc5
            have HC5 := Lib.hid hc5
            clear hc5 
            go_wp2_with fail
            with_reducible refine HC5.out.mono ?_
            rintro e w5 ⟨rfl, hb5⟩
            have HB5 := Lib.hid (below_then HB4.out hb5)
            have A_5 := Lib.hid (A_4.out.below hb5)
            have L_5 := Lib.hid (L_4.out.below hb5)
            have O_5 := Lib.hid (HI4.out.below hb5)
            clear hb5 HC5
            have hc6 := count_calls A_5.out
            rw [HCN.out] at hc6
            have HC6 := Lib.hid hc6
            clear hc6 
            go_wp2_with fail
            with_reducible refine HC6.out.mono ?_
            rintro e w6 ⟨rfl, hb6⟩
            have HB6 := Lib.hid (below_then HB5.out hb6)
            have A_6 := Lib.hid (A_5.out.below hb6)
            have L_6 := Lib.hid (L_5.out.below hb6)
            clear hb6 HC6
            go_wp2_with fail
            go_ret
            exact ⟨rfl, HB6.out⟩
          | succ g2 =>
            have hjn : (i + t) % nl < nl := Nat.mod_lt _ (by omega)
            have hlt2 : (i : Int) < (nl : Int) := by omega
            have hadd2 : IntKind.i64.wrap ((i : Int) + 1) = ((i + 1 : Nat) : Int) := IntWalk.i64_in _ (by omega)
            have htb : (t : Int) < 256 := by have := HTB.out; omega
            have hcv : IntKind.i64.wrap (t : Int) = (t : Int) := IntWalk.i64_in _ (by omega)
            have hsum : IntKind.i64.wrap ((i : Int) + (t : Int)) = ((i + t : Nat) : Int) := by rw [IntWalk.i64_in _ (by omega)]; omega
            have hnz : (nl : Int) ≠ 0 := by omega
            have hj0 : 0 ≤ ((i : Int) + (t : Int)) % (nl : Int) := Int.emod_nonneg _ hnz
            have hj1 : ((i : Int) + (t : Int)) % (nl : Int) < (nl : Int) := Int.emod_lt_of_pos _ (by omega)
            have hnc : nl ≤ lc := hlc
            obtain ⟨x, hx⟩ : ∃ x, L[(i + t) % nl]? = some x := ⟨_, List.getElem?_eq_getElem (by rw [HNL.out]; exact hjn)⟩
            obtain ⟨b, o, rfl, y⟩ := HL5.out.at hx
            have HAD := add_calls x HI.out
            have e : x = L.getD ((i + t) % L.length) 0 := by
              rw [HNL.out, List.getD_eq_getElem?_getD, hx]
              rfl
            rw [show putS orrK S (setF (inI [x])) = setF (inI (rotL L t (i + 1))) by rw [HS.out, e]; exact rot_step L t i] at HAD
            have HAD := Lib.hid HAD
            unfold SetOut at HAD
            clear e hx HS HL5 HA5
            go_wp2_with fail
            with_reducible refine HAD.out.mono ?_
            rintro e w6 ⟨v6, rfl, hin6, hb6⟩
            have HI6 := Lib.hid hin6
            have HB6 := Lib.hid (below_then HB5.out hb6)
            clear hin6 hb6 HAD y
            go_wp2_with fail
            go_roundg g2
            case measure => omega
            case rel => exact ⟨i + 1, _, HI6.out, rfl, by go_num, by omega, HB6.out⟩
      | succ g =>
        have hle : (k : Int) + 1 ≤ 200 := by omega
        have hadd : IntKind.i64.wrap ((k : Int) + 1 + 1) = ((k + 1 : Nat) : Int) + 1 := by rw [IntWalk.i64_in _ (by omega)]; omega
        have hcast : ((k + 1 : Nat) : Int) = (k : Int) + 1 := by omega
        obtain ⟨bk, hbk⟩ : ∃ b, inS A ((k + 1 : Nat) : Int) = b := ⟨_, rfl⟩
        have HBK := Lib.hid hbk
        have HHS := has_calls ((k : Int) + 1) HAR.out
        rw [show hasS A ((k : Int) + 1) = bk by unfold hasS; rw [HMY.out, ← hcast, hbk]; rfl] at HHS
        have HHS := Lib.hid HHS
        have hlk := (upTo_len (inS A) k).2
        obtain ⟨l, hl⟩ : ∃ l, upTo (inS A) k = l := ⟨_, rfl⟩
        have HLU := Lib.hid hl
        rw [hl] at HO hlk hlc ⊢
        obtain ⟨nl, hnl⟩ : ∃ n, l.length = n := ⟨_, rfl⟩
        rw [hnl] at HO hlc hlk ⊢
        have HNL := Lib.hid hnl
        clear hbk hl hnl
        go_wp2_with fail
        with_reducible refine HHS.out.mono ?_
        rintro e w4 ⟨rfl, hb4⟩
        have HB4 := Lib.hid (below_then HB.out hb4)
        have HO4 := Lib.hid (HO.out.below hb4)
        clear hb4 HHS HO HB
        cases bk with
        | false =>
          have HU : Hid (l = upTo (inS A) (k + 1)) := Lib.hid (by rw [upTo, HBK.out, if_neg Bool.false_ne_true]; exact HLU.out.symm)
          go_wp2_with fail
          go_roundg g
          case measure => omega
          case rel => exact ⟨k + 1, by rw [← HU.out]; exact HO4.out, by go_num, by omega, HB4.out⟩
        | true =>
          have HU : Hid (l ++ [(k : Int) + 1] = upTo (inS A) (k + 1)) := Lib.hid (by rw [upTo, HBK.out, if_pos rfl, HLU.out, ← hcast])
          obtain ⟨v', w9, hrun, hown9, hkp9⟩ := HO4.out.append ((k : Int) + 1) HB4.out.size (by rw [HNL.out]; omega)
          obtain ⟨a9, c9, hv9, _⟩ := hown9.in.form
          have HB9 : Hid (Below w2.heap.size w2 w9) := Lib.hid (HB4.out.trans (hkp9.toBelow HB4.out.size (fun q e => HO4.out.new q e)))
          rw [HU.out] at hown9
          rw [List.length_append, List.length_singleton, HNL.out] at hv9
          subst hv9
          have HRUN := Lib.hid hrun
          have HO9 := Lib.hid hown9
          clear hrun hown9 hkp9
          go_wp2_with (at_builtin; refine wpList_step (fun K hK => step_app HRUN.out (.tmp 21) (.tmp 23) rfl rfl rfl rfl (hK _ _ ?_)))
          go_roundg g
          case measure => omega
          case rel => exact ⟨k + 1, HO9.out, by go_num, by omega, HB9.out⟩
end Go.Proofs.YtiolchdfjlffoaaDoor
