/-
  The set of some versions, told by the program. Condition: the slice leads to what it is said to.
-/
import Derived.Test.YtiolchdfjlffoaaDoorIVa
namespace Go.Proofs.YtiolchdfjlffoaaDoor
open Go.RowKit Go.Lib Go.Joins

set_option maxRecDepth 100000 in
set_option maxHeartbeats 8000000 in
theorem of_calls {w : World} {v : Value} {l : List Int} (h : IntIn w v l) : Calls Tryd.prog 28 #[v] w (SetOut (setF (inI l)) w) := by
  obtain ⟨a, c, rfl, hc, hm, hn⟩ := h.form
  obtain ⟨n, hl⟩ : ∃ n, l.length = n := ⟨_, rfl⟩
  rw [hl] at h hc ⊢
  have HR := Lib.hid h
  have HL := Lib.hid hl
  have hcm : c ≤ maxLen := hm
  unfold maxLen at hcm
  obtain ⟨C, hC⟩ : ∃ C, setF (inI l) = C := ⟨_, rfl⟩
  rw [hC]
  have HC := Lib.hid hC
  clear h hl hm hn hC
  obtain ⟨W1, hW1⟩ : ∃ W1, w.alloc (.cells Tryd.zeroCells47 47) = W1 := ⟨_, rfl⟩
  have HB1 : Hid (Below w.heap.size w W1) := Lib.hid (by rw [← hW1]; exact (Below.refl _ _).alloc (Nat.le_refl _) _)
  have HF1 : Hid (FlagAt W1 w.heap.size 47 (fun _ => false)) := Lib.hid (by rw [← hW1, zero47]; exact heap_alloc_new _ _)
  obtain ⟨b0, hb0⟩ : ∃ b0, w.heap.size = b0 := ⟨_, rfl⟩
  rw [hb0] at HF1 HB1
  have HW1 := Lib.hid hW1
  have HB0 := Lib.hid hb0
  clear hW1 hb0
  unfold SetOut
  go_enter Tryd.func28, Tryd.ntmps28
  go_upto_region 2 with (fail)
  rw [HW1.out, HB0.out]
  go_wp2_with fail
  go_loopg [12] n (fun g ix wr => ∃ i : Nat, ix = .int .i64 (i : Int) ∧ g + i = n ∧ FlagAt wr b0 47 (verI (l.take i)) ∧ Below b0 w wr)
  case atStart => exact ⟨0, rfl, rfl, HF1.out.ext (fun v _ _ => by rw [List.take_zero]; unfold verI; rw [inI_nil, Bool.and_false]), HB1.out⟩
  case round =>
    obtain ⟨i, rfl, hg, hfl, hb⟩ := hrel
    have HFL := Lib.hid hfl
    have HB := Lib.hid hb
    clear hfl hb HF1
    cases gk with
    | zero =>
      obtain rfl : i = n := by omega
      have hge : ¬ ((i : Int) < (i : Int)) := by omega
      obtain ⟨G, hG⟩ : ∃ G, verI l = G := ⟨_, rfl⟩
      have HGL : Hid (FlagAt wr b0 47 G) := Lib.hid (by rw [← hG]; have := HFL.out; rw [List.take_of_length_le (by have := HL.out; omega)] at this; exact this)
      have HG0 : Hid (G 0 = false) := Lib.hid (by rw [← hG]; exact verI_zero l (Int.le_refl _))
      have HGC : Hid (setTo G 200 = C) := Lib.hid (by rw [← HC.out, ← hG]; exact setF_ver l)
      clear hG HFL
      go_upto_region 9 with (fail)
      go_wp2_with (refine wpList_load_row rfl 47 (.tmp 3) rfl b0 rfl 47 (flagV G) (0, 0) _ HGL.out Tryd.underlying47 rfl (by rw [flagV_size]; exact info47) ?_)
      obtain ⟨w5, hw5⟩ : ∃ w5, w5 = wr := ⟨_, rfl⟩
      rw [← hw5]
      have HBI : Hid (Below b0 w w5) := Lib.hid (by rw [hw5]; exact HB.out)
      have HN0 : Hid (w.heap.size ≤ w5.heap.size) := Lib.hid HBI.out.size
      clear HR hc HGL HB hw5
      go_loopg [6, 22] 201 (fun g s ix w2 => ∃ (k : Nat) (S : List Sp), OwnP w5.heap.size w2 s S ∧ ix = .int .i64 (k : Int) ∧ g + k = 201 ∧ S = setTo G (k - 1) ∧ Below w5.heap.size w5 w2)
      case atStart => exact ⟨0, [], OwnP.nil _ _, rfl, rfl, rfl, Below.refl _ _⟩
      case round =>
        obtain ⟨k, S, hown, rfl, hg2, hS, hb2⟩ := hrel
        have HO := Lib.hid hown
        have HS := Lib.hid hS
        have HB2 := Lib.hid hb2
        obtain ⟨sa, sc, hsv⟩ := hown.form
        subst hsv
        clear hown hS hb2
        cases gk with
        | zero =>
          have hge : ¬ ((k : Int) < 201) := by omega
          have HF : Hid (S = C) := Lib.hid (by rw [HS.out, show k - 1 = 200 by omega]; exact HGC.out)
          go_wp2_with fail
          go_ret
          exact ⟨_, rfl, by rw [← HF.out]; exact HO.out.in, by rw [HB0.out]; exact HBI.out.trans (HB2.out.mono (by rw [← HB0.out]; exact HN0.out))⟩
        | succ g2 =>
          have hlt : (k : Int) < 201 := by omega
          have hk0 : (0 : Int) ≤ (k : Int) := by omega
          have hadd : IntKind.i64.wrap ((k : Int) + 1) = ((k + 1 : Nat) : Int) := IntWalk.i64_in _ (by omega)
          have kx := fun w => index_flag G (i := k) (by omega) w
          obtain ⟨bk, hbk⟩ : ∃ bk, G (k : Int) = bk := ⟨_, rfl⟩
          rw [hbk] at kx
          have HBK := Lib.hid hbk
          clear hbk
          cases bk with
          | false =>
            have HS2 : Hid (S = setTo G (k + 1 - 1)) := Lib.hid (by
              rw [HS.out, Nat.add_sub_cancel]
              cases k with
              | zero => rfl
              | succ m => rw [Nat.add_sub_cancel, setTo, HBK.out]; rfl)
            go_wp2_with fail
            go_roundg g2
            case measure => omega
            case rel => exact ⟨k + 1, S, HO.out, by go_num, by omega, HS2.out, HB2.out⟩
          | true =>
            have hk1 : 1 ≤ k := by
              cases k with
              | zero =>
                have := HBK.out
                rw [show ((0 : Nat) : Int) = 0 from rfl, HG0.out] at this
                cases this
              | succ m => omega
            have HS2 : Hid (growS S (k : Int) = setTo G (k + 1 - 1)) := Lib.hid (by
              obtain ⟨m, rfl⟩ : ∃ m, k = m + 1 := ⟨k - 1, by omega⟩
              rw [HS.out, Nat.add_sub_cancel, Nat.add_sub_cancel, setTo, HBK.out]
              rfl)
            have hsl : S.length ≤ 100 := by
              have := mayS_length (setTo_up G (k - 1) (by omega)).may
              rw [HS.out]
              exact this
            have hsl2 : S.length ≤ 1000000 := by omega
            have hwk : IntKind.i64.wrap ((k : Int) - 1) = (k : Int) - 1 := IntWalk.i64_in _ (by omega)
            obtain ⟨ns, hns⟩ : ∃ ns, S.length = ns := ⟨_, rfl⟩
            have HNS := Lib.hid hns
            rw [hns] at HO hsl ⊢
            by_cases hSe : S = []
            · subst hSe
              obtain rfl : 0 = ns := hns
              have HS3 : Hid ([] ++ [((k : Int), (k : Int))] = setTo G (k + 1 - 1)) := Lib.hid (by rw [← HS2.out]; rfl)
              obtain ⟨v', w9, hrun, hown9, hkp9⟩ := HO.out.append (k : Int) (k : Int) HB2.out.size hsl2
              obtain ⟨a9, c9, hv9⟩ := hown9.form
              have HRUN := Lib.hid hrun
              have HO9 := Lib.hid hown9
              have HB9 : Hid (Below w5.heap.size w5 w9) := Lib.hid (HB2.out.trans (hkp9.toBelow HB2.out.size (fun q e => HO.out.new q e)))
              rw [List.length_append, List.length_singleton, HNS.out] at hv9
              subst hv9
              clear hrun hown9 hkp9 hsl2
              go_wp2_with (at_builtin; refine wpList_step (fun K hK => step_app HRUN.out (.tmp 29) (.tmp 33) rfl rfl rfl rfl (hK _ _ ?_)))
              go_roundg g2
              case measure => omega
              case rel => exact ⟨k + 1, [] ++ [((k : Int), (k : Int))], HO9.out, by go_num, by omega, HS3.out, HB9.out⟩
            · obtain ⟨q, ⟨xf, xt⟩, rfl⟩ := snoc_of hSe
              obtain ⟨nq, hnq⟩ : ∃ nq, q.length = nq := ⟨_, rfl⟩
              have hnn : ns = nq + 1 := by rw [← hns, List.length_append, List.length_singleton, hnq]
              obtain ⟨g, rfl, hg0, y2, yf, hlast⟩ := HO.out.last (v := (k : Int))
              rw [hnq] at y2 yf hlast
              dsimp only at y2
              have hsub : IntKind.i64.wrap ((ns : Int) - 1) = (nq : Int) := by rw [IntWalk.i64_in _ (by omega)]; omega
              have hq0 : (0 : Int) ≤ (nq : Int) := by omega
              have hq1 : (nq : Int) < (ns : Int) := by omega
              have hqn : nq < ns := by omega
              have hqc : ns ≤ sc := by
                obtain ⟨_, _, h1, h2, _⟩ := HO.out.in.form
                injection h1 with _ h3 h4
                rw [← h4, ← h3] at h2
                exact h2
              have HLAST := Lib.hid hlast
              by_cases hxt : xt = (k : Int) - 1
              · have hxe : (xt == (k : Int) - 1) = true := by rw [beq_iff_eq]; exact hxt
                have HS3 : Hid (q ++ [(xf, (k : Int))] = setTo G (k + 1 - 1)) := Lib.hid (by rw [← HS2.out, growS_on (by show xt = _; exact hxt)])
                have HG0' := Lib.hid hg0
                clear hnq hlast hxt hg0 hSe hns hnn hsl2
                go_wp2_with fail
                go_roundg g2
                case measure => omega
                case rel => exact ⟨k + 1, q ++ [(xf, (k : Int))], HLAST.out, by go_num, by omega, HS3.out, HB2.out.setCell (by exact HG0'.out) _⟩
              · have hxe : (xt == (k : Int) - 1) = false := by rw [beq_eq_false_iff_ne]; exact hxt
                have HS3 : Hid (q ++ [(xf, xt)] ++ [((k : Int), (k : Int))] = setTo G (k + 1 - 1)) := Lib.hid (by rw [← HS2.out, growS_new (by show xt ≠ _; exact hxt)])
                clear hlast hxt hSe hns
                obtain ⟨v', w9, hrun, hown9, hkp9⟩ := HO.out.append (k : Int) (k : Int) HB2.out.size hsl2
                obtain ⟨a9, c9, hv9⟩ := hown9.form
                have HRUN := Lib.hid hrun
                have HO9 := Lib.hid hown9
                have HB9 : Hid (Below w5.heap.size w5 w9) := Lib.hid (HB2.out.trans (hkp9.toBelow HB2.out.size (fun q e => HO.out.new q e)))
                rw [List.length_append, List.length_singleton, HNS.out] at hv9
                subst hv9
                clear hrun hown9 hkp9 hsl2
                clear hnq hnn
                go_wp2_with (at_builtin; refine wpList_step (fun K hK => step_app HRUN.out (.tmp 29) (.tmp 33) rfl rfl rfl rfl (hK _ _ ?_)))
                go_roundg g2
                case measure => omega
                case rel => exact ⟨k + 1, (q ++ [(xf, xt)]) ++ [((k : Int), (k : Int))], HO9.out, by go_num, by omega, HS3.out, HB9.out⟩
    | succ g =>
      have hlt : (i : Int) < (n : Int) := by omega
      have hic : i ≤ c := by omega
      have hadd : IntKind.i64.wrap ((i : Int) + 1) = ((i + 1 : Nat) : Int) := IntWalk.i64_in _ (by omega)
      obtain ⟨x, hx, _⟩ := drop_at (l := l) (i := i) (by have := HL.out; omega)
      obtain ⟨b, o, rfl, y1⟩ := HR.out.at hx
      replace y1 := cell_below (w := w) (w' := wr) (by rw [HB0.out]; exact HB.out) y1
      have HX := Lib.hid hx
      have HV := Lib.hid (version_calls x wr)
      clear hx
      by_cases h12 : 1 ≤ x ∧ x ≤ 200
      · obtain ⟨k, rfl⟩ : ∃ k : Nat, x = (k : Int) := ⟨x.toNat, by omega⟩
        rw [decide_eq_true h12.1, decide_eq_true h12.2, Bool.and_true] at HV
        have z1 := HFL.out.cell (i := k) (by omega)
        have z2 := HFL.out.frozen k
        have hkt : (k : Int) < 201 := by omega
        have hk0 : (0 : Int) ≤ (k : Int) := by omega
        go_wp2_with fail
        with_reducible refine HV.out.mono ?_
        rintro e w3 ⟨rfl, rfl⟩
        go_wp2_with fail
        go_roundg g
        case measure => omega
        case rel => exact ⟨i + 1, by go_num, by omega, (HFL.out.set k).ext (fun v _ _ => verI_on HX.out h12.1 h12.2 v), HB.out.setCell (by simp) _⟩
      · have hvf : (decide (1 ≤ x) && decide (x ≤ 200)) = false := by
          rw [← Bool.decide_and, decide_eq_false_iff_not]
          exact h12
        rw [hvf] at HV
        clear hvf
        go_wp2_with fail
        with_reducible refine HV.out.mono ?_
        rintro e w3 ⟨rfl, rfl⟩
        go_wp2_with fail
        go_roundg g
        case measure => omega
        case rel => exact ⟨i + 1, by go_num, by omega, HFL.out.ext (fun v _ _ => verI_off HX.out h12 v), HB.out⟩
end Go.Proofs.YtiolchdfjlffoaaDoor
