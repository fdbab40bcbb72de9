/-
  The walk of the law FrameJoins at every slice of slices of bytes and every slice of bytes. Condition: no slice is longer than 2 to the 47.
-/
import Derived.Test.YtoceknldlhmnoaaLawTears
namespace Go.Proofs.Ytoceknldlhmnoaa
open Go.RowKit Go.Lib

/-- The walk of a region that only reads, of which the kernel sees no further than the next operation. -/
structure QW (P : Program) (ops : Array Oper) (C : World → Prop) (Q : Act → Prop) (rest : List Oper) (a : Act) : Prop where
  out : wpQuiet P ops C Q rest a
theorem QW.nil {P : Program} {ops : Array Oper} {C : World → Prop} {Q : Act → Prop} {a : Act} (h : Q a) : QW P ops C Q [] a := ⟨h⟩
theorem QW.step {P : Program} {ops : Array Oper} {C : World → Prop} {Q : Act → Prop} {a : Act} {o : Oper} {rest : List Oper}
    (h : ∀ K : Act → Prop, (∀ a, QW P ops C Q rest a → K a) → if Region.wanted o (yielded ops a.tmps) then o.quiet P a C K else K (a.put o.dst undef)) : QW P ops C Q (o :: rest) a :=
  ⟨h _ (fun _ h => h.out)⟩

theorem all_end : ∀ (n : Nat) (b : List Nat), b.length ≤ n → (allB b).2.1 ≤ b.length
  | 0, b, h => by
    have hb : b = [] := List.length_eq_zero_iff.1 (by omega)
    subst hb
    rw [allB_nil]
    exact Nat.le_refl _
  | n + 1, b, h => by
    by_cases hs : standsB b = 1
    · obtain ⟨g1, g2, g3, _, g5⟩ := whole hs
      have ih := all_end n (b.drop (8 + get32 b)) (by rw [List.length_drop]; omega)
      rw [List.length_drop] at ih
      rw [allB_whole hs]
      show 8 + get32 b + _ ≤ _
      omega
    · rw [allB_else hs]
      exact Nat.zero_le _

set_option maxRecDepth 100000 in
set_option maxHeartbeats 8000000 in
theorem law_joins {S : Nat → Prop} (a : Option Addr) (L : List (List Nat)) (n c : Nat) (a0 : Option Addr) (l : List Nat) (n0 c0 : Nat) (w : World) (hr : Recs w (Was w) a L) (hn : L.length = n) (hb : n ≤ 140737488355328) (hd : ∀ f ∈ L, f.length ≤ 140737488355328)
    (hr0 : Row w S a0 l) (hn0 : l.length = n0) (hnil0 : a0 = none → c0 = 0) (hc0 : n0 ≤ c0) (hcm0 : c0 ≤ maxLen) :
    Calls Try.prog 7 #[.slice a n c, .slice a0 n0 c0] w (Leaves (.bool true) w) := by
  have HR := Lib.hid hr
  have HN := Lib.hid hn
  have HD := Lib.hid hd
  have HR0 := Lib.hid hr0
  have HN0 := Lib.hid hn0
  have HNIL0 := Lib.hid hnil0
  have HC0 := Lib.hid hc0
  have HCM0 := Lib.hid hcm0
  clear hr hn hd hr0 hn0 hnil0 hc0 hcm0
  go_enter Try.func7, Try.ntmps7
  go_wp2_with fail
  refine (awake_calls w).mono ?_
  rintro e w1 ⟨rfl, hb1⟩
  have HB1 := Lib.hid hb1
  clear hb1
  by_cases hbig : 500 < n
  · have hd1 : decide ((n : Int) > 500) = true := by simp; omega
    go_wp2
    go_ret
    exact ⟨rfl, HB1.out⟩
  have hd1 : decide ((n : Int) > 500) = false := by simp; omega
  have htb := tot_bound L HD.out
  rw [HN.out] at htb
  go_wp2_with fail
  refine (total_calls a L c n w1 (HR.out.below HB1.out) HN.out (by omega) (by omega)).mono ?_
  rintro e w2 ⟨rfl, rfl⟩
  by_cases hbig2 : 8192 < tot L
  · have hd2 : decide (((tot L : Nat) : Int) > 8192) = true := by simp; omega
    obtain ⟨q, hq⟩ : ∃ q : Int, ((tot L : Nat) : Int) = q := ⟨_, rfl⟩
    rw [hq] at hd2 ⊢
    clear hq htb hbig2
    go_wp2
    go_ret
    exact ⟨rfl, HB1.out⟩
  have hd2 : decide (((tot L : Nat) : Int) > 8192) = false := by simp; omega
  by_cases hbig3 : 8192 < n0
  · have hd3 : decide ((n0 : Int) > 8192) = true := by simp; omega
    obtain ⟨q, hq⟩ : ∃ q : Int, ((tot L : Nat) : Int) = q := ⟨_, rfl⟩
    rw [hq] at hd2 ⊢
    clear hq htb hbig2
    go_wp2
    go_ret
    exact ⟨rfl, HB1.out⟩
  have hd3 : decide ((n0 : Int) > 8192) = false := by simp; omega
  have HT := Lib.hid (Nat.le_of_not_lt hbig2)
  obtain ⟨q, hq⟩ : ∃ q : Int, ((tot L : Nat) : Int) = q := ⟨_, rfl⟩
  rw [hq] at hd2 ⊢
  have hnb : n ≤ 500 := Nat.le_of_not_lt hbig
  clear hq htb hbig2 hbig hb
  have HP := Lib.hid (Own.nil w2)
  go_wp2
  go_loopg [5, 6] n (fun g bv iv wr => ∃ (i : Nat), iv = .int .i64 (i : Int) ∧ g + i = n ∧ Own w2 wr bv (frs (L.take i)))
  case atStart => exact ⟨0, rfl, rfl, HP.out⟩
  case round =>
    obtain ⟨i, rfl, hg, hpw⟩ := hrel
    have HG := Lib.hid hg
    have HPW := Lib.hid hpw
    clear hg hpw HP
    by_cases hlt : i < n
    · obtain ⟨g', rfl⟩ : ∃ g', gk = g' + 1 := ⟨gk - 1, by have := HG.out; omega⟩
      have hdd : decide ((i : Int) < (n : Int)) = true := by simp; omega
      obtain ⟨f, hf⟩ : ∃ x, L[i]? = some x := ⟨L[i]'(by rw [HN.out]; exact hlt), List.getElem?_eq_getElem _⟩
      have hfl : f.length ≤ 8192 := Nat.le_trans (tot_mem (List.mem_of_getElem? hf)) HT.out
      have HFT := Lib.hid (frs_take hf)
      have HFL := Lib.hid (frs_take_len L i)
      obtain ⟨b, o, da, dc, rfl, _, r0, hrow, hnil, hdc, hdm⟩ := recs_at HR.out hf
      have HBR := Lib.hid (below_then HB1.out HPW.out.bel)
      have hcell : wr.cell? ⟨b, o + i, none⟩ = some (.slice da f.length dc) := (World.cell?_of_block (a := ⟨b, o + i, none⟩) (HBR.out.block b (lt_of_cell r0))).trans r0
      have HPUT := Lib.hid (put_calls da f f.length dc wr (hrow.below HBR.out) rfl (by omega) hnil hdc hdm)
      have hpl := putB_len f
      clear hf hrow hnil hdc hdm r0
      go_wp2_with fail
      refine HPUT.out.mono ?_
      rintro e w3 ⟨v3, rfl, hown3⟩
      obtain ⟨a3, c3, hv3, hr3, hn3, -⟩ := hown3.form
      subst hv3
      obtain ⟨v6, w6, hrun6, hpw6, -⟩ := (HPW.out.below hown3.bel).append hr3 rfl hn3 (by have := HFL.out; have := HT.out; have := HN.out; omega)
      rw [← HFT.out] at hpw6
      have HRUN6 := Lib.hid hrun6
      have HPW6 := Lib.hid hpw6
      obtain ⟨k, hk⟩ : ∃ k, (putB f).length = k := ⟨_, rfl⟩
      rw [hk] at HRUN6 ⊢
      clear hrun6 hpw6 hk hpl HPUT HPW HFT hown3 hr3 hn3
      go_wp2_with (at_builtin; refine wpList_step (fun K hK => step_app HRUN6.out (.tmp 38) (.tmp 43) rfl rfl rfl rfl (hK _ _ ?_)))
      go_wp2
      go_roundg g'
      case measure => omega
      case rel => exact ⟨i + 1, by go_num, by have := HG.out; omega, HPW6.out⟩
    · have hdd : decide ((i : Int) < (n : Int)) = false := by simp; omega
      have hti : L.take i = L := List.take_of_length_le (by rw [HN.out]; omega)
      have hpw := HPW.out
      rw [hti] at hpw
      have hfl := frs_len L
      rw [HN.out] at hfl
      have hsm : Small L := fun r hr => Nat.le_trans (tot_mem hr) (Nat.le_trans HT.out (by decide))
      have hall : allB (frs L) = (full L, (frs L).length, 2) := by
        have := all_frs L [] hsm
        rw [List.append_nil, allB_nil] at this
        simpa using this
      have hall2 := all_frs L l hsm
      have hful := full_len L
      rw [HN.out] at hful
      have hfb : ∀ f ∈ full L, f.length ≤ 1073741824 := fun f hf => Nat.le_trans (hsm f (List.mem_filter.1 hf).1) (by decide)
      obtain ⟨hyl, hyb⟩ := all_bounds n0 l (Nat.le_of_eq HN0.out)
      rw [HN0.out] at hyl hyb
      have hme := all_end n0 l (Nat.le_of_eq HN0.out)
      rw [HN0.out] at hme
      obtain ⟨F, hF⟩ : ∃ F, frs L = F := ⟨_, rfl⟩
      obtain ⟨X, hX⟩ : ∃ X, full L = X := ⟨_, rfl⟩
      obtain ⟨Y, hY⟩ : ∃ X, (allB l).1 = X := ⟨_, rfl⟩
      obtain ⟨M, hM⟩ : ∃ X, (allB l).2.1 = X := ⟨_, rfl⟩
      obtain ⟨T, hT⟩ : ∃ X, (allB l).2.2 = X := ⟨_, rfl⟩
      rw [hF] at hfl hall hall2 hpw
      rw [hX] at hall hall2 hful hfb
      rw [hY, hM, hT] at hall2
      rw [hY] at hyl hyb
      rw [hM] at hme
      obtain ⟨m, hm⟩ : ∃ m, F.length = m := ⟨_, rfl⟩
      rw [hm] at hfl hall hall2
      have hm2 : m ≤ 12192 := by have := HT.out; omega
      have HF := Lib.hid hpw
      have HBR := Lib.hid (below_then HB1.out hpw.bel)
      obtain ⟨a3, c3, hv3, hr3, hn3, hc3, hm3⟩ := hpw.form
      subst hv3
      rw [hm] at hc3 ⊢
      have HALL3 := Lib.hid (all_calls a3 F m c3 wr hr3 hm (by omega) hc3 hm3 hn3)
      unfold AllOut at HALL3
      rw [hall] at HALL3
      simp only at HALL3
      have HM := Lib.hid hm
      have HALL2 := Lib.hid hall2
      have HFB := Lib.hid hfb
      have HYB := Lib.hid hyb
      have HY := Lib.hid hY
      have HMQ := Lib.hid hM
      have HTQ := Lib.hid hT
      clear hpw hti hfl hall hall2 hF hX hY hM hT hr3 hn3 hc3 hm3 hm HPW hsm hfb hyb
      go_wp2_with fail
      refine HALL3.out.mono ?_
      rintro e w5 ⟨v5, rfl, hown5⟩
      have HO5 := Lib.hid hown5
      have HB5 := Lib.hid (below_then HBR.out hown5.bel)
      have HF5 := Lib.hid (HF.out.below hown5.bel)
      have HALL5 := Lib.hid (all_calls a0 l n0 c0 w5 (HR0.out.below HB5.out) HN0.out (by omega) HC0.out HCM0.out HNIL0.out)
      obtain ⟨a5, c5, S5, hv5, -⟩ := hown5.form
      subst hv5
      unfold AllOut at HALL5
      rw [HY.out, HMQ.out, HTQ.out] at HALL5
      obtain ⟨x, hx⟩ : ∃ x, X.length = x := ⟨_, rfl⟩
      have HXL := Lib.hid hx
      rw [hx] at hful ⊢
      clear hown5 HALL3 HF HY HMQ HTQ hx
      go_wp2_with fail
      refine HALL5.out.mono ?_
      rintro e w6 ⟨v6, rfl, hown6⟩
      have HO6 := Lib.hid hown6
      have HB6 := Lib.hid (below_then HB5.out hown6.bel)
      have HO56 := Lib.hid (HO5.out.below hown6.bel)
      have hF6 := HF5.out.below hown6.bel
      obtain ⟨a6, c6, S6, hv6, -⟩ := hown6.form
      subst hv6
      obtain ⟨y, hy⟩ : ∃ y, Y.length = y := ⟨_, rfl⟩
      have HYL := Lib.hid hy
      rw [hy] at hyl ⊢
      obtain ⟨af, cf, ef, hrf, hnf, -⟩ := hF6.form
      simp only [Value.slice.injEq] at ef
      obtain ⟨rfl, -, rfl⟩ := ef
      obtain ⟨v7, w7, hrun7, hown7, -⟩ := (Own.empty w6).append (hrf.keep ((Keeps.refl Non w6).alloc (.cells #[] 5)) (fun _ _ h => h)) HM.out hnf (by simp; omega)
      rw [List.nil_append] at hown7
      obtain ⟨v8, w8, hrun8, hown8, -⟩ := hown7.append (HR0.out.below (below_then HB6.out hown7.bel)) HN0.out HNIL0.out (by rw [HM.out]; omega)
      have HRUN7 := Lib.hid hrun7
      have HRUN8 := Lib.hid hrun8
      have HB8 := Lib.hid (below_then HB6.out hown8.bel)
      have HO58 := Lib.hid (HO56.out.below hown8.bel)
      have HO68 := Lib.hid (HO6.out.below hown8.bel)
      obtain ⟨a8, c8, hv8, hr8, hn8, hc8, hm8⟩ := hown8.form
      subst hv8
      have hfl8 : (F ++ l).length = m + n0 := by rw [List.length_append, HM.out, HN0.out]
      rw [hfl8] at HRUN8 hc8
      have HALL8 := Lib.hid (all_calls a8 (F ++ l) (m + n0) c8 w8 hr8 hfl8 (by omega) hc8 hm8 hn8)
      unfold AllOut at HALL8
      rw [HALL2.out] at HALL8
      simp only at HALL8
      clear hown6 HALL5 hy hrf hnf hrun7 hown7 hrun8 hown8 hr8 hn8 hc8 hm8 hfl8 hF6 HF5 HALL2 HO5 HO6 HO56
      go_wp2_with (at_builtin; first | refine wpList_step (fun K hK => step_app HRUN7.out (.tmp 58) (.tmp 59) rfl rfl rfl rfl (hK _ _ ?_)) | refine wpList_step (fun K hK => step_app HRUN8.out (.tmp 60) (.tmp 61) rfl rfl rfl rfl (hK _ _ ?_)))
      refine HALL8.out.mono ?_
      rintro e w9 ⟨v9, rfl, hown9⟩
      have HB9 := Lib.hid (below_then HB8.out hown9.bel)
      obtain ⟨a9, c9, S9, hv9, hrz, -⟩ := hown9.form
      subst hv9
      have HRZ := Lib.hid hrz
      have HRX : Hid (∃ S, Recs w9 S a5 X) := Lib.hid (by
        obtain ⟨a', c', S', e', h', -⟩ := (HO58.out.below hown9.bel).form
        simp only [Value.slice.injEq] at e'
        obtain ⟨rfl, -, -⟩ := e'
        exact ⟨S', h'⟩)
      have HRY : Hid (∃ S, Recs w9 S a6 Y) := Lib.hid (by
        obtain ⟨a', c', S', e', h', -⟩ := (HO68.out.below hown9.bel).form
        simp only [Value.slice.injEq] at e'
        obtain ⟨rfl, -, -⟩ := e'
        exact ⟨S', h'⟩)
      obtain ⟨z, hz⟩ : ∃ z, (X ++ Y).length = z := ⟨_, rfl⟩
      have hzxy : z = x + y := by rw [← hz, List.length_append, HXL.out, HYL.out]
      obtain ⟨K, hK⟩ : ∃ K, m + M = K := ⟨_, rfl⟩
      have hb1 : ((z : Int) != (x : Int) + (y : Int)) = false := by simp; omega
      have hb2 : ((K : Int) != (m : Int) + (M : Int)) = false := by simp; omega
      have HZ : Hid (z = x + y) := Lib.hid hzxy
      have hz2 : z ≤ 20000 := by omega
      rw [hz, hK]
      clear hown9 hrz hz hK hzxy HALL8 HO58 HO68
      go_wp2
      go_loopg [16] z (fun g iv wr => ∃ (i d : Nat), iv = .int .i64 (i : Int) ∧ g + i = z ∧ wr = w9.drewN d)
      case atStart => exact ⟨0, 0, rfl, rfl, rfl⟩
      case round =>
        obtain ⟨i, d, rfl, hg, rfl⟩ := hrel
        have HG := Lib.hid hg
        clear hg
        by_cases hlt : i < z
        · obtain ⟨g', rfl⟩ : ∃ g', gk = g' + 1 := ⟨gk - 1, by have := HG.out; omega⟩
          have hdd : decide ((i : Int) < (z : Int)) = true := by simp; omega
          obtain ⟨SX, hRX⟩ := HRX.out
          obtain ⟨SY, hRY⟩ := HRY.out
          by_cases hix : i < x
          · have hd4 : decide ((i : Int) < (x : Int)) = true := by simp; omega
            have hxi : ¬ x ≤ i := by omega
            have hd5 : decide (x ≤ i) = false := decide_eq_false hxi
            obtain ⟨f, hf⟩ : ∃ f, X[i]? = some f := ⟨X[i]'(by rw [HXL.out]; exact hix), List.getElem?_eq_getElem _⟩
            have hfz : (X ++ Y)[i]? = some f := by rw [List.getElem?_append_left (by rw [HXL.out]; exact hix)]; exact hf
            obtain ⟨bx, ox, dx, cx, rfl, _, rx, hrx, -⟩ := recs_at hRX hf
            obtain ⟨bz, oz, dz, cz, rfl, _, rz, hrz, -⟩ := recs_at HRZ.out hfz
            have hfl := HFB.out f (List.mem_of_getElem? hf)
            have HBY := Lib.hid (fun W (hW : Row W S9 dz f) (hW' : Row W SX dx f) => bytes_calls dz dx f f cz cx f.length f.length W hW hW' rfl rfl hfl hfl)
            rw [decide_eq_true rfl] at HBY
            have HROWX := Lib.hid hrx
            have HROWZ := Lib.hid hrz
            obtain ⟨k, hk⟩ : ∃ k, f.length = k := ⟨_, rfl⟩
            rw [hk] at rx rz HBY
            clear hf hfz hrx hrz hk hfl hRY hRX
            go_wp2
            refine wp_region_quiet_lit (by kernel_rfl) (by kernel_rfl) (QW.out ?_)
            repeat
              (refine QW.step (fun K hK => ?_)
               go_simp
               first
                 | (refine hK _ ?_; clear hK K)
                 | (apply Exists.intro
                    refine ⟨fun _ => ?_, hK _ ?_⟩
                    (exact quiet_add (HBY.out _ (HROWZ.out.draws _) (HROWX.out.draws _)))
                    clear hK K))
            refine QW.nil ?_
            intro _ hw'
            obtain ⟨nq, hw''⟩ := hw'
            subst hw''
            go_wp2
            go_roundg g'
            case measure => omega
            case rel => exact ⟨i + 1, _, by go_num, by have := HG.out; omega, rfl⟩
          · have hd4 : decide ((i : Int) < (x : Int)) = false := by simp; omega
            have hxi : x ≤ i := by omega
            have hd5 : decide (x ≤ i) = true := decide_eq_true hxi
            obtain ⟨j, hj⟩ : ∃ j, i = x + j := ⟨i - x, by omega⟩
            have hjy : j < y := by have := HZ.out; omega
            have hij : (i : Int) - (x : Int) = (j : Int) := by omega
            have hwj : IntKind.i64.wrap (j : Int) = (j : Int) := by rw [IntKind.wrap_i64]; omega
            obtain ⟨f, hf⟩ : ∃ f, Y[j]? = some f := ⟨Y[j]'(by rw [HYL.out]; exact hjy), List.getElem?_eq_getElem _⟩
            have hfz : (X ++ Y)[i]? = some f := by rw [List.getElem?_append_right (by rw [HXL.out]; omega), HXL.out, show i - x = j by omega]; exact hf
            have HJ := Lib.hid hj
            clear hj
            obtain ⟨bx, ox, dx, cx, rfl, _, rx, hrx, -⟩ := recs_at hRY hf
            obtain ⟨bz, oz, dz, cz, rfl, _, rz, hrz, -⟩ := recs_at HRZ.out hfz
            have hfl := HYB.out f (List.mem_of_getElem? hf)
            have HBY := Lib.hid (fun W (hW : Row W S9 dz f) (hW' : Row W SY dx f) => bytes_calls dz dx f f cz cx f.length f.length W hW hW' rfl rfl (by omega) (by omega))
            rw [decide_eq_true rfl] at HBY
            have HROWX := Lib.hid hrx
            have HROWZ := Lib.hid hrz
            obtain ⟨k, hk⟩ : ∃ k, f.length = k := ⟨_, rfl⟩
            rw [hk] at rx rz HBY
            clear hf hfz hrx hrz hk hfl hRY hRX
            go_wp2
            refine wp_region_quiet_lit (by kernel_rfl) (by kernel_rfl) (QW.out ?_)
            repeat
              (refine QW.step (fun K hK => ?_)
               go_simp
               first
                 | (refine hK _ ?_; clear hK K)
                 | (apply Exists.intro
                    refine ⟨fun _ => ?_, hK _ ?_⟩
                    (exact quiet_add (HBY.out _ (HROWZ.out.draws _) (HROWX.out.draws _)))
                    clear hK K))
            refine QW.nil ?_
            intro _ hw'
            obtain ⟨nq, hw''⟩ := hw'
            subst hw''
            go_wp2
            go_roundg g'
            case measure => omega
            case rel => exact ⟨i + 1, _, by go_num, by have := HG.out; omega, rfl⟩
        · have hdd : decide ((i : Int) < (z : Int)) = false := by simp; omega
          have HBD := Lib.hid (below_then HB9.out (below_draws w9 d))
          go_wp2
          go_ret
          exact ⟨rfl, HBD.out⟩

end Go.Proofs.Ytoceknldlhmnoaa
