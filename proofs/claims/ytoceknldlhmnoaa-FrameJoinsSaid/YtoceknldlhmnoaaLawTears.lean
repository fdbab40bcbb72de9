/-
  The walk of the law FrameTears at every slice of slices of bytes and every number of bytes that are missing. Condition: no slice is longer than 2 to the 47.
-/
import Derived.Test.YtoceknldlhmnoaaLawPuts
import Derived.Test.YtoceknldlhmnoaaLawReads
namespace Go.Proofs.Ytoceknldlhmnoaa
open Go.RowKit Go.Lib

theorem frs_drop {L : List (List Nat)} {i : Nat} {f : List Nat} (hf : L[i]? = some f) : frs (L.drop i) = putB f ++ frs (L.drop (i + 1)) := by
  obtain ⟨h1, rfl⟩ := List.getElem?_eq_some_iff.1 hf
  rw [List.drop_eq_getElem_cons h1, frs]

/-- What is known of the walk through frames of which the first n bytes are there: X the records read, G how far they go, T what stands behind. -/
structure Tear (L : List (List Nat)) (n : Nat) (X : List (List Nat)) (G T i a k : Nat) : Prop where
  kx : k ≤ X.length
  an : a ≤ n
  nl : n ≤ a + (frs (L.drop i)).length
  x : X.drop k = (allB ((frs (L.drop i)).take (n - a))).1
  g : G = a + (allB ((frs (L.drop i)).take (n - a))).2.1
  t : T = (allB ((frs (L.drop i)).take (n - a))).2.2
/-- .. and of its end. -/
structure Torn (n : Nat) (X : List (List Nat)) (G T a k : Nat) : Prop where
  k : k = X.length
  g : G = a
  t : (T = 2 ∧ a = n) ∨ (T = 3 ∧ a ≠ n)

theorem Tear.start {L : List (List Nat)} {n : Nat} (h : n ≤ (frs L).length) : Tear L n (allB ((frs L).take n)).1 (allB ((frs L).take n)).2.1 (allB ((frs L).take n)).2.2 0 0 0 :=
  ⟨Nat.zero_le _, Nat.zero_le _, by rw [List.drop_zero]; omega, by rw [List.drop_zero, List.drop_zero]; rfl, by rw [List.drop_zero, Nat.zero_add]; rfl, by rw [List.drop_zero]; rfl⟩
theorem Tear.skip {L : List (List Nat)} {n G T i a k : Nat} {X : List (List Nat)} {f : List Nat} (h : Tear L n X G T i a k) (hf : L[i]? = some f) (h0 : f.length = 0) : Tear L n X G T (i + 1) a k := by
  have e : frs (L.drop (i + 1)) = frs (L.drop i) := by
    rw [frs_drop hf]
    unfold putB
    rw [if_neg (by omega), List.nil_append]
  obtain ⟨h1, h2, h3, h4, h5, h6⟩ := h
  exact ⟨h1, h2, by rw [e]; exact h3, by rw [e]; exact h4, by rw [e]; exact h5, by rw [e]; exact h6⟩
theorem Tear.more {L : List (List Nat)} {n G T i a k : Nat} {X : List (List Nat)} {f : List Nat} (h : Tear L n X G T i a k) (hf : L[i]? = some f) (h0 : 1 ≤ f.length) (h1 : f.length ≤ 1048576) (hn : a + 8 + f.length ≤ n) :
    X[k]? = some f ∧ Tear L n X G T (i + 1) (a + 8 + f.length) (k + 1) := by
  have hp : putB f = frm f := by unfold putB; rw [if_pos ⟨h0, h1⟩]
  obtain ⟨q1, q2, q3, q4, q5, q6⟩ := h
  rw [frs_drop hf, hp] at q3 q4 q5 q6
  have e : (frm f ++ frs (L.drop (i + 1))).take (n - a) = frm f ++ (frs (L.drop (i + 1))).take (n - (a + 8 + f.length)) := by
    rw [List.take_append, List.take_of_length_le (by rw [frm_len]; omega), frm_len, show n - a - (8 + f.length) = n - (a + 8 + f.length) by omega]
  rw [e, allB_frm _ _ h0 h1] at q4 q5 q6
  rw [List.length_append, frm_len] at q3
  simp only at q4 q5 q6
  have hk : k < X.length := by
    have := congrArg List.length q4
    rw [List.length_drop, List.length_cons] at this
    omega
  rw [List.drop_eq_getElem_cons hk] at q4
  obtain ⟨r1, r2⟩ := List.cons.inj q4
  exact ⟨by rw [List.getElem?_eq_getElem hk, r1], ⟨hk, hn, by omega, r2, by rw [q5]; omega, q6⟩⟩
theorem Tear.stop {L : List (List Nat)} {n G T i a k : Nat} {X : List (List Nat)} {f : List Nat} (h : Tear L n X G T i a k) (hf : L[i]? = some f) (h0 : 1 ≤ f.length) (h1 : f.length ≤ 1048576) (hn : n < a + 8 + f.length) : Torn n X G T a k := by
  have hp : putB f = frm f := by unfold putB; rw [if_pos ⟨h0, h1⟩]
  obtain ⟨q1, q2, q3, q4, q5, q6⟩ := h
  rw [frs_drop hf, hp] at q4 q5 q6
  by_cases hna : a = n
  · subst hna
    rw [Nat.sub_self, List.take_zero, allB_nil] at q4 q5 q6
    simp only at q4 q5 q6
    have := congrArg List.length q4
    rw [List.length_drop] at this
    simp only [List.length_nil] at this
    exact ⟨by omega, by omega, .inl ⟨q6, rfl⟩⟩
  · have hs := frm_torn f (frs (L.drop (i + 1))) h0 h1 (n - a) (by omega) (by omega)
    rw [allB_else (by rw [hs]; decide), hs] at q4 q5 q6
    simp only at q4 q5 q6
    have := congrArg List.length q4
    rw [List.length_drop] at this
    simp only [List.length_nil] at this
    exact ⟨by omega, by omega, .inr ⟨q6, hna⟩⟩
theorem Tear.last {L : List (List Nat)} {n G T i a k : Nat} {X : List (List Nat)} (h : Tear L n X G T i a k) (hi : L.length ≤ i) : Torn n X G T a k := by
  obtain ⟨q1, q2, q3, q4, q5, q6⟩ := h
  rw [List.drop_eq_nil_of_le hi] at q3 q4 q5 q6
  have e : List.take (n - a) (frs []) = [] := List.take_nil
  rw [e, allB_nil] at q4 q5 q6
  simp only at q4 q5 q6
  have := congrArg List.length q4
  rw [List.length_drop] at this
  simp only [List.length_nil] at this
  have e2 : (frs []).length = 0 := rfl
  exact ⟨by omega, by omega, .inl ⟨q6, by omega⟩⟩

set_option maxRecDepth 100000 in
set_option maxHeartbeats 4000000 in
theorem law_tears (a : Option Addr) (L : List (List Nat)) (n c : Nat) (ct : Int) (w : World) (hr : Recs w (Was w) a L) (hn : L.length = n) (hb : n ≤ 140737488355328) (hd : ∀ f ∈ L, f.length ≤ 140737488355328) (ct0 : 0 ≤ ct) (ct1 : ct < 65536) :
    Calls Try.prog 5 #[.slice a n c, .int .u16 ct] w (Leaves (.bool true) w) := by
  have HR := Lib.hid hr
  have HN := Lib.hid hn
  have HD := Lib.hid hd
  clear hr hn hd
  go_enter Try.func5, Try.ntmps5
  go_wp2_with fail
  refine (awake_calls w).mono ?_
  rintro e w1 ⟨rfl, hb1⟩
  have HB1 := Lib.hid hb1
  clear hb1
  by_cases hbig : 1000 < n
  · have hd1 : decide ((n : Int) > 1000) = true := by simp; omega
    go_wp2
    go_ret
    exact ⟨rfl, HB1.out⟩
  have hd1 : decide ((n : Int) > 1000) = false := by simp; omega
  have htb := tot_bound L HD.out
  rw [HN.out] at htb
  go_wp2_with fail
  refine (total_calls a L c n w1 (HR.out.below HB1.out) HN.out (by omega) (by omega)).mono ?_
  rintro e w2 ⟨rfl, rfl⟩
  by_cases hbig2 : 16384 < tot L
  · have hd2 : decide (((tot L : Nat) : Int) > 16384) = true := by simp; omega
    obtain ⟨q, hq⟩ : ∃ q : Int, ((tot L : Nat) : Int) = q := ⟨_, rfl⟩
    rw [hq] at hd2 ⊢
    clear hq htb hbig2
    go_wp2
    go_ret
    exact ⟨rfl, HB1.out⟩
  have hd2 : decide (((tot L : Nat) : Int) > 16384) = false := by simp; omega
  have HT := Lib.hid (Nat.le_of_not_lt hbig2)
  obtain ⟨q, hq⟩ : ∃ q : Int, ((tot L : Nat) : Int) = q := ⟨_, rfl⟩
  rw [hq] at hd2 ⊢
  have hnb : n ≤ 1000 := Nat.le_of_not_lt hbig
  clear hq htb hbig2 hbig hb
  have HP := Lib.hid (Own.nil w2)
  go_wp2
  go_loopg [5, 6] n (fun g bv iv wr => ∃ (i : Nat), iv = .int .i64 (i : Int) ∧ g + i = n ∧ Own w2 wr bv (frs (L.take i)))
  case atStart => exact ⟨0, rfl, rfl, HP.out⟩
  case round =>
    obtain ⟨i, rfl, hg, hpw⟩ := hrel
    have HG := Lib.hid hg
    have HPW := Lib.hid hpw
    clear hg hpw HP
    by_cases hlt : i < n
    · obtain ⟨g', rfl⟩ : ∃ g', gk = g' + 1 := ⟨gk - 1, by have := HG.out; omega⟩
      have hdd : decide ((i : Int) < (n : Int)) = true := by simp; omega
      obtain ⟨f, hf⟩ : ∃ x, L[i]? = some x := ⟨L[i]'(by rw [HN.out]; exact hlt), List.getElem?_eq_getElem _⟩
      have hfl : f.length ≤ 16384 := Nat.le_trans (tot_mem (List.mem_of_getElem? hf)) HT.out
      have HFT := Lib.hid (frs_take hf)
      have HFL := Lib.hid (frs_take_len L i)
      obtain ⟨b, o, da, dc, rfl, _, r0, hrow, hnil, hdc, hdm⟩ := recs_at HR.out hf
      have HBR := Lib.hid (below_then HB1.out HPW.out.bel)
      have hcell : wr.cell? ⟨b, o + i, none⟩ = some (.slice da f.length dc) := (World.cell?_of_block (a := ⟨b, o + i, none⟩) (HBR.out.block b (lt_of_cell r0))).trans r0
      have HPUT := Lib.hid (put_calls da f f.length dc wr (hrow.below HBR.out) rfl (by omega) hnil hdc hdm)
      have hpl := putB_len f
      clear hf hrow hnil hdc hdm r0
      go_wp2_with fail
      refine HPUT.out.mono ?_
      rintro e w3 ⟨v3, rfl, hown3⟩
      obtain ⟨a3, c3, hv3, hr3, hn3, -⟩ := hown3.form
      subst hv3
      obtain ⟨v6, w6, hrun6, hpw6, -⟩ := (HPW.out.below hown3.bel).append hr3 rfl hn3 (by have := HFL.out; have := HT.out; have := HN.out; omega)
      rw [← HFT.out] at hpw6
      have HRUN6 := Lib.hid hrun6
      have HPW6 := Lib.hid hpw6
      obtain ⟨k, hk⟩ : ∃ k, (putB f).length = k := ⟨_, rfl⟩
      rw [hk] at HRUN6 ⊢
      clear hrun6 hpw6 hk hpl HPUT HPW HFT hown3 hr3 hn3
      go_wp2_with (at_builtin; refine wpList_step (fun K hK => step_app HRUN6.out (.tmp 30) (.tmp 35) rfl rfl rfl rfl (hK _ _ ?_)))
      go_wp2
      go_roundg g'
      case measure => omega
      case rel => exact ⟨i + 1, by go_num, by have := HG.out; omega, HPW6.out⟩
    · have hdd : decide ((i : Int) < (n : Int)) = false := by simp; omega
      have hti : L.take i = L := List.take_of_length_le (by rw [HN.out]; omega)
      have hpw := HPW.out
      rw [hti] at hpw
      have hfl := frs_len L
      rw [HN.out] at hfl
      have hfl2 : (frs L).length ≤ 24384 := by have := HT.out; omega
      obtain ⟨a3, c3, hv3, hr3, hn3, hc3, hm3⟩ := hpw.form
      subst hv3
      obtain ⟨m, hm⟩ : ∃ m, (frs L).length = m := ⟨_, rfl⟩
      rw [hm] at hfl hfl2 hc3 ⊢
      obtain ⟨N, hN⟩ : ∃ N : Nat, (N : Int) = (m : Int) - min ct (m : Int) ∧ N ≤ m := ⟨((m : Int) - min ct (m : Int)).toNat, by omega, by omega⟩
      have HOUT := Lib.hid (all_calls a3 ((frs L).take N) N c3 wr (hr3.take N) (by rw [List.length_take, hm]; omega) (by omega) (by omega) hm3 hn3)
      have HNN := Lib.hid hN.1
      have hNm : N ≤ m := hN.2
      have HST := Lib.hid (Tear.start (L := L) (n := N) (by rw [hm]; exact hNm))
      have HBR := Lib.hid (below_then HB1.out hpw.bel)
      clear hpw hti hr3 hn3 hm3 hfl hm hN HPW
      -- CUT
      go_wp2_with fail
      rw [← HNN.out, Int.toNat_natCast]
      refine HOUT.out.mono ?_
      rintro e w5 ⟨v5, rfl, hown5⟩
      have HB5 := Lib.hid (below_then HBR.out hown5.bel)
      have hxb := (all_bounds N ((frs L).take N) (by rw [List.length_take]; omega)).1
      rw [List.length_take] at hxb
      obtain ⟨X, hX⟩ : ∃ X, (allB ((frs L).take N)).1 = X := ⟨_, rfl⟩
      rw [hX] at hxb
      obtain ⟨G, hG⟩ : ∃ X, (allB ((frs L).take N)).2.1 = X := ⟨_, rfl⟩
      obtain ⟨T, hT⟩ : ∃ X, (allB ((frs L).take N)).2.2 = X := ⟨_, rfl⟩
      rw [hX] at hown5
      rw [hX, hG, hT] at HST
      rw [hG, hT]
      obtain ⟨a5, c5, S5, hv5, hrx, -⟩ := hown5.form
      subst hv5
      have HRX := Lib.hid hrx
      obtain ⟨x, hx⟩ : ∃ x, X.length = x := ⟨_, rfl⟩
      have HXL := Lib.hid hx
      rw [hx] at hxb ⊢
      have hx2 : x ≤ 24384 := by omega
      clear hxb hown5 hX hG hT hrx HOUT HNN hx
      go_wp2
      go_loopg [11, 12, 13] n (fun g av kv iv wr => ∃ (i at_ k d : Nat), av = .int .i64 (at_ : Int) ∧ kv = .int .i64 (k : Int) ∧ iv = .int .i64 (i : Int) ∧ g + i = n ∧ Tear L N X G T i at_ k ∧ wr = w5.drewN d)
      case atStart => exact ⟨0, 0, 0, 0, rfl, rfl, rfl, rfl, HST.out, rfl⟩
      case round =>
        obtain ⟨i, at_, k, d, rfl, rfl, rfl, hg, hst, rfl⟩ := hrel
        have HG := Lib.hid hg
        have HTR := Lib.hid hst
        have HBD := Lib.hid (below_then HB5.out (below_draws w5 d))
        have hkx : k ≤ x := by rw [← HXL.out]; exact hst.kx
        have han : at_ ≤ N := hst.an
        clear hg hst HST
        by_cases hlt : i < n
        · obtain ⟨g', rfl⟩ : ∃ g', gk = g' + 1 := ⟨gk - 1, by have := HG.out; omega⟩
          have hdd : decide ((i : Int) < (n : Int)) = true := by simp; omega
          obtain ⟨f, hf⟩ : ∃ x, L[i]? = some x := ⟨L[i]'(by rw [HN.out]; exact hlt), List.getElem?_eq_getElem _⟩
          have hfl : f.length ≤ 16384 := Nat.le_trans (tot_mem (List.mem_of_getElem? hf)) HT.out
          have HF := Lib.hid hf
          obtain ⟨b, o, da, dc, rfl, _, r0, hrow, -⟩ := recs_at HR.out hf
          have hcell : w5.cell? ⟨b, o + i, none⟩ = some (.slice da f.length dc) := (World.cell?_of_block (a := ⟨b, o + i, none⟩) (HB5.out.block b (lt_of_cell r0))).trans r0
          have HROW := Lib.hid (hrow.below HB5.out)
          obtain ⟨z, hz⟩ : ∃ z, f.length = z := ⟨_, rfl⟩
          have HZ := Lib.hid hz
          rw [hz] at hcell hfl
          clear hf hrow r0 hz
          by_cases hz0 : z = 0
          · have hzb : ((z : Int) == 0) = true := by rw [hz0]; rfl
            have HTR2 := Lib.hid (HTR.out.skip HF.out (by rw [HZ.out]; exact hz0))
            go_wp2
            go_roundg g'
            case measure => omega
            case rel => exact ⟨i + 1, at_, k, d, rfl, rfl, by go_num, by have := HG.out; omega, HTR2.out, rfl⟩
          have hzb : ((z : Int) == 0) = false := by simp; omega
          by_cases hbr : N < at_ + 8 + z
          · have hbd : decide ((at_ : Int) + 8 + (z : Int) > (N : Int)) = true := by simp; omega
            have HEND := Lib.hid (HTR.out.stop HF.out (by rw [HZ.out]; omega) (by rw [HZ.out]; omega) (by rw [HZ.out]; exact hbr))
            obtain ⟨hk, hg, ht⟩ := HEND.out
            have hk1 : ((k : Int) == (x : Int)) = true := by rw [hk, HXL.out]; simp
            subst hg
            rcases ht with ⟨rfl, hat⟩ | ⟨rfl, hat⟩
            · have e1 : ((G : Int) == (N : Int)) = true := by rw [hat]; simp
              have e2 : ((G : Int) != (N : Int)) = false := by rw [hat]; simp
              clear hk hat HEND HTR
              go_wp2
              go_ret
              exact ⟨rfl, HBD.out⟩
            · have e1 : ((G : Int) == (N : Int)) = false := by simp; omega
              have e2 : ((G : Int) != (N : Int)) = true := by simp; omega
              clear hk hat HEND HTR
              go_wp2
              go_ret
              exact ⟨rfl, HBD.out⟩
          have hbd : decide ((at_ : Int) + 8 + (z : Int) > (N : Int)) = false := by simp; omega
          obtain ⟨hxk, htr⟩ := HTR.out.more HF.out (by rw [HZ.out]; omega) (by rw [HZ.out]; omega) (by rw [HZ.out]; omega)
          rw [HZ.out] at htr
          have HTR2 := Lib.hid htr
          have hk2 : k < x := by rw [← HXL.out]; exact (List.getElem?_eq_some_iff.1 hxk).1
          have hkd : decide ((k : Int) ≥ (x : Int)) = false := by simp; omega
          obtain ⟨bx, ox, dx, cx, rfl, _, rx, hrowx, -⟩ := recs_at HRX.out hxk
          rw [HZ.out] at rx
          have HBY : Hid (∀ W, Row W S5 dx f → Row W (Was w) da f → Calls Try.prog 14 #[.slice dx z cx, .slice da z dc] W (Tells (.bool true) W)) := Lib.hid (fun W hW hW' => by
            have h := bytes_calls dx da f f cx dc z z W hW hW' HZ.out HZ.out (by omega) (by omega)
            rwa [decide_eq_true rfl] at h)
          have HROWX := Lib.hid hrowx
          clear hxk htr hrowx
          go_wp2
          go_quiet ((exact quiet_add (HBY.out _ (HROWX.out.draws _) (HROW.out.draws _))))
          go_wp2
          go_roundg g'
          case measure => omega
          case rel => exact ⟨i + 1, at_ + 8 + z, k + 1, _, by go_num, by go_num, by go_num, by have := HG.out; omega, HTR2.out, rfl⟩
        · have hdd : decide ((i : Int) < (n : Int)) = false := by simp; omega
          have HEND := Lib.hid (HTR.out.last (by rw [HN.out]; omega))
          obtain ⟨hk, hg, ht⟩ := HEND.out
          have hk1 : ((k : Int) == (x : Int)) = true := by rw [hk, HXL.out]; simp
          subst hg
          rcases ht with ⟨rfl, hat⟩ | ⟨rfl, hat⟩
          · have e1 : ((G : Int) == (N : Int)) = true := by rw [hat]; simp
            have e2 : ((G : Int) != (N : Int)) = false := by rw [hat]; simp
            clear hk hat HEND HTR
            go_wp2
            go_ret
            exact ⟨rfl, HBD.out⟩
          · have e1 : ((G : Int) == (N : Int)) = false := by simp; omega
            have e2 : ((G : Int) != (N : Int)) = true := by simp; omega
            clear hk hat HEND HTR
            go_wp2
            go_ret
            exact ⟨rfl, HBD.out⟩

end Go.Proofs.Ytoceknldlhmnoaa
