/-
  The reference's Spans: flags as a set. Condition: of 0 nothing is told.
-/
import Derived.Test.YtiolchdfjlffoaaDoorIV
namespace Go.Proofs.YtiolchdfjlffoaaDoor
open Go.RowKit Go.Lib Go.Joins

theorem UpTo.run {S : List Sp} {G : Int → Bool} {n t : Nat} (h : UpTo S G n) (hl : ∀ x ∈ S, x.2 + 1 < ((n + 1 : Nat) : Int)) (hnt : n + 1 ≤ t) (ht : t ≤ 200) (hG : ∀ y : Int, ((n + 1 : Nat) : Int) ≤ y → y ≤ (t : Int) → G y = true) :
    UpTo (S ++ [(((n + 1 : Nat) : Int), (t : Int))]) G t := by
  refine ⟨mayF_snoc h.may hl (by show (-1 : Int) + 1 < ((n + 1 : Nat) : Int); omega) (by show ((n + 1 : Nat) : Int) ≤ (t : Int); omega) (by show (t : Int) ≤ 200; omega), fun x hx => ?_, fun v => ?_⟩
  · rcases List.mem_append.1 hx with hx | hx
    · have := h.top x hx
      omega
    · obtain rfl : x = (((n + 1 : Nat) : Int), (t : Int)) := by simpa using hx
      exact Int.le_refl _
  · rw [inS_app, h.all v, inS_cons, inS_nil, Bool.or_false]
    show (((decide (1 ≤ v) && decide (v ≤ (n : Int))) && G v) || (decide (((n + 1 : Nat) : Int) ≤ v) && decide (v ≤ (t : Int)))) = _
    by_cases h1 : ((n + 1 : Nat) : Int) ≤ v
    · by_cases h2 : v ≤ (t : Int)
      · rw [hG v h1 h2, decide_eq_true h1, decide_eq_true h2, decide_eq_true (by omega : 1 ≤ v)]
        simp
      · rw [decide_eq_false h2, decide_eq_false (by omega : ¬ v ≤ (n : Int))]
        simp
    · rw [decide_eq_false h1, Bool.false_and, Bool.or_false]
      congr 1
      rw [← Bool.decide_and, ← Bool.decide_and, decide_eq_decide]
      omega

set_option maxRecDepth 100000 in
set_option maxHeartbeats 8000000 in
theorem spans_calls {w : World} {G : Int → Bool} : Calls Tryd.prog 36 #[.agg (flagV G)] w (SetOut (setF G) w) := by
  obtain ⟨C, hC⟩ : ∃ C, setF G = C := ⟨_, rfl⟩
  rw [hC]
  have HC := Lib.hid hC
  clear hC
  obtain ⟨W1, hW1⟩ : ∃ W1, w.alloc (.cells (flagV G) 48) = W1 := ⟨_, rfl⟩
  have HB1 : Hid (Below w.heap.size w W1) := Lib.hid (by rw [← hW1]; exact (Below.refl _ _).alloc (Nat.le_refl _) _)
  have HF1 : Hid (FlagAt W1 w.heap.size 48 G) := Lib.hid (by rw [← hW1]; exact heap_alloc_new _ _)
  obtain ⟨b0, hb0⟩ : ∃ b0, w.heap.size = b0 := ⟨_, rfl⟩
  rw [hb0] at HF1 HB1
  have HN1 : Hid (b0 ≤ W1.heap.size) := Lib.hid (by rw [← hb0]; rw [← hb0] at HB1; exact HB1.out.size)
  have HW1 := Lib.hid hW1
  have HB0 := Lib.hid hb0
  clear hW1 hb0
  unfold SetOut
  go_enter Tryd.func36, Tryd.ntmps36
  go_upto_region 2 with (fail)
  rw [HW1.out, HB0.out]
  go_wp2_with fail
  go_loopg [3, 4] 200 (fun g s ix wr => ∃ (v : Nat) (S : List Sp), OwnP W1.heap.size wr s S ∧ ix = .int .i64 (v : Int) ∧ g + v = 201 ∧ 1 ≤ v ∧ UpTo S G (v - 1) ∧ (G (v : Int) = true → v ≤ 200 → ∀ x ∈ S, x.2 + 1 < (v : Int)) ∧ Below W1.heap.size W1 wr)
  case atStart => exact ⟨1, [], OwnP.nil _ _, rfl, rfl, Nat.le_refl _, UpTo.zero G, (fun _ _ x hx => by cases hx), Below.refl _ _⟩
  case round =>
    obtain ⟨v, S, hown, rfl, hg, hv1, hup, hahead, hb⟩ := hrel
    have HO := Lib.hid hown
    have HU := Lib.hid hup
    have HA := Lib.hid hahead
    have HB := Lib.hid hb
    have HFL := Lib.hid (HF1.out.below hb)
    obtain ⟨sa, sc, hsv⟩ := hown.form
    subst hsv
    have hsl := mayS_length hup.may
    obtain ⟨ns, hns⟩ : ∃ ns, S.length = ns := ⟨_, rfl⟩
    have HNS := Lib.hid hns
    rw [hns] at HO hsl ⊢
    clear hown hup hahead hb hns
    cases gk with
    | zero =>
      have hge : ¬ ((v : Int) ≤ 200) := by omega
      have HF : Hid (S = C) := Lib.hid (by
        have h := HU.out
        rw [show v - 1 = 200 by omega] at h
        rw [← HC.out]
        refine setF_of h.may fun y h1 h2 => ?_
        rw [h.all y, decide_eq_true h1, decide_eq_true (by omega : y ≤ ((200 : Nat) : Int))]
        rfl)
      go_wp2_with fail
      go_ret
      exact ⟨_, rfl, by rw [← HF.out]; exact HO.out.in, by rw [HB0.out]; exact HB1.out.trans (HB.out.mono HN1.out)⟩
    | succ g =>
      have hlt : (v : Int) ≤ 200 := by omega
      have hvn : v ≤ 200 := by omega
      have hv0 : (0 : Int) ≤ (v : Int) := by omega
      have hv201 : (v : Int) < 201 := by omega
      have hadd : IntKind.i64.wrap ((v : Int) + 1) = ((v + 1 : Nat) : Int) := IntWalk.i64_in _ (by omega)
      have c1 := HFL.out.cell hvn
      obtain ⟨bk, hbk⟩ : ∃ bk, G (v : Int) = bk := ⟨_, rfl⟩
      rw [hbk] at c1
      have HBK := Lib.hid hbk
      clear hbk
      cases bk with
      | false =>
        have HU2 : Hid (UpTo S G (v + 1 - 1)) := Lib.hid (by
          have h := HU.out.skip (by rw [show v - 1 + 1 = v by omega]; exact HBK.out)
          rw [show v - 1 + 1 = v + 1 - 1 by omega] at h
          exact h)
        go_wp2_with fail
        go_roundg g
        case measure => omega
        case rel => exact ⟨v + 1, S, HO.out, by go_num, by omega, by omega, HU2.out, (fun _ _ x hx => by have := HU.out.top x hx; omega), HB.out⟩
      | true =>
        obtain ⟨w5, hw5⟩ : ∃ w5, w5 = wr := ⟨_, rfl⟩
        rw [← hw5] at HO HB HFL c1 ⊢
        clear hw5
        go_wp2_with fail
        go_loopg [5] (200 - v) (fun g s w2 => ∃ (t : Nat), s = .int .i64 (t : Int) ∧ g + t = 200 ∧ v ≤ t ∧ (∀ y : Int, (v : Int) ≤ y → y ≤ (t : Int) → G y = true) ∧ w5 = w2)
        case atStart => exact ⟨v, rfl, by omega, Nat.le_refl _, (fun y h1 h2 => by rw [show y = (v : Int) by omega]; exact HBK.out), rfl⟩
        case round =>
          obtain ⟨t, rfl, hgt, hvt, hall, rfl⟩ := hrel
          have HALL := Lib.hid hall
          clear hall
          have htn : t ≤ 200 := by omega
          have hadt : IntKind.i64.wrap ((t : Int) + 1) = ((t + 1 : Nat) : Int) := IntWalk.i64_in _ (by omega)
          by_cases hts : t < 200
          · have hlt2 : (t : Int) < 200 := by omega
            have ht0 : (0 : Int) ≤ (t : Int) + 1 := by omega
            have ht1 : (t : Int) + 1 < 201 := by omega
            have c2 := HFL.out.cell (i := t + 1) (by omega)
            obtain ⟨b2, hb2⟩ : ∃ b2, G ((t + 1 : Nat) : Int) = b2 := ⟨_, rfl⟩
            rw [hb2] at c2
            have H2 := Lib.hid hb2
            clear hb2
            cases b2 with
            | true =>
              have HALL2 : Hid (∀ y : Int, (v : Int) ≤ y → y ≤ ((t + 1 : Nat) : Int) → G y = true) := Lib.hid (fun y h1 h2 => by
                by_cases e : y = ((t + 1 : Nat) : Int)
                · rw [e]
                  exact H2.out
                · exact HALL.out y h1 (by omega))
              go_wp2_with fail
              go_roundg (199 - t)
              case measure => omega
              case rel => exact ⟨t + 1, by go_num, by omega, by omega, HALL2.out, rfl⟩
            | false =>
              obtain ⟨v', w9, hrun, hown9, hkp9⟩ := HO.out.append (v : Int) (t : Int) HB.out.size (by have := HNS.out; omega)
              obtain ⟨a9, c9, hv9⟩ := hown9.form
              have HRUN := Lib.hid hrun
              have HO9 := Lib.hid hown9
              have HB9 : Hid (Below W1.heap.size W1 w9) := Lib.hid (HB.out.trans (hkp9.toBelow HB.out.size (fun q e => HO.out.new q e)))
              rw [List.length_append, List.length_singleton, HNS.out] at hv9
              subst hv9
              have HU9 : Hid (UpTo (S ++ [((v : Int), (t : Int))]) G (t + 1 - 1)) := Lib.hid (by
                have h := UpTo.run (n := v - 1) (t := t) HU.out (by rw [show v - 1 + 1 = v by omega]; exact HA.out HBK.out hvn) (by omega) htn (by rw [show v - 1 + 1 = v by omega]; exact HALL.out)
                rw [show v - 1 + 1 = v by omega] at h
                rw [Nat.add_sub_cancel]
                exact h)
              clear hrun hown9 hkp9
              go_wp2_with (at_builtin; refine wpList_step (fun K hK => step_app HRUN.out (.tmp 25) (.tmp 29) rfl rfl rfl rfl (hK _ _ ?_)))
              go_roundg (200 - t)
              case measure => omega
              case rel => exact ⟨t + 1, S ++ [((v : Int), (t : Int))], HO9.out, by go_num, by omega, by omega, HU9.out, (fun e _ => by rw [H2.out] at e; cases e), HB9.out⟩
          · obtain rfl : t = 200 := by omega
            obtain ⟨v', w9, hrun, hown9, hkp9⟩ := HO.out.append (v : Int) ((200 : Nat) : Int) HB.out.size (by have := HNS.out; omega)
            obtain ⟨a9, c9, hv9⟩ := hown9.form
            have HRUN := Lib.hid hrun
            have HO9 := Lib.hid hown9
            have HB9 : Hid (Below W1.heap.size W1 w9) := Lib.hid (HB.out.trans (hkp9.toBelow HB.out.size (fun q e => HO.out.new q e)))
            rw [List.length_append, List.length_singleton, HNS.out] at hv9
            subst hv9
            have HU9 : Hid (UpTo (S ++ [((v : Int), ((200 : Nat) : Int))]) G (200 + 1 - 1)) := Lib.hid (by
              have h := UpTo.run (n := v - 1) (t := 200) HU.out (by rw [show v - 1 + 1 = v by omega]; exact HA.out HBK.out hvn) (by omega) htn (by rw [show v - 1 + 1 = v by omega]; exact HALL.out)
              rw [show v - 1 + 1 = v by omega] at h
              rw [Nat.add_sub_cancel]
              exact h)
            clear hrun hown9 hkp9
            go_wp2_with (at_builtin; refine wpList_step (fun K hK => step_app HRUN.out (.tmp 25) (.tmp 29) rfl rfl rfl rfl (hK _ _ ?_)))
            go_roundg (0)
            case measure => omega
            case rel => exact ⟨200 + 1, S ++ [((v : Int), ((200 : Nat) : Int))], HO9.out, by go_num, by omega, by omega, HU9.out, (fun _ e => by omega), HB9.out⟩
end Go.Proofs.YtiolchdfjlffoaaDoor
