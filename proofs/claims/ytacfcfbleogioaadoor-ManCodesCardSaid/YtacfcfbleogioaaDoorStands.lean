/-
  What stands at the beginning of bytes. Condition: the slice leads to bytes, no more than 2 to the 30.
-/
import Derived.Test.YtacfcfbleogioaaDoorWord
namespace Go.Proofs.YtacfcfbleogioaaDoor
open Go.RowKit Go.Lib

theorem Row.drop {w : World} {S : Nat → Prop} {b o : Nat} {l : List Nat} (h : Row w S (some ⟨b, o, none⟩) l) (n : Nat) : Row w S (some ⟨b, o + n, none⟩) (l.drop n) := by
  refine ⟨fun c hc => h.1 c (List.mem_of_mem_drop hc), ?_⟩
  rcases h.2 with h0 | ⟨b', o', ha, hs, hc⟩
  · exact Or.inl (by rw [h0]; exact List.drop_nil)
  · obtain ⟨rfl, rfl⟩ : b = b' ∧ o = o' := by simpa using ha
    refine Or.inr ⟨b, o + n, rfl, hs, fun i c hi => ?_⟩
    rw [Nat.add_assoc]
    exact hc _ c (by rw [List.getElem?_drop] at hi; exact hi)
theorem Row.draws {w : World} {S : Nat → Prop} {a : Option Addr} {l : List Nat} (h : Row w S a l) (n : Nat) : Row (w.drewN n) S a l := h.keep ((Keeps.refl Non _).drewN _) (fun _ _ h => h)
theorem row_form {w : World} {S : Nat → Prop} {a : Option Addr} {l : List Nat} (h : Row w S a l) (h0 : 0 < l.length) : ∃ b o, a = some ⟨b, o, none⟩ := by
  obtain ⟨b, o, ha, _⟩ := row_at h (i := 0) (List.getElem?_eq_getElem h0)
  exact ⟨b, o, ha⟩

set_option maxRecDepth 100000 in
set_option maxHeartbeats 4000000 in
theorem stands_calls {S : Nat → Prop} (a : Option Addr) (l : List Nat) (n c : Nat) (w : World) (hr : Row w S a l) (hn : l.length = n) (hm : n ≤ 1073741824) (hc : n ≤ c) (_hc2 : c ≤ maxLen) :
    Calls Tryd.prog 33 #[.slice a n c] w (Tells (.int .i64 ((standsB l : Nat) : Int)) w) := by
  obtain ⟨q, hq⟩ : ∃ q, standsB l = q := ⟨_, rfl⟩
  rw [hq]
  unfold standsB at hq
  rw [hn] at hq
  by_cases h0 : n = 0
  · subst h0
    rw [if_pos rfl] at hq
    subst hq
    clear hr hn hm
    go_enter Tryd.func33, Tryd.ntmps33
    go_wp2
    go_ret
    exact ⟨rfl, 0, rfl⟩
  rw [if_neg h0] at hq
  have hne : ((n : Int) == 0) = false := by simp; omega
  by_cases h4 : n < 4
  · rw [if_pos h4] at hq
    subst hq
    have hd : decide ((n : Int) < 4) = true := by simp; omega
    clear hr hn hm
    go_enter Tryd.func33, Tryd.ntmps33
    go_wp2
    go_ret
    exact ⟨rfl, 0, rfl⟩
  rw [if_neg h4] at hq
  have hd : decide ((n : Int) < 4) = false := by simp; omega
  obtain ⟨b, o, rfl⟩ := row_form hr (by omega)
  have HREAD := Lib.hid (fun W (h : Row W S (some ⟨b, o, none⟩) l) => fread_calls (some ⟨b, o, none⟩) l n c W h hn (by omega))
  have HREACH := Lib.hid (fun W (h : Row W S (some ⟨b, o, none⟩) l) => reach_calls (some ⟨b, o, none⟩) l n c W h hn (by omega))
  have hlt := get32_lt hr.1
  have g0 : (0 : Int) ≤ ((get32 l : Nat) : Int) := by omega
  have g1 : ((get32 l : Nat) : Int) < 4294967296 := by omega
  obtain ⟨g, hg⟩ : ∃ g, get32 l = g := ⟨_, rfl⟩
  rw [hg] at HREAD HREACH g0 g1 hq hlt
  have HR := Lib.hid hr
  clear hr
  by_cases hmay : 1 ≤ g ∧ g ≤ 1048576
  · rw [if_neg (fun h => h hmay)] at hq
    have hmb : mayB (g : Int) = true := by unfold mayB; simp; omega
    by_cases hl : n < 8 + g
    · rw [if_pos hl] at hq
      subst hq
      have hd2 : decide ((n : Int) < 8 + (g : Int)) = true := by simp; omega
      go_enter Tryd.func33, Tryd.ntmps33
      go_wp2_with fail
      refine (HREAD.out _ HR.out).mono ?_
      rintro e w1 ⟨rfl, k1, rfl⟩
      go_wp2_with fail
      refine (fmay_calls _ _).mono ?_
      rintro e w1 ⟨rfl, rfl⟩
      rw [hmb]
      go_wp2_with fail
      refine (HREACH.out _ (HR.out.draws _)).mono ?_
      rintro e w1 ⟨rfl, k2, rfl⟩
      go_wp2
      go_ret
      exact ⟨rfl, _, rfl⟩
    rw [if_neg hl] at hq
    have hd2 : decide ((n : Int) < 8 + (g : Int)) = false := by simp; omega
    have HREAD4 := Lib.hid (fun W (h : Row W S (some ⟨b, o + 4, none⟩) (l.drop 4)) => fread_calls (some ⟨b, o + 4, none⟩) (l.drop 4) (n - 4) (c - 4) W h (by rw [List.length_drop]; omega) (by omega))
    have HSUM := Lib.hid (fun W (h : Row W S (some ⟨b, o, none⟩) (l.take 4)) (h' : Row W S (some ⟨b, o + 8, none⟩) (recB l)) => fsum_calls (some ⟨b, o, none⟩) (some ⟨b, o + 8, none⟩) (l.take 4) (recB l) 4 c g (c - 8) W h (by rw [List.length_take]; omega) (by omega) h' (by unfold recB; rw [List.length_take, List.length_drop, hg]; omega) (by omega))
    have HR4 := Lib.hid (HR.out.drop 4)
    have HRT := Lib.hid (HR.out.take 4)
    have HRR : Hid (Row w S (some ⟨b, o + 8, none⟩) (recB l)) := Lib.hid ((HR.out.drop 8).take _)
    obtain ⟨s, hs⟩ : ∃ s, get32 (l.drop 4) = s := ⟨_, rfl⟩
    obtain ⟨t, ht⟩ : ∃ t, sumN (l.take 4) (recB l) = t := ⟨_, rfl⟩
    rw [hs] at HREAD4 hq
    rw [ht] at HSUM hq
    clear hs ht hn hg
    go_enter Tryd.func33, Tryd.ntmps33
    go_wp2_with fail
    refine (HREAD.out _ HR.out).mono ?_
    rintro e w1 ⟨rfl, k1, rfl⟩
    go_wp2_with fail
    refine (fmay_calls _ _).mono ?_
    rintro e w1 ⟨rfl, rfl⟩
    rw [hmb]
    go_wp2_with fail
    refine (HREACH.out _ (HR.out.draws _)).mono ?_
    rintro e w1 ⟨rfl, k2, hw1⟩
    rw [World.drewN_drewN] at hw1
    have HR4' := Lib.hid (HR4.out.draws (k1 + k2))
    have HRT' := Lib.hid (HRT.out.draws (k1 + k2))
    have HRR' := Lib.hid (HRR.out.draws (k1 + k2))
    have HR' := Lib.hid (HR.out.draws (k1 + k2))
    have HW : Hid (w1 = w.drewN (k1 + k2)) := Lib.hid hw1
    rw [← hw1] at HR4' HRT' HRR' HR'
    clear hw1 HR4 HRT HRR HR
    by_cases hst : s = t
    · rw [if_neg (fun h => h hst)] at hq
      subst hq
      have hb : ((s : Int) != (t : Int)) = false := by rw [hst]; simp
      clear hst
      go_wp2_with fail
      go_quiet (first
        | with_reducible exact Calls.quiet_of (HREAD4.out _ (HR4'.out.draws _))
        | with_reducible exact Calls.quiet_of (HREACH.out _ (HR'.out.draws _))
        | with_reducible exact Calls.quiet_of_same (HSUM.out _ (HRT'.out.draws _) (HRR'.out.draws _)))
      go_wp2
      go_ret
      exact ⟨rfl, _, by rw [HW.out, World.drewN_drewN]⟩
    · rw [if_pos hst] at hq
      subst hq
      have hb : ((s : Int) != (t : Int)) = true := by simp; omega
      clear hst
      go_wp2_with fail
      go_quiet (first
        | with_reducible exact Calls.quiet_of (HREAD4.out _ (HR4'.out.draws _))
        | with_reducible exact Calls.quiet_of (HREACH.out _ (HR'.out.draws _))
        | with_reducible exact Calls.quiet_of_same (HSUM.out _ (HRT'.out.draws _) (HRR'.out.draws _)))
      go_wp2
      go_ret
      exact ⟨rfl, _, by rw [HW.out, World.drewN_drewN]⟩
  · rw [if_pos hmay] at hq
    subst hq
    have hmb : mayB (g : Int) = false := by
      unfold mayB
      rw [Bool.eq_false_iff]
      intro h
      simp at h
      exact hmay (by omega)
    go_enter Tryd.func33, Tryd.ntmps33
    go_wp2_with fail
    refine (HREAD.out _ HR.out).mono ?_
    rintro e w1 ⟨rfl, k1, rfl⟩
    go_wp2_with fail
    refine (fmay_calls _ _).mono ?_
    rintro e w1 ⟨rfl, rfl⟩
    rw [hmb]
    go_wp2
    go_ret
    exact ⟨rfl, k1, rfl⟩

end Go.Proofs.YtacfcfbleogioaaDoor
