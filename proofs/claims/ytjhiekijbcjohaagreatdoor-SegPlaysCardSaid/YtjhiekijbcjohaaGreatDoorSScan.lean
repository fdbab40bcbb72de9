/-
  What a segment's bytes are, told by the program. Condition: the slice leads to bytes, no more than 2 to the 30.
-/
import Derived.Test.YtjhiekijbcjohaaGreatDoorSHead
namespace Go.Proofs.YtjhiekijbcjohaaGreatDoor
open Go.RowKit Go.Lib Go.Joins

def ScanOut (n : Int) (l : List Nat) (w : World) (e : Ending) (w' : World) : Prop :=
  ∃ v, e = .returned (.tuple #[v, .int .i64 (((scanB n l).2.1 : Nat) : Int), .int .i64 (((scanB n l).2.2 : Nat) : Int)]) ∧ OwnR w w' v (scanB n l).1

theorem scan_not {n : Int} (h : mayN n = false) (l : List Nat) : scanB n l = ([], 0, 4) := if_pos (.inl h)
theorem scan_bad {n : Int} {l : List Nat} (h : (headB n).take l.length ≠ l.take 12) : scanB n l = ([], 0, 4) := if_pos (.inr h)
theorem scan_torn {n : Int} {l : List Nat} (h : mayN n = true) (h2 : (headB n).take l.length = l.take 12) (h3 : l.length < 12) : scanB n l = ([], 0, 3) := by
  unfold scanB
  rw [if_neg (by rw [h]; simp [h2]), if_pos h3]
theorem scan_whole {n : Int} {l : List Nat} (h : mayN n = true) (h2 : (headB n).take l.length = l.take 12) (h3 : ¬ l.length < 12) : scanB n l = ((allB (l.drop 12)).1, 12 + (allB (l.drop 12)).2.1, (allB (l.drop 12)).2.2) := by
  unfold scanB
  rw [if_neg (by rw [h]; simp [h2]), if_neg h3]

set_option maxRecDepth 100000 in
set_option maxHeartbeats 4000000 in
theorem scan_calls {S : Nat → Prop} (n : Int) (a : Option Addr) (l : List Nat) (k c : Nat) (w : World) (hr : Row w S a l) (hk : l.length = k) (hm : k ≤ 1073741824) (hc : k ≤ c) (hc2 : c ≤ maxLen) (h0 : a = none → c = 0) :
    Calls Tryz.prog 57 #[.int .i64 n, .slice a k c] w (ScanOut n l w) := by
  have HH := Lib.hid (head_calls n w)
  cases hmay : mayN n with
  | false =>
    have HM := Lib.hid (fun W => smay_calls n W)
    rw [hmay] at HM
    rw [headB_not hmay] at HH
    have HF : Hid (∀ W, Below w.heap.size w W → ScanOut n l w (.returned (.tuple #[.slice none 0 0, .int .i64 0, .int .i64 4])) W) := Lib.hid (fun W hb => by
      unfold ScanOut
      rw [scan_not hmay]
      exact ⟨_, rfl, (OwnR.nil w).below hb⟩)
    clear hr hk hc2 h0 hmay
    go_enter Tryz.func57, Tryz.ntmps57
    go_wp2_with fail
    refine HH.out.mono ?_
    rintro e w2 ⟨v, rfl, hown⟩
    obtain ⟨ah, ch, rfl, -⟩ := hown.form
    have HB := Lib.hid hown.bel
    clear hown HH
    go_wp2_with fail
    refine (HM.out w2).mono ?_
    rintro e w3 ⟨rfl, rfl⟩
    go_wp2
    go_ret3
    exact HF.out _ HB.out
  | true =>
    have HM := Lib.hid (fun W => smay_calls n W)
    rw [hmay] at HM
    have hlen := headB_len hmay
    obtain ⟨hd, hhd⟩ : ∃ hd, headB n = hd := ⟨_, rfl⟩
    obtain ⟨s, hs⟩ : ∃ s, min 12 k = s := ⟨_, rfl⟩
    have hs1 : s ≤ 12 := by omega
    have hs2 : s ≤ k := by omega
    have HEQ := Lib.hid (fun W ah ch (S1 : Nat → Prop) (h1 : Row W S1 ah (hd.take s)) (h2 : Row W S a (l.take s)) => equal_calls s s ch c h1 h2 (by rw [List.length_take, ← hhd, hlen]; omega) (by rw [List.length_take, hk]; omega))
    have htk : (hd.take s = l.take s) ↔ (headB n).take l.length = l.take 12 := by
      rw [hhd, hk]
      rcases Nat.lt_or_ge k 12 with h | h
      · have e1 : s = k := by omega
        rw [e1, List.take_of_length_le (l := l) (i := k) (by omega), List.take_of_length_le (l := l) (i := 12) (by omega)]
      · have e1 : s = 12 := by omega
        rw [e1, List.take_of_length_le (l := hd) (i := k) (by rw [← hhd, hlen]; exact h), List.take_of_length_le (l := hd) (i := 12) (by rw [← hhd, hlen]; omega)]
    have HTK := Lib.hid htk
    rw [hhd] at hlen HH
    have HLEN := Lib.hid hlen
    have HR := Lib.hid hr
    have HK := Lib.hid hk
    have HMAY := Lib.hid hmay
    have hmin : min (12 : Int) (k : Int) = (s : Int) := by omega
    clear hr hk hmay hlen hhd htk hs
    go_enter Tryz.func57, Tryz.ntmps57
    go_wp2_with fail
    refine HH.out.mono ?_
    rintro e w2 ⟨v, rfl, hown⟩
    obtain ⟨ah, ch, rfl, hrh, hnh, hlh, hmh⟩ := hown.form
    rw [HLEN.out] at hlh ⊢
    have HB := Lib.hid hown.bel
    have HRH := Lib.hid (hrh.take s)
    have HRB := Lib.hid ((HR.out.below hown.bel).take s)
    clear hown HH hrh
    go_wp2_with fail
    refine (HM.out w2).mono ?_
    rintro e w3 ⟨rfl, rfl⟩
    obtain ⟨q, hq⟩ : ∃ q, decide (hd.take s = l.take s) = q := ⟨_, rfl⟩
    rw [hq] at HEQ
    have HQ := Lib.hid hq
    clear hq
    have hsch : s ≤ ch := by omega
    have hsc : s ≤ c := by omega
    have hi1 : (s : Int) ≤ (ch : Int) := by omega
    have hi2 : (s : Int) ≤ (c : Int) := by omega
    have hi3 : (0 : Int) ≤ (s : Int) := by omega
    cases q with
    | false =>
      have HF : Hid (∀ W, Below w.heap.size w W → ScanOut n l w (.returned (.tuple #[.slice none 0 0, .int .i64 0, .int .i64 4])) W) := Lib.hid (fun W hb => by
        unfold ScanOut
        rw [scan_bad (fun e => by have := HTK.out.2 e; have h2 := HQ.out; rw [this] at h2; simp at h2)]
        exact ⟨_, rfl, (OwnR.nil w).below hb⟩)
      go_wp2
      go_quiet (with_reducible exact Calls.quiet_of (HEQ.out _ _ _ _ (HRH.out.draws _) (HRB.out.draws _)))
      go_wp2
      go_ret3
      exact HF.out _ (below_then HB.out (below_drewN w2 _))
    | true =>
      have HE : Hid ((headB n).take l.length = l.take 12) := Lib.hid (HTK.out.1 (by have h2 := HQ.out; simpa using h2))
      by_cases hk12 : k < 12
      · have HF : Hid (∀ W, Below w.heap.size w W → ScanOut n l w (.returned (.tuple #[.slice none 0 0, .int .i64 0, .int .i64 3])) W) := Lib.hid (fun W hb => by
          unfold ScanOut
          rw [scan_torn HMAY.out HE.out (by rw [HK.out]; exact hk12)]
          exact ⟨_, rfl, (OwnR.nil w).below hb⟩)
        have hlt : decide ((s : Int) < 12) = true := by simp; omega
        have hlt2 : s < 12 := by omega
        go_wp2
        go_quiet (with_reducible exact Calls.quiet_of (HEQ.out _ _ _ _ (HRH.out.draws _) (HRB.out.draws _)))
        go_wp2
        go_ret3
        exact HF.out _ (below_then HB.out (below_drewN w2 _))
      · have hs12 : s = 12 := by omega
        obtain ⟨xb, xo, rfl⟩ : ∃ xb xo, a = some ⟨xb, xo, none⟩ := by
          rcases HR.out.2 with h1 | ⟨b, o, h1, _⟩
          · have h2 := HK.out
            rw [h1] at h2
            simp at h2
            omega
          · exact ⟨b, o, h1⟩
        have HALL := Lib.hid (fun W y cc (h : Row W S y (l.drop 12)) (h1 : k - 12 ≤ cc) (h2 : cc ≤ maxLen) (h3 : y = none → cc = 0) => all_calls y (l.drop 12) (k - 12) cc W h (by rw [List.length_drop, HK.out]) (by omega) h1 h2 h3)
        have HF : Hid (∀ W v, OwnR w W v (allB (l.drop 12)).1 → ScanOut n l w (.returned (.tuple #[v, .int .i64 ((12 : Int) + (((allB (l.drop 12)).2.1 : Nat) : Int)), .int .i64 (((allB (l.drop 12)).2.2 : Nat) : Int)])) W) := Lib.hid (fun W v ho => by
          unfold ScanOut
          rw [scan_whole HMAY.out HE.out (by rw [HK.out]; exact hk12)]
          exact ⟨v, by simp, ho⟩)
        have hgl : (allB (l.drop 12)).2.1 ≤ k := by
          have := allF_good _ (l.drop 12) (Nat.le_refl _)
          rw [List.length_drop, HK.out] at this
          show (allF _ _).2.1 ≤ k
          rw [List.length_drop, HK.out]
          omega
        have HRD := Lib.hid ((HR.out.below HB.out).drop 12)
        have HR0 := Lib.hid (HR.out.below HB.out)
        unfold AllOut at HALL
        obtain ⟨R, hR⟩ : ∃ R, allB (l.drop 12) = R := ⟨_, rfl⟩
        rw [hR] at HALL HF hgl
        obtain ⟨R1, R2, R3⟩ := R
        dsimp only at HALL HF hgl
        subst hs12
        have hd12 : decide ((12 : Int) < 12) = false := by decide
        clear hR HTK HE HQ hs1 hs2 HM HMAY HR
        have hg1 : (12 : Int) + (R2 : Int) ≤ 9223372036854775807 := by omega
        by_cases hc12 : c = 12
        · obtain rfl : k = 12 := by omega
          subst hc12
          have HN : Hid (l.drop 12 = []) := Lib.hid (List.drop_eq_nil_of_le (by rw [HK.out]; exact Nat.le_refl _))
          have HRN : Hid (∀ W, Row W S (some ⟨xb, xo, none⟩) (l.drop 12)) := Lib.hid (fun W => by rw [HN.out]; exact ⟨(fun c hc => by cases hc), .inl rfl⟩)
          go_wp2
          go_quiet (with_reducible exact Calls.quiet_of (HEQ.out _ _ _ _ (HRH.out.draws _) (HRB.out.draws _)))
          go_wp2_with fail
          with_reducible refine (HALL.out _ _ _ (HRN.out _) (Nat.le_refl _) (Nat.zero_le _) (fun e => by cases e)).mono ?_
          rintro e w4 ⟨v, rfl, hown4⟩
          obtain ⟨b4, c4, S4, rfl, -⟩ := hown4.form
          have HO4 := Lib.hid (hown4.from (below_then HB.out (below_drewN w2 nq)))
          clear hown4
          go_wp2
          go_ret3
          exact HF.out _ _ HO4.out
        · have hck : 12 ≤ c := by omega
          go_wp2
          go_quiet (with_reducible exact Calls.quiet_of (HEQ.out _ _ _ _ (HRH.out.draws _) (HRB.out.draws _)))
          go_wp2_with fail
          with_reducible refine (HALL.out _ _ _ (HRD.out.draws _) (by omega) (by omega) (fun e => by cases e)).mono ?_
          rintro e w4 ⟨v, rfl, hown4⟩
          obtain ⟨b4, c4, S4, rfl, -⟩ := hown4.form
          have HO4 := Lib.hid (hown4.from (below_then HB.out (below_drewN w2 nq)))
          clear hown4
          go_wp2
          go_ret3
          exact HF.out _ _ HO4.out

end Go.Proofs.YtjhiekijbcjohaaGreatDoor
