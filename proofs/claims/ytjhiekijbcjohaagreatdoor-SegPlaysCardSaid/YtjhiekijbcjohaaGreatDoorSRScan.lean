/-
  What a segment's bytes are, told by the reference. Condition: the slice leads to bytes, no more than 2 to the 30.
-/
import Derived.Test.YtjhiekijbcjohaaGreatDoorSScan
import Derived.Test.YtjhiekijbcjohaaGreatDoorSRef
namespace Go.Proofs.YtjhiekijbcjohaaGreatDoor
open Go.RowKit Go.Lib Go.Joins

theorem take_eq_next {l m : List Nat} {i x y : Nat} (hx : l[i]? = some x) (hy : m[i]? = some y) (h : l.take i = m.take i) : (l.take (i + 1) = m.take (i + 1)) ↔ x = y := by
  rw [List.take_add_one, List.take_add_one, hx, hy, h]
  simp
theorem take_eq_less {l m : List Nat} {i j : Nat} (h : l.take i = m.take i) (hj : j ≤ i) : l.take j = m.take j := by
  have h1 := congrArg (List.take j) h
  rwa [List.take_take, List.take_take, Nat.min_eq_left hj] at h1

set_option maxRecDepth 100000 in
set_option maxHeartbeats 4000000 in
theorem rscan_calls {S : Nat → Prop} (n : Int) (a : Option Addr) (l : List Nat) (k c : Nat) (w : World) (hr : Row w S a l) (hk : l.length = k) (hm : k ≤ 1073741824) (hc : k ≤ c) (hc2 : c ≤ maxLen) (h0 : a = none → c = 0) :
    Calls Tryz.prog 60 #[.int .i64 n, .slice a k c] w (ScanOut n l w) := by
  have HH := Lib.hid (rhead_calls n w)
  have HM := Lib.hid (fun W => rmay7_calls n W)
  obtain ⟨PST, hP⟩ : ∃ P, ScanOut n l w = P := ⟨_, rfl⟩
  cases hmay : mayN n with
  | false =>
    rw [hmay] at HM
    rw [headB_not hmay] at HH
    have HF : Hid (∀ W, Below w.heap.size w W → PST (.returned (.tuple #[.slice none 0 0, .int .i64 0, .int .i64 4])) W) := Lib.hid (fun W hb => by
      rw [← hP]
      unfold ScanOut
      rw [scan_not hmay]
      exact ⟨_, rfl, (OwnR.nil w).below hb⟩)
    rw [hP]
    clear hr hk hc2 h0 hmay hP
    go_enter Tryz.func60, Tryz.ntmps60
    go_wp2_with fail
    refine HH.out.mono ?_
    rintro e w2 ⟨v, rfl, hown⟩
    obtain ⟨ah, ch, rfl, -⟩ := hown.form
    have HB := Lib.hid hown.bel
    clear hown HH
    go_wp2_with fail
    refine (HM.out w2).mono ?_
    rintro e w3 ⟨rfl, rfl⟩
    go_wp2
    go_ret3
    exact HF.out _ HB.out
  | true =>
    rw [hmay] at HM
    have hlen := headB_len hmay
    have HF4 : Hid (∀ W, Below w.heap.size w W → (headB n).take l.length ≠ l.take 12 → PST (.returned (.tuple #[.slice none 0 0, .int .i64 0, .int .i64 4])) W) := Lib.hid (fun W hb hne => by
      rw [← hP]
      unfold ScanOut
      rw [scan_bad hne]
      exact ⟨_, rfl, (OwnR.nil w).below hb⟩)
    have HF3 : Hid (∀ W, Below w.heap.size w W → (headB n).take l.length = l.take 12 → k < 12 → PST (.returned (.tuple #[.slice none 0 0, .int .i64 0, .int .i64 3])) W) := Lib.hid (fun W hb he hlt => by
      rw [← hP]
      unfold ScanOut
      rw [scan_torn hmay he (by rw [hk]; exact hlt)]
      exact ⟨_, rfl, (OwnR.nil w).below hb⟩)
    have HF : Hid (∀ W v, OwnR w W v (allB (l.drop 12)).1 → (headB n).take l.length = l.take 12 → ¬ k < 12 → PST (.returned (.tuple #[v, .int .i64 ((12 : Int) + (((allB (l.drop 12)).2.1 : Nat) : Int)), .int .i64 (((allB (l.drop 12)).2.2 : Nat) : Int)])) W) := Lib.hid (fun W v ho he hlt => by
      rw [← hP]
      unfold ScanOut
      rw [scan_whole hmay he (by rw [hk]; exact hlt)]
      exact ⟨v, by simp, ho⟩)
    obtain ⟨hd, hhd⟩ : ∃ hd, headB n = hd := ⟨_, rfl⟩
    rw [hhd] at hlen HH HF4 HF3 HF
    have HLEN := Lib.hid hlen
    have HR := Lib.hid hr
    have HK := Lib.hid hk
    rw [hP]
    clear hr hk hmay hlen hhd hP
    go_enter Tryz.func60, Tryz.ntmps60
    go_wp2_with fail
    refine HH.out.mono ?_
    rintro e w2 ⟨v, rfl, hown⟩
    obtain ⟨ah, ch, rfl, hrh, hnh, hlh, hmh⟩ := hown.form
    rw [HLEN.out] at hlh ⊢
    have HB := Lib.hid hown.bel
    have HRH := Lib.hid hrh
    have HRB := Lib.hid (HR.out.below hown.bel)
    clear hown HH hrh
    go_wp2_with fail
    refine (HM.out w2).mono ?_
    rintro e w3 ⟨rfl, rfl⟩
    go_wp2
    go_loopg [8] 12 (fun g idx wr => ∃ (i kk : Nat), idx = .int .i64 (i : Int) ∧ g + i = 12 ∧ i ≤ k ∧ hd.take i = l.take i ∧ wr = w2.drewN kk)
    case atStart => exact ⟨0, 0, rfl, rfl, Nat.zero_le _, rfl, rfl⟩
    case round =>
      obtain ⟨i, kk, rfl, hg, hik, htk, rfl⟩ := hrel
      have HG := Lib.hid hg
      have HT := Lib.hid htk
      have hi12 : i ≤ 12 := by omega
      clear hg htk
      by_cases hlt : i < 12 ∧ i < k
      · obtain ⟨hlt1, hlt2⟩ := hlt
        obtain ⟨g', rfl⟩ : ∃ g', gk = g' + 1 := ⟨gk - 1, by have := HG.out; omega⟩
        have hd1 : decide ((i : Int) < 12) = true := by simp; omega
        have hd2 : decide ((i : Int) < (k : Int)) = true := by simp; omega
        obtain ⟨x, hx⟩ : ∃ x, l[i]? = some x := ⟨l[i]'(by rw [HK.out]; exact hlt2), List.getElem?_eq_getElem _⟩
        obtain ⟨y, hy⟩ : ∃ y, hd[i]? = some y := ⟨hd[i]'(by rw [HLEN.out]; exact hlt1), List.getElem?_eq_getElem _⟩
        obtain ⟨b, o, rfl, hcell⟩ := row_at HRB.out hx
        obtain ⟨b', o', rfl, hcell'⟩ := row_at HRH.out hy
        have HN := Lib.hid (take_eq_next hy hx HT.out)
        have hi1 : (i : Int) < (k : Int) := by omega
        have hi2 : (i : Int) < 12 := by omega
        have hi3 : (0 : Int) ≤ (i : Int) := by omega
        clear hx hy
        by_cases hxy : x = y
        · subst hxy
          have HT2 := Lib.hid (HN.out.2 rfl)
          clear HN HT
          go_wp2
          go_quiet (fail)
          go_wp2
          go_roundg g'
          case measure => omega
          case rel => exact ⟨i + 1, _, by go_num, by have := HG.out; omega, by omega, HT2.out, rfl⟩
        · have hne : ((x : Int) != (y : Int)) = true := by simp; omega
          have hne2 : ((x : Int) == (y : Int)) = false := by simp; omega
          have HBAD : Hid (hd.take l.length ≠ l.take 12) := Lib.hid (fun e => by
            have h1 : (hd.take l.length).take (i + 1) = (l.take 12).take (i + 1) := congrArg (List.take (i + 1)) e
            rw [List.take_take, List.take_take, Nat.min_eq_left (by rw [HK.out]; omega), Nat.min_eq_left (by omega)] at h1
            exact hxy (HN.out.1 h1).symm)
          clear HN HT hxy
          go_wp2
          go_quiet (fail)
          go_wp2
          go_ret3
          exact HF4.out _ (below_then HB.out (below_then (below_drewN w2 kk) (below_drewN _ nq))) HBAD.out
      · have HE : Hid (hd.take l.length = l.take 12) := Lib.hid (by
          have h1 := HT.out
          rcases Nat.lt_or_ge k 12 with h | h
          · obtain rfl : i = k := by omega
            rw [HK.out, h1, List.take_of_length_le (l := l) (i := i) (by rw [HK.out]; exact Nat.le_refl _), List.take_of_length_le (l := l) (i := 12) (by rw [HK.out]; omega)]
          · obtain rfl : i = 12 := by omega
            rw [List.take_of_length_le (l := hd) (i := l.length) (by rw [HLEN.out, HK.out]; exact h), ← h1, List.take_of_length_le (by rw [HLEN.out]; exact Nat.le_refl _)])
        by_cases hk12 : k < 12
        · obtain rfl : i = k := by omega
          have hd1 : decide ((i : Int) < 12) = true := by simp; omega
          have hd2 : decide ((i : Int) < (i : Int)) = false := by simp
          clear HT
          go_wp2
          go_ret3
          exact HF3.out _ (below_then HB.out (below_drewN w2 _)) HE.out hk12
        · obtain rfl : i = 12 := by omega
          have hd1 : decide (((12 : Nat) : Int) < 12) = false := by decide
          obtain ⟨xb, xo, rfl⟩ : ∃ xb xo, a = some ⟨xb, xo, none⟩ := by
            rcases HR.out.2 with h1 | ⟨b, o, h1, _⟩
            · have h2 := HK.out
              rw [h1] at h2
              simp at h2
              omega
            · exact ⟨b, o, h1⟩
          have HALL := Lib.hid (fun W y cc (h : Row W S y (l.drop 12)) (h1 : k - 12 ≤ cc) (h2 : cc ≤ maxLen) (h3 : y = none → cc = 0) => rall_calls y (l.drop 12) (k - 12) cc W h (by rw [List.length_drop, HK.out]) (by omega) h1 h2 h3)
          have hgl : (allB (l.drop 12)).2.1 ≤ k := by
            have := allF_good _ (l.drop 12) (Nat.le_refl _)
            rw [List.length_drop, HK.out] at this
            show (allF _ _).2.1 ≤ k
            rw [List.length_drop, HK.out]
            omega
          have HRD := Lib.hid (HRB.out.drop 12)
          unfold AllOut at HALL
          have HFX := Lib.hid (fun W v ho => HF.out W v ho HE.out hk12)
          obtain ⟨R, hR⟩ : ∃ R, allB (l.drop 12) = R := ⟨_, rfl⟩
          rw [hR] at HALL HFX hgl
          obtain ⟨R1, R2, R3⟩ := R
          dsimp only at HALL HFX hgl
          have hkd : decide ((k : Int) < 12) = false := by simp; omega
          have hg1 : (12 : Int) + (R2 : Int) ≤ 9223372036854775807 := by omega
          clear hR HT HE HF HF3 HF4 HM HR hlt
          by_cases hc12 : c = 12
          · obtain rfl : k = 12 := by omega
            subst hc12
            have HN : Hid (l.drop 12 = []) := Lib.hid (List.drop_eq_nil_of_le (by rw [HK.out]; exact Nat.le_refl _))
            have HRN : Hid (∀ W, Row W S (some ⟨xb, xo, none⟩) (l.drop 12)) := Lib.hid (fun W => by rw [HN.out]; exact ⟨(fun c hc => by cases hc), .inl rfl⟩)
            go_wp2_with fail
            with_reducible refine (HALL.out _ _ _ (HRN.out _) (Nat.le_refl _) (Nat.zero_le _) (fun e => by cases e)).mono ?_
            rintro e w4 ⟨v, rfl, hown4⟩
            obtain ⟨b4, c4, S4, rfl, -⟩ := hown4.form
            have HO4 := Lib.hid (hown4.from (below_then HB.out (below_drewN w2 kk)))
            clear hown4
            go_wp2
            go_ret3
            exact HFX.out _ _ HO4.out
          · have hck : 12 ≤ c := by omega
            go_wp2_with fail
            with_reducible refine (HALL.out _ _ _ (HRD.out.draws _) (by omega) (by omega) (fun e => by cases e)).mono ?_
            rintro e w4 ⟨v, rfl, hown4⟩
            obtain ⟨b4, c4, S4, rfl, -⟩ := hown4.form
            have HO4 := Lib.hid (hown4.from (below_then HB.out (below_drewN w2 kk)))
            clear hown4
            go_wp2
            go_ret3
            exact HFX.out _ _ HO4.out

end Go.Proofs.YtjhiekijbcjohaaGreatDoor
