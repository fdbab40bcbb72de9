/-
  Union, both, without, sameness and being within, told by the program. Condition: the slices lead to what they are said to.
-/
import Derived.Test.YtiolchdfjlffoaaDoorIH
import Derived.Shelf.Abstract
namespace Go.Proofs.YtiolchdfjlffoaaDoor
open Go.RowKit Go.Lib Go.Joins

set_option maxRecDepth 100000 in
set_option maxHeartbeats 2000000 in
theorem union_keep : KeepAt (.func (.func 34) #[] #[]) orrK := by
  refine ⟨_, rfl, enters_of Tryd.func34 (by kernel_rfl) rfl, fun a b W => ?_⟩
  rcases a with _ | _ <;> rcases b with _ | _ <;>
  · go_enter Tryd.func34, Tryd.ntmps34
    go_wp2_with fail
    go_ret
    exact ⟨rfl, rfl⟩
set_option maxRecDepth 100000 in
set_option maxHeartbeats 2000000 in
theorem union_calls {w : World} {va vb : Value} {A B : List Sp} (ha : SpIn w va A) (hb : SpIn w vb B) : Calls Tryd.prog 12 #[va, vb] w (SetOut (putS orrK A B) w) := by
  have HS := Lib.hid (sift_calls ha hb union_keep rfl)
  obtain ⟨aa, ca, rfl, _⟩ := ha.form
  obtain ⟨ab, cb, rfl, _⟩ := hb.form
  obtain ⟨C, hC⟩ : ∃ C, putS orrK A B = C := ⟨_, rfl⟩
  rw [hC] at HS ⊢
  obtain ⟨na, hna⟩ : ∃ n, A.length = n := ⟨_, rfl⟩
  obtain ⟨nb, hnb⟩ : ∃ n, B.length = n := ⟨_, rfl⟩
  rw [hna, hnb] at HS ⊢
  clear ha hb hC hna hnb
  unfold SetOut at HS ⊢
  go_enter Tryd.func12, Tryd.ntmps12
  go_wp2_with fail
  with_reducible refine HS.out.mono ?_
  rintro e w1 ⟨v1, rfl, hin, hb1⟩
  obtain ⟨a1, c1, rfl, _⟩ := hin.form
  have HIN := Lib.hid hin
  have HB := Lib.hid hb1
  obtain ⟨n1, hn1⟩ : ∃ n, C.length = n := ⟨_, rfl⟩
  rw [hn1] at HIN ⊢
  clear hin hb1 hn1
  go_wp2_with fail
  go_ret
  exact ⟨_, rfl, HIN.out, HB.out⟩

set_option maxRecDepth 100000 in
set_option maxHeartbeats 2000000 in
theorem both_keep : KeepAt (.func (.func 37) #[] #[]) annK := by
  refine ⟨_, rfl, enters_of Tryd.func37 (by kernel_rfl) rfl, fun a b W => ?_⟩
  rcases a with _ | _ <;> rcases b with _ | _ <;>
  · go_enter Tryd.func37, Tryd.ntmps37
    go_wp2_with fail
    go_ret
    exact ⟨rfl, rfl⟩
set_option maxRecDepth 100000 in
set_option maxHeartbeats 2000000 in
theorem both_calls {w : World} {va vb : Value} {A B : List Sp} (ha : SpIn w va A) (hb : SpIn w vb B) : Calls Tryd.prog 14 #[va, vb] w (SetOut (putS annK A B) w) := by
  have HS := Lib.hid (sift_calls ha hb both_keep rfl)
  obtain ⟨aa, ca, rfl, _⟩ := ha.form
  obtain ⟨ab, cb, rfl, _⟩ := hb.form
  obtain ⟨C, hC⟩ : ∃ C, putS annK A B = C := ⟨_, rfl⟩
  rw [hC] at HS ⊢
  obtain ⟨na, hna⟩ : ∃ n, A.length = n := ⟨_, rfl⟩
  obtain ⟨nb, hnb⟩ : ∃ n, B.length = n := ⟨_, rfl⟩
  rw [hna, hnb] at HS ⊢
  clear ha hb hC hna hnb
  unfold SetOut at HS ⊢
  go_enter Tryd.func14, Tryd.ntmps14
  go_wp2_with fail
  with_reducible refine HS.out.mono ?_
  rintro e w1 ⟨v1, rfl, hin, hb1⟩
  obtain ⟨a1, c1, rfl, _⟩ := hin.form
  have HIN := Lib.hid hin
  have HB := Lib.hid hb1
  obtain ⟨n1, hn1⟩ : ∃ n, C.length = n := ⟨_, rfl⟩
  rw [hn1] at HIN ⊢
  clear hin hb1 hn1
  go_wp2_with fail
  go_ret
  exact ⟨_, rfl, HIN.out, HB.out⟩

set_option maxRecDepth 100000 in
set_option maxHeartbeats 2000000 in
theorem without_keep : KeepAt (.func (.func 38) #[] #[]) witK := by
  refine ⟨_, rfl, enters_of Tryd.func38 (by kernel_rfl) rfl, fun a b W => ?_⟩
  rcases a with _ | _ <;> rcases b with _ | _ <;>
  · go_enter Tryd.func38, Tryd.ntmps38
    go_wp2_with fail
    go_ret
    exact ⟨rfl, rfl⟩
set_option maxRecDepth 100000 in
set_option maxHeartbeats 2000000 in
theorem without_calls {w : World} {va vb : Value} {A B : List Sp} (ha : SpIn w va A) (hb : SpIn w vb B) : Calls Tryd.prog 15 #[va, vb] w (SetOut (putS witK A B) w) := by
  have HS := Lib.hid (sift_calls ha hb without_keep rfl)
  obtain ⟨aa, ca, rfl, _⟩ := ha.form
  obtain ⟨ab, cb, rfl, _⟩ := hb.form
  obtain ⟨C, hC⟩ : ∃ C, putS witK A B = C := ⟨_, rfl⟩
  rw [hC] at HS ⊢
  obtain ⟨na, hna⟩ : ∃ n, A.length = n := ⟨_, rfl⟩
  obtain ⟨nb, hnb⟩ : ∃ n, B.length = n := ⟨_, rfl⟩
  rw [hna, hnb] at HS ⊢
  clear ha hb hC hna hnb
  unfold SetOut at HS ⊢
  go_enter Tryd.func15, Tryd.ntmps15
  go_wp2_with fail
  with_reducible refine HS.out.mono ?_
  rintro e w1 ⟨v1, rfl, hin, hb1⟩
  obtain ⟨a1, c1, rfl, _⟩ := hin.form
  have HIN := Lib.hid hin
  have HB := Lib.hid hb1
  obtain ⟨n1, hn1⟩ : ∃ n, C.length = n := ⟨_, rfl⟩
  rw [hn1] at HIN ⊢
  clear hin hb1 hn1
  go_wp2_with fail
  go_ret
  exact ⟨_, rfl, HIN.out, HB.out⟩

/-- Whether two rows of spans are sets, and the same. -/
def eqS (A B : List Sp) : Bool := (mayS A && mayS B) && sameP A B
/-- Whether two rows of spans are sets, and one is within the other. -/
def inP (A B : List Sp) : Bool := (mayS A && mayS B) && decide (putS witK A B = [])
set_option maxRecDepth 100000 in
set_option maxHeartbeats 4000000 in
theorem equal_calls {w : World} {va vb : Value} {A B : List Sp} (ha : SpIn w va A) (hb : SpIn w vb B) : Calls Tryd.prog 16 #[va, vb] w (Leaves (.bool (eqS A B)) w) := by
  have HMA := Lib.hid (may_calls ha)
  have HA := Lib.hid ha
  have HB := Lib.hid hb
  obtain ⟨aa, ca, rfl, _⟩ := ha.form
  obtain ⟨ab, cb, rfl, _⟩ := hb.form
  obtain ⟨Q, hQ⟩ : ∃ Q, eqS A B = Q := ⟨_, rfl⟩
  rw [hQ]
  have HQ := Lib.hid hQ
  obtain ⟨na, hna⟩ : ∃ n, A.length = n := ⟨_, rfl⟩
  obtain ⟨nb, hnb⟩ : ∃ n, B.length = n := ⟨_, rfl⟩
  rw [hna] at HA HMA ⊢
  rw [hnb] at HB ⊢
  clear ha hb hna hnb hQ
  unfold eqS at HQ
  go_enter Tryd.func16, Tryd.ntmps16
  go_wp2_with fail
  with_reducible refine HMA.out.mono ?_
  rintro e w1 ⟨rfl, hb1⟩
  have HMB := Lib.hid (may_calls (HB.out.below hb1))
  have HB1 := Lib.hid hb1
  clear hb1 HMA
  cases hMA : mayS A with
  | false =>
    have HF : Hid (Q = false) := Lib.hid (by rw [← HQ.out, hMA]; rfl)
    clear hMA
    go_wp2_with fail
    go_ret
    exact ⟨by rw [HF.out]; rfl, HB1.out⟩
  | true =>
    have HM := Lib.hid hMA
    clear hMA
    go_wp2_with fail
    with_reducible refine HMB.out.mono ?_
    rintro e w2 ⟨rfl, hb2⟩
    have HB2 := Lib.hid (below_then HB1.out hb2)
    clear hb2 HMB
    cases hMB : mayS B with
    | false =>
      have HF : Hid (Q = false) := Lib.hid (by rw [← HQ.out, hMB, Bool.and_false]; rfl)
      clear hMB
      go_wp2_with fail
      go_ret
      exact ⟨by rw [HF.out]; rfl, HB2.out⟩
    | true =>
      have HF : Hid (Q = sameP A B) := Lib.hid (by rw [← HQ.out, HM.out, hMB]; rfl)
      have HE := Lib.hid (sequal_calls (HA.out.below HB2.out) (HB.out.below HB2.out))
      obtain ⟨r, hr⟩ : ∃ r, sameP A B = r := ⟨_, rfl⟩
      rw [hr] at HE HF
      clear hMB hr
      go_wp2_with fail
      with_reducible refine HE.out.mono ?_
      rintro e w3 ⟨rfl, hb3⟩
      have HB3 := Lib.hid (below_then HB2.out hb3)
      clear hb3
      go_wp2_with fail
      go_ret
      exact ⟨by rw [HF.out]; rfl, HB3.out⟩
set_option maxRecDepth 100000 in
set_option maxHeartbeats 4000000 in
theorem within_calls {w : World} {va vb : Value} {A B : List Sp} (ha : SpIn w va A) (hb : SpIn w vb B) : Calls Tryd.prog 17 #[va, vb] w (Leaves (.bool (inP A B)) w) := by
  have HMA := Lib.hid (may_calls ha)
  have HA := Lib.hid ha
  have HB := Lib.hid hb
  obtain ⟨aa, ca, rfl, _⟩ := ha.form
  obtain ⟨ab, cb, rfl, _⟩ := hb.form
  obtain ⟨Q, hQ⟩ : ∃ Q, inP A B = Q := ⟨_, rfl⟩
  rw [hQ]
  have HQ := Lib.hid hQ
  obtain ⟨na, hna⟩ : ∃ n, A.length = n := ⟨_, rfl⟩
  obtain ⟨nb, hnb⟩ : ∃ n, B.length = n := ⟨_, rfl⟩
  rw [hna] at HA HMA ⊢
  rw [hnb] at HB ⊢
  clear ha hb hna hnb hQ
  unfold inP at HQ
  go_enter Tryd.func17, Tryd.ntmps17
  go_wp2_with fail
  with_reducible refine HMA.out.mono ?_
  rintro e w1 ⟨rfl, hb1⟩
  have HMB := Lib.hid (may_calls (HB.out.below hb1))
  have HB1 := Lib.hid hb1
  clear hb1 HMA
  cases hMA : mayS A with
  | false =>
    have HF : Hid (Q = false) := Lib.hid (by rw [← HQ.out, hMA]; rfl)
    clear hMA
    go_wp2_with fail
    go_ret
    exact ⟨by rw [HF.out]; rfl, HB1.out⟩
  | true =>
    have HM := Lib.hid hMA
    clear hMA
    go_wp2_with fail
    with_reducible refine HMB.out.mono ?_
    rintro e w2 ⟨rfl, hb2⟩
    have HB2 := Lib.hid (below_then HB1.out hb2)
    clear hb2 HMB
    cases hMB : mayS B with
    | false =>
      have HF : Hid (Q = false) := Lib.hid (by rw [← HQ.out, hMB, Bool.and_false]; rfl)
      clear hMB
      go_wp2_with fail
      go_ret
      exact ⟨by rw [HF.out]; rfl, HB2.out⟩
    | true =>
      have HF : Hid (Q = decide (putS witK A B = [])) := Lib.hid (by rw [← HQ.out, HM.out, hMB]; rfl)
      have HE := Lib.hid (without_calls (HA.out.below HB2.out) (HB.out.below HB2.out))
      obtain ⟨C, hr⟩ : ∃ r, putS witK A B = r := ⟨_, rfl⟩
      rw [hr] at HE HF
      clear hMB hr
      unfold SetOut at HE
      go_wp2_with fail
      with_reducible refine HE.out.mono ?_
      rintro e w3 ⟨v3, rfl, hin, hb3⟩
      obtain ⟨a3, c3, rfl, _⟩ := hin.form
      have HB3 := Lib.hid (below_then HB2.out hb3)
      clear hb3 hin
      by_cases hC : C = []
      · subst hC
        go_wp2_with fail
        go_ret
        exact ⟨by rw [HF.out]; rfl, HB3.out⟩
      · have HF2 : Hid (Q = false) := Lib.hid (by rw [HF.out, decide_eq_false hC])
        obtain ⟨n3, hn3⟩ : ∃ n, C.length = n := ⟨_, rfl⟩
        have hne : n3 ≠ 0 := fun e => hC (List.length_eq_zero_iff.1 (hn3.trans e))
        have hz : ((n3 : Int) == 0) = false := by rw [beq_eq_false_iff_ne]; omega
        rw [hn3]
        clear hC hn3 hne
        go_wp2_with fail
        go_ret
        exact ⟨by rw [HF2.out]; rfl, HB3.out⟩
set_option maxRecDepth 100000 in
set_option maxHeartbeats 4000000 in
theorem rwithin_calls {w : World} {va vb : Value} {A B : List Sp} (ha : SpIn w va A) (hb : SpIn w vb B) : Calls Tryd.prog 18 #[va, vb] w (Leaves (.bool (inP A B)) w) := by
  have HMA := Lib.hid (rmay_calls ha)
  have HA := Lib.hid ha
  have HB := Lib.hid hb
  obtain ⟨aa, ca, rfl, _⟩ := ha.form
  obtain ⟨ab, cb, rfl, _⟩ := hb.form
  obtain ⟨Q, hQ⟩ : ∃ Q, inP A B = Q := ⟨_, rfl⟩
  rw [hQ]
  have HQ := Lib.hid hQ
  obtain ⟨na, hna⟩ : ∃ n, A.length = n := ⟨_, rfl⟩
  obtain ⟨nb, hnb⟩ : ∃ n, B.length = n := ⟨_, rfl⟩
  rw [hna] at HA HMA ⊢
  rw [hnb] at HB ⊢
  clear ha hb hna hnb hQ
  unfold inP at HQ
  go_enter Tryd.func18, Tryd.ntmps18
  go_wp2_with fail
  with_reducible refine HMA.out.mono ?_
  rintro e w1 ⟨rfl, hb1⟩
  have HMB := Lib.hid (rmay_calls (HB.out.below hb1))
  have HB1 := Lib.hid hb1
  clear hb1 HMA
  cases hMA : mayS A with
  | false =>
    have HF : Hid (Q = false) := Lib.hid (by rw [← HQ.out, hMA]; rfl)
    clear hMA
    go_wp2_with fail
    go_ret
    exact ⟨by rw [HF.out]; rfl, HB1.out⟩
  | true =>
    have HM := Lib.hid hMA
    clear hMA
    go_wp2_with fail
    with_reducible refine HMB.out.mono ?_
    rintro e w2 ⟨rfl, hb2⟩
    have HB2 := Lib.hid (below_then HB1.out hb2)
    clear hb2 HMB
    cases hMB : mayS B with
    | false =>
      have HF : Hid (Q = false) := Lib.hid (by rw [← HQ.out, hMB, Bool.and_false]; rfl)
      clear hMB
      go_wp2_with fail
      go_ret
      exact ⟨by rw [HF.out]; rfl, HB2.out⟩
    | true =>
      have HF : Hid (Q = decide (putS witK A B = [])) := Lib.hid (by rw [← HQ.out, HM.out, hMB]; rfl)
      have HE := Lib.hid (wit_calls (HA.out.below HB2.out) (HB.out.below HB2.out))
      obtain ⟨C, hr⟩ : ∃ r, putS witK A B = r := ⟨_, rfl⟩
      rw [hr] at HE HF
      clear hMB hr
      unfold SetOut at HE
      go_wp2_with fail
      with_reducible refine HE.out.mono ?_
      rintro e w3 ⟨v3, rfl, hin, hb3⟩
      obtain ⟨a3, c3, rfl, _⟩ := hin.form
      have HB3 := Lib.hid (below_then HB2.out hb3)
      clear hb3 hin
      by_cases hC : C = []
      · subst hC
        go_wp2_with fail
        go_ret
        exact ⟨by rw [HF.out]; rfl, HB3.out⟩
      · have HF2 : Hid (Q = false) := Lib.hid (by rw [HF.out, decide_eq_false hC])
        obtain ⟨n3, hn3⟩ : ∃ n, C.length = n := ⟨_, rfl⟩
        have hne : n3 ≠ 0 := fun e => hC (List.length_eq_zero_iff.1 (hn3.trans e))
        have hz : ((n3 : Int) == 0) = false := by rw [beq_eq_false_iff_ne]; omega
        rw [hn3]
        clear hC hn3 hne
        go_wp2_with fail
        go_ret
        exact ⟨by rw [HF2.out]; rfl, HB3.out⟩
end Go.Proofs.YtiolchdfjlffoaaDoor
