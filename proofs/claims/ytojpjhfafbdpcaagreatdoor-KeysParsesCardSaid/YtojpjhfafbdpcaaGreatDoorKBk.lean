/-
  KeysBack: the text of a specification is read as it. Conditions: the rules lie in memory, none longer than 2 to the 60; the tables, the library's bound and the handle are laid.
-/
import Derived.Test.YtojpjhfafbdpcaaGreatDoorKO
import Derived.Test.YtojpjhfafbdpcaaGreatDoorKE
import Derived.Test.YtojpjhfafbdpcaaGreatDoorKX
namespace Go.Proofs.YtojpjhfafbdpcaaGreatDoor
open Go.RowKit Go.Lib Go.Joins Go.Shelf

theorem line_size (r : Rl) : (lineW r).length + 1 ≤ 5 * weighR r := by
  unfold lineW weighR
  have h1 := joinB_size [47] r.path
  have h2 := joinB_size [44, 32] r.keys
  simp only [List.length_cons, List.length_append, List.length_nil] at h1 h2 ⊢
  omega
theorem text_size : ∀ l : List Rl, (textW l).length ≤ 5 * (l.map weighR).sum
  | [] => Nat.zero_le _
  | r :: t => by
    have h1 := line_size r
    have h2 := text_size t
    rw [textW, List.length_append, List.length_cons, List.map_cons, List.sum_cons]
    omega
theorem small_text {l : List Rl} (h : smallGo 0 l = true) : (textW l).length ≤ 15000 ∧ ∀ r ∈ l, r.path.length ≤ 3000 ∧ r.keys.length ≤ 3000 := by
  obtain ⟨_, _, h1⟩ := small_few h
  have h2 := text_size l
  refine ⟨by omega, fun r hr => ?_⟩
  have h3 := weigh_mem hr
  have : weighR r = 1 + r.path.length + r.keys.length + (r.path.map List.length).sum + (r.keys.map List.length).sum := rfl
  omega
/-- Without its last rule it is a specification still, if there is another one. -/
theorem may_less {l : List Rl} {m : Nat} (h : mayW l = true) (hm : l.length = m + 1) : mayW (l.take m) = decide (1 < m + 1) := by
  obtain ⟨_, h2, h3⟩ := mayW_parts h
  have hx : l[m]? = some (l[m]'(by omega)) := List.getElem?_eq_getElem _
  have h4 := may_take hx
  rw [← hm, List.take_of_length_le (Nat.le_refl _), h3] at h4
  have h5 : mayGo [] (l.take m) = true := by
    cases hq : mayGo [] (l.take m) with
    | true => rfl
    | false => rw [hq, Bool.false_and] at h4; cases h4
  unfold mayW
  rw [h5, Bool.and_true]
  have h6 : (l.take m).length = m := by rw [List.length_take]; omega
  rw [h6]
  have h7 : decide (m ≤ 64) = true := decide_eq_true (by omega)
  rw [h7, Bool.and_true]
  cases m with
  | zero => rfl
  | succ k =>
    have h8 : decide (1 < k + 1 + 1) = true := decide_eq_true (by omega)
    rw [h8]
    cases hl : l.take (k + 1) with
    | nil => rw [hl] at h6; cases h6
    | cons x t => rfl

set_option maxRecDepth 100000 in
set_option maxHeartbeats 8000000 in
theorem back_calls {w : World} {S : Nat → Prop} {v : Value} {l : List Rl} (hl : RlsIn w S v l) (hb : ∀ r ∈ l, RlBig r) (hE : AwE w) : Calls Tryz.prog 5 #[v] w (Leaves (.bool true) w) := by
  have HAW := Lib.hid (awake_calls w hE)
  have HSM := Lib.hid (fun (W : World) (hb1 : Below w.heap.size w W) => small_calls (hl.below hb1) hb)
  have HL := Lib.hid hl
  have HE := Lib.hid hE
  obtain ⟨a, c, rfl, hlc, hcm, _⟩ := hl.form
  obtain ⟨n, hn⟩ : ∃ n, l.length = n := ⟨_, rfl⟩
  have HN := Lib.hid hn
  rw [hn] at HL HSM hlc ⊢
  have hm : n ≤ 9223372036854775807 := by unfold maxLen at hcm; omega
  obtain ⟨q1, hq1⟩ : ∃ q, smallGo 0 l = q := ⟨_, rfl⟩
  rw [hq1] at HSM
  clear hl hb hE hn hcm
  cases q1 with
  | false =>
    clear hq1
    go_enter Tryz.func5, Tryz.ntmps5
    go_wp2_with fail
    with_reducible refine HAW.out.mono ?_
    rintro e w1 ⟨rfl, hb1⟩
    have HB1 := Lib.hid hb1
    clear hb1
    go_wp2_with fail
    with_reducible refine (HSM.out w1 HB1.out).mono ?_
    rintro e w2 ⟨rfl, hb2⟩
    have HB2 := Lib.hid (below_then HB1.out hb2)
    clear hb2
    go_wp2
    go_ret
    exact ⟨rfl, HB2.out⟩
  | true =>
    obtain ⟨hfew, hlen, hsum⟩ := small_few hq1
    obtain ⟨htl, hpk⟩ := small_text hq1
    have HMY := Lib.hid (fun (W : World) (hb1 : Below w.heap.size w W) => rmay_calls (HL.out.below hb1) hfew)
    have HFEW := Lib.hid hfew
    have HTL := Lib.hid htl
    have HPK := Lib.hid hpk
    obtain ⟨q2, hq2⟩ : ∃ q, mayW l = q := ⟨_, rfl⟩
    rw [hq2] at HMY
    clear hq1 hfew htl hpk hsum
    cases q2 with
    | false =>
      clear hq2
      go_enter Tryz.func5, Tryz.ntmps5
      go_wp2_with fail
      with_reducible refine HAW.out.mono ?_
      rintro e w1 ⟨rfl, hb1⟩
      have HB1 := Lib.hid hb1
      clear hb1
      go_wp2_with fail
      with_reducible refine (HSM.out w1 HB1.out).mono ?_
      rintro e w2 ⟨rfl, hb2⟩
      have HB2 := Lib.hid (below_then HB1.out hb2)
      clear hb2
      go_wp2_with fail
      with_reducible refine (HMY.out w2 HB2.out).mono ?_
      rintro e w3 ⟨rfl, hb3⟩
      have HB3 := Lib.hid (below_then HB2.out hb3)
      clear hb3
      go_wp2
      go_ret
      exact ⟨rfl, HB3.out⟩
    | true =>
      obtain ⟨m, rfl⟩ : ∃ m, n = m + 1 := by
        obtain ⟨h1, _, _⟩ := mayW_parts hq2
        cases l with
        | nil => exact absurd rfl h1
        | cons x t => exact ⟨t.length, by rw [← HN.out]; rfl⟩
      have hless := may_less hq2 HN.out
      have HLS := Lib.hid hless
      have HPT := Lib.hid (parse_text hq2)
      have hcast : ((m + 1 : Nat) : Int) = (m : Int) + 1 := rfl
      have hgt : decide ((m : Int) + 1 > 1) = decide (1 < m + 1) := by
        rw [decide_eq_decide]
        omega
      have HTX := Lib.hid (fun (W : World) (hb1 : Below w.heap.size w W) => text_calls (HL.out.below hb1) (by have := HTL.out; omega) (fun r hr => by have := HPK.out r hr; omega))
      have HPS := Lib.hid (fun (W : World) (hb1 : Below w.heap.size w W) => parse_calls (textW l) W (by have := HTL.out; omega) (HE.out.env.below hb1))
      unfold ParseOut at HPS
      obtain ⟨tx, htx⟩ : ∃ s, strB (textW l) = s := ⟨_, rfl⟩
      rw [htx] at HTX HPS
      have HM2 := Lib.hid (fun (W : World) (hb1 : Below w.heap.size w W) => may_calls ((HL.out.below hb1).take (k := m) (by omega)) (fun r hr => HFEW.out r (List.mem_of_mem_take hr)) (HE.out.env.below hb1))
      rw [hless] at HM2
      obtain ⟨q3, hq3⟩ : ∃ q, decide (1 < m + 1) = q := ⟨_, rfl⟩
      rw [hq3] at HM2 hgt
      have hmc : m ≤ c := by omega
      clear hq2 hless hcast htx hq3
      go_enter Tryz.func5, Tryz.ntmps5
      go_wp2_with fail
      with_reducible refine HAW.out.mono ?_
      rintro e w1 ⟨rfl, hb1⟩
      have HB1 := Lib.hid hb1
      clear hb1
      go_wp2_with fail
      with_reducible refine (HSM.out w1 HB1.out).mono ?_
      rintro e w2 ⟨rfl, hb2⟩
      have HB2 := Lib.hid (below_then HB1.out hb2)
      clear hb2
      go_wp2_with fail
      with_reducible refine (HMY.out w2 HB2.out).mono ?_
      rintro e w3 ⟨rfl, hb3⟩
      have HB3 := Lib.hid (below_then HB2.out hb3)
      clear hb3
      go_wp2_with fail
      with_reducible refine (HTX.out w3 HB3.out).mono ?_
      rintro e w4 ⟨rfl, hb4⟩
      have HB4 := Lib.hid (below_then HB3.out hb4)
      have HP4 := Lib.hid (HPS.out w4 HB4.out)
      clear hb4 HTX HPS
      go_wp2_with fail
      with_reducible refine HP4.out.mono ?_
      rintro e w5 ⟨pv, pe, rfl, hb5, ⟨l2, hl2, hin, rfl⟩ | ⟨cc, nn, hl2, _⟩⟩
      case inr => rw [HPT.out] at hl2; cases hl2
      rw [HPT.out] at hl2
      injection hl2 with hl2
      subst hl2
      obtain ⟨pa, pc, rfl, _⟩ := hin.form
      have HB5 := Lib.hid (below_then HB4.out hb5)
      have HC := Lib.hid (code_calls (B := 0) 0 0 .nilIface w5 (.inl ⟨rfl, rfl⟩) (HE.out.handle.below (below_then HB4.out hb5)))
      have HRU := Lib.hid (fun (W : World) (hb6 : Below w5.heap.size w5 W) => rules_calls (hin.below hb6) (HL.out.below (below_then HB5.out hb6)))
      rw [HN.out] at HRU
      rw [HN.out]
      clear hb5 hin HP4
      go_wp2_with fail
      with_reducible refine HC.out.mono ?_
      rintro e w6 ⟨rfl, hb6⟩
      have HR6 := Lib.hid (HRU.out w6 hb6)
      have HB6 := Lib.hid (below_then HB5.out hb6)
      clear hb6 HC HRU
      go_wp2_with fail
      with_reducible refine HR6.out.mono ?_
      rintro e w7 ⟨rfl, hb7⟩
      have HB7 := Lib.hid (below_then HB6.out hb7)
      have HM7 := Lib.hid (HM2.out w7 HB7.out)
      clear hb7 HR6 HM2
      go_wp2_with fail
      with_reducible refine HM7.out.mono ?_
      rintro e w8 ⟨rfl, hb8⟩
      have HB8 := Lib.hid (below_then HB7.out hb8)
      clear hb8
      have hqq : (q3 == q3) = true := by simp
      go_wp2
      go_ret
      exact ⟨rfl, HB8.out⟩

end Go.Proofs.YtojpjhfafbdpcaaGreatDoor
