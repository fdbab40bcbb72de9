/-
  Two sets gone through side by side by the program: what is kept of them. Conditions: the slices lead to what they are said to; what keeps is a function value of no captures that says a function of two truths, which keeps nothing of neither.
-/
import Derived.Test.YtiolchdfjlffoaaDoorIO
namespace Go.Proofs.YtiolchdfjlffoaaDoor
open Go.RowKit Go.Lib Go.Joins

/-- A call that answers a set, and turns nothing that was there. -/
def SetOut (C : List Sp) (w : World) (e : Ending) (w' : World) : Prop := ∃ v, e = .returned v ∧ SpIn w' v C ∧ Below w.heap.size w w'
/-- A function value that says what is kept. -/
def KeepAt (v : Value) (k : Bool → Bool → Bool) : Prop :=
  ∃ g, v = .func (.func g) #[] #[] ∧ (∀ args w, (callFunc g args).run Tryd.prog w = .ok (.enter g args) w) ∧ ∀ (a b : Bool) (W : World), Calls Tryd.prog g #[.bool a, .bool b] W (Says (.bool (k a b)) W)
theorem odd_form (i : Nat) : (((i : Int) % 2) == 1) = odd i := by
  unfold odd
  rw [Bool.eq_iff_iff]
  simp
  omega

set_option maxRecDepth 100000 in
set_option maxHeartbeats 8000000 in
theorem sift_calls {w : World} {va vb vk : Value} {A B : List Sp} {k : Bool → Bool → Bool} (ha : SpIn w va A) (hb : SpIn w vb B) (hk : KeepAt vk k) (h00 : k false false = false) :
    Calls Tryd.prog 33 #[va, vb, vk] w (SetOut (putS k A B) w) := by
  obtain ⟨g, rfl, eg, hcl⟩ := hk
  have HCL := Lib.hid hcl
  have HMA := Lib.hid (may_calls ha)
  have HA := Lib.hid ha
  have HB := Lib.hid hb
  obtain ⟨aa, ca, rfl, hca, hcma, _⟩ := ha.form
  obtain ⟨ab, cb, rfl, hcb, hcmb, _⟩ := hb.form
  obtain ⟨na, hna⟩ : ∃ n, A.length = n := ⟨_, rfl⟩
  obtain ⟨nb, hnb⟩ : ∃ n, B.length = n := ⟨_, rfl⟩
  rw [hna] at HA HMA hca ⊢
  rw [hnb] at HB hcb ⊢
  have HNA := Lib.hid hna
  have HNB := Lib.hid hnb
  obtain ⟨C, hC⟩ : ∃ C, putS k A B = C := ⟨_, rfl⟩
  rw [hC]
  have HC := Lib.hid hC
  have H00 := Lib.hid h00
  clear ha hb hcl hcma hcmb hna hnb hC h00
  unfold SetOut
  cases hMA : mayS A with
  | false =>
    rw [hMA] at HMA
    have HF : Hid (C = []) := Lib.hid (by rw [← HC.out, putS_none (by rw [hMA]; rfl)])
    clear hMA
    go_enter Tryd.func33, Tryd.ntmps33
    go_wp2_with fail
    with_reducible refine HMA.out.mono ?_
    rintro e w1 ⟨rfl, hb1⟩
    go_wp2_with fail
    go_ret
    exact ⟨_, rfl, by rw [HF.out]; exact SpIn.nil _, hb1⟩
  | true =>
    rw [hMA] at HMA
    have HMAY := Lib.hid hMA
    clear hMA
    cases hMB : mayS B with
    | false =>
      have HF : Hid (C = []) := Lib.hid (by rw [← HC.out, putS_none (by rw [hMB, Bool.and_false])])
      go_enter Tryd.func33, Tryd.ntmps33
      go_wp2_with fail
      with_reducible refine HMA.out.mono ?_
      rintro e w1 ⟨rfl, hb1⟩
      have HMB := Lib.hid (may_calls (HB.out.below hb1))
      rw [hMB] at HMB
      have HB1 := Lib.hid hb1
      clear hb1 hMB
      go_wp2_with fail
      with_reducible refine HMB.out.mono ?_
      rintro e w2 ⟨rfl, hb2⟩
      go_wp2_with fail
      go_ret
      exact ⟨_, rfl, by rw [HF.out]; exact SpIn.nil _, below_then HB1.out hb2⟩
    | true =>
      have HMBY := Lib.hid hMB
      have hla := mayS_length HMAY.out
      have hlb := mayS_length hMB
      rw [HNA.out] at hla
      rw [HNB.out] at hlb
      go_enter Tryd.func33, Tryd.ntmps33
      go_wp2_with fail
      with_reducible refine HMA.out.mono ?_
      rintro e w1 ⟨rfl, hb1⟩
      have HMB := Lib.hid (may_calls (HB.out.below hb1))
      rw [hMB] at HMB
      have HB1 := Lib.hid hb1
      clear hb1 hMB
      go_wp2_with fail
      with_reducible refine HMB.out.mono ?_
      rintro e w2 ⟨rfl, hb2⟩
      have HB2 := Lib.hid (below_then HB1.out hb2)
      clear hb2 HMB HMA
      have hwa : IntKind.i64.wrap (2 * (na : Int)) = 2 * (na : Int) := IntWalk.i64_in _ (by omega)
      have hwb : IntKind.i64.wrap (2 * (nb : Int)) = 2 * (nb : Int) := IntWalk.i64_in _ (by omega)
      go_wp2_with fail
      go_loopg [7, 8, 9, 10] (2 * na + 2 * nb) (fun g s fr i j wr => ∃ (S : List Sp) (f p : Int) (x y : Nat), OwnP w2.heap.size wr s S ∧ fr = .int .i64 f ∧ i = .int .i64 (x : Int) ∧ j = .int .i64 (y : Int) ∧ g + x + y = 2 * na + 2 * nb ∧ Sift k A B S f x y p ∧ Below w2.heap.size w2 wr)
      case atStart => exact ⟨[], 0, 0, 0, 0, OwnP.nil _ _, rfl, rfl, rfl, rfl, Sift.start HMAY.out HMBY.out H00.out, Below.refl _ _⟩
      case round =>
        obtain ⟨S, f, p, x, y, hown, rfl, rfl, rfl, hg, hsf, hbr⟩ := hrel
        have HO := Lib.hid hown
        have HS := Lib.hid hsf
        have HBR := Lib.hid hbr
        have hxa := hsf.ia
        have hyb := hsf.jb
        rw [HNA.out] at hxa
        rw [HNB.out] at hyb
        have hfr := hsf.fr0 HMAY.out
        obtain ⟨sa, sc, hsv⟩ := hown.form
        subst hsv
        have hslen := mayS_length hsf.may
        obtain ⟨ns, hns⟩ : ∃ n, S.length = n := ⟨_, rfl⟩
        have HNS := Lib.hid hns
        rw [hns] at HO
        clear hown hsf hbr
        rw [hns]
        clear hns
        cases gk with
        | zero =>
          obtain rfl : x = 2 * na := by omega
          obtain rfl : y = 2 * nb := by omega
          have c1 : ¬ (((2 * na : Nat) : Int) < 2 * (na : Int)) := by omega
          have c2 : ¬ (((2 * nb : Nat) : Int) < 2 * (nb : Int)) := by omega
          have HF : Hid (S = C) := Lib.hid (by
            have h := HS.out
            rw [← HNA.out, ← HNB.out] at h
            exact (h.put HMAY.out HMBY.out H00.out).trans HC.out)
          go_wp2_with fail
          go_ret
          exact ⟨_, rfl, by rw [← HF.out]; exact HO.out.in, HB2.out.trans (HBR.out.mono HB2.out.size)⟩
        | succ g' =>
          have HEA := Lib.hid (edge_calls x (HA.out.below (HB2.out.trans (HBR.out.mono HB2.out.size))) HMAY.out (by omega))
          have HEB := Lib.hid (edge_calls y (HB.out.below (HB2.out.trans (HBR.out.mono HB2.out.size))) HMBY.out (by omega))
          obtain ⟨ea, hea⟩ : ∃ ea, edge A x = ea := ⟨_, rfl⟩
          obtain ⟨eb, heb⟩ : ∃ eb, edge B y = eb := ⟨_, rfl⟩
          rw [hea] at HEA
          rw [heb] at HEB
          have hta := edge_top (n := x) HMAY.out
          have htb := edge_top (n := y) HMBY.out
          have hlow := HS.out.low
          have hpa := HS.out.a2
          have hpb := HS.out.b2
          have hwx : IntKind.i64.wrap ((x : Int) + 1) = ((x + 1 : Nat) : Int) := IntWalk.i64_in _ (by omega)
          have hwy : IntKind.i64.wrap ((y : Int) + 1) = ((y + 1 : Nat) : Int) := IntWalk.i64_in _ (by omega)
          have hend : x < 2 * na ∨ y < 2 * nb := by omega
          have hqa : x < 2 * na → ea ≤ 201 := fun h => by
            have := (edge_step HMAY.out (by rw [HNA.out]; exact h)).2
            omega
          have hqb : y < 2 * nb → eb ≤ 201 := fun h => by
            have := (edge_step HMBY.out (by rw [HNB.out]; exact h)).2
            omega
          have hqa2 : ¬ x < 2 * na → ea = 202 := fun h => by
            rw [← hea]
            exact edge_end A x (by rw [HNA.out]; omega)
          have hqb2 : ¬ y < 2 * nb → eb = 202 := fun h => by
            rw [← heb]
            exact edge_end B y (by rw [HNB.out]; omega)
          rw [hea] at hta hpa
          rw [heb] at htb hpb
          have HEND := Lib.hid hend
          have HQA := Lib.hid hqa
          have HQB := Lib.hid hqb
          have HQA2 := Lib.hid hqa2
          have HQB2 := Lib.hid hqb2
          have HEQA := Lib.hid hea
          have HEQB := Lib.hid heb
          clear hea heb hqa hqb hqa2 hqb2 hend
          rcases Int.lt_trichotomy ea eb with hlt | heq | hgt
          · have hx : x < 2 * na := by
              rcases Nat.lt_or_ge x (2 * na) with h | h
              · exact h
              · have := HQA2.out (by omega)
                omega
            have hq := HQA.out hx
            have c1 : (x : Int) < 2 * (na : Int) := by omega
            have HNX : Hid (Nexts A B x y ea (x + 1) (y)) := Lib.hid (by
              rw [Nexts, HEQA.out, HEQB.out]
              exact ⟨.inl ⟨rfl, rfl⟩, .inr ⟨hlt, rfl⟩, hq, .inl rfl⟩)
            have hmin : min ea eb = ea := by omega
            have ho1 : (((x : Int) + 1) % 2 == 1) = odd (x + 1) := odd_form (x + 1)
            have ho2 : ((y : Int) % 2 == 1) = odd (y) := odd_form (y)
            obtain ⟨K, hK⟩ : ∃ K, k (odd (x + 1)) (odd (y)) = K := ⟨_, rfl⟩
            have HKC := Lib.hid (HCL.out (odd (x + 1)) (odd (y)) wr)
            rw [hK] at HKC
            have HKQ := Lib.hid hK
            have HO1 := Lib.hid ho1
            have HO2 := Lib.hid ho2
            have hwq : IntKind.i64.wrap (ea - 1) = ea - 1 := IntWalk.i64_in _ (by omega)
            clear hK ho1 ho2
            go_wp2_with fail
            with_reducible refine HEA.out.mono ?_
            rintro e w3 ⟨rfl, rfl⟩
            go_wp2_with fail
            with_reducible refine HEB.out.mono ?_
            rintro e w3 ⟨rfl, rfl⟩
            go_wp2_with fail
            rw [HO1.out, HO2.out]
            with_reducible refine HKC.out.mono ?_
            rintro e w3 ⟨rfl, rfl⟩
            by_cases hf : f = 0
            · subst hf
              cases K with
              | true =>
                have HST := Lib.hid (HS.out.step HMAY.out HMBY.out HNX.out (.inl ⟨HKQ.out, rfl, rfl, rfl⟩))
                go_wp2_with fail
                go_roundg (2 * na + 2 * nb - (x + 1) - (y))
                case measure => omega
                case rel => exact ⟨S, ea, ea, x + 1, y, HO.out, rfl, by go_num, by go_num, by have h1 := HST.out.ia; have h2 := HST.out.jb; rw [HNA.out] at h1; rw [HNB.out] at h2; omega, HST.out, HBR.out⟩
              | false =>
                have HST := Lib.hid (HS.out.step HMAY.out HMBY.out HNX.out (.inr (.inr (.inr ⟨HKQ.out, rfl, rfl, rfl⟩))))
                go_wp2_with fail
                go_roundg (2 * na + 2 * nb - (x + 1) - (y))
                case measure => omega
                case rel => exact ⟨S, 0, ea, x + 1, y, HO.out, rfl, by go_num, by go_num, by have h1 := HST.out.ia; have h2 := HST.out.jb; rw [HNA.out] at h1; rw [HNB.out] at h2; omega, HST.out, HBR.out⟩
            · have hfp : 0 < f := by omega
              have hfe : (f == 0) = false := by rw [beq_eq_false_iff_ne]; exact hf
              cases K with
              | true =>
                have HST := Lib.hid (HS.out.step HMAY.out HMBY.out HNX.out (.inr (.inl ⟨HKQ.out, hfp, rfl, rfl⟩)))
                go_wp2_with fail
                go_roundg (2 * na + 2 * nb - (x + 1) - (y))
                case measure => omega
                case rel => exact ⟨S, f, ea, x + 1, y, HO.out, rfl, by go_num, by go_num, by have h1 := HST.out.ia; have h2 := HST.out.jb; rw [HNA.out] at h1; rw [HNB.out] at h2; omega, HST.out, HBR.out⟩
              | false =>
                have HST := Lib.hid (HS.out.step HMAY.out HMBY.out HNX.out (.inr (.inr (.inl ⟨HKQ.out, hfp, rfl, rfl⟩))))
                obtain ⟨v', w9, hrun, hown9, hkp9⟩ := HO.out.append f (ea - 1) HBR.out.size (by have := HNS.out; omega)
                obtain ⟨a9, c9, hv9⟩ := hown9.form
                have HRUN := Lib.hid hrun
                have HO9 := Lib.hid hown9
                have HB9 : Hid (Below w2.heap.size w2 w9) := Lib.hid (HBR.out.trans (hkp9.toBelow HBR.out.size (fun q e => HO.out.new q e)))
                rw [List.length_append, HNS.out, List.length_singleton] at hv9
                subst hv9
                clear hrun hown9 hkp9
                go_wp2_with (at_builtin; refine wpList_step (fun K hK => step_app HRUN.out (.tmp 76) (.tmp 81) rfl rfl rfl rfl (hK _ _ ?_)))
                go_roundg (2 * na + 2 * nb - (x + 1) - (y))
                case measure => omega
                case rel => exact ⟨S ++ [(f, ea - 1)], 0, ea, x + 1, y, HO9.out, rfl, by go_num, by go_num, by have h1 := HST.out.ia; have h2 := HST.out.jb; rw [HNA.out] at h1; rw [HNB.out] at h2; omega, HST.out, HB9.out⟩
          · subst heq
            have hx : x < 2 * na := by
              rcases Nat.lt_or_ge x (2 * na) with h | h
              · exact h
              · have := HQA2.out (by omega)
                have := HQB2.out
                have := HQB.out
                have := HEND.out
                omega
            have hq := HQA.out hx
            have c1 : (x : Int) < 2 * (na : Int) := by omega
            have HNX : Hid (Nexts A B x y ea (x + 1) (y + 1)) := Lib.hid (by
              rw [Nexts, HEQA.out, HEQB.out]
              exact ⟨.inl ⟨rfl, rfl⟩, .inl ⟨rfl, rfl⟩, hq, .inl rfl⟩)
            have hmin : min ea ea = ea := by omega
            have ho1 : (((x : Int) + 1) % 2 == 1) = odd (x + 1) := odd_form (x + 1)
            have ho2 : (((y : Int) + 1) % 2 == 1) = odd (y + 1) := odd_form (y + 1)
            obtain ⟨K, hK⟩ : ∃ K, k (odd (x + 1)) (odd (y + 1)) = K := ⟨_, rfl⟩
            have HKC := Lib.hid (HCL.out (odd (x + 1)) (odd (y + 1)) wr)
            rw [hK] at HKC
            have HKQ := Lib.hid hK
            have HO1 := Lib.hid ho1
            have HO2 := Lib.hid ho2
            have hwq : IntKind.i64.wrap (ea - 1) = ea - 1 := IntWalk.i64_in _ (by omega)
            clear hK ho1 ho2
            go_wp2_with fail
            with_reducible refine HEA.out.mono ?_
            rintro e w3 ⟨rfl, rfl⟩
            go_wp2_with fail
            with_reducible refine HEB.out.mono ?_
            rintro e w3 ⟨rfl, rfl⟩
            go_wp2_with fail
            rw [HO1.out, HO2.out]
            with_reducible refine HKC.out.mono ?_
            rintro e w3 ⟨rfl, rfl⟩
            by_cases hf : f = 0
            · subst hf
              cases K with
              | true =>
                have HST := Lib.hid (HS.out.step HMAY.out HMBY.out HNX.out (.inl ⟨HKQ.out, rfl, rfl, rfl⟩))
                go_wp2_with fail
                go_roundg (2 * na + 2 * nb - (x + 1) - (y + 1))
                case measure => omega
                case rel => exact ⟨S, ea, ea, x + 1, y + 1, HO.out, rfl, by go_num, by go_num, by have h1 := HST.out.ia; have h2 := HST.out.jb; rw [HNA.out] at h1; rw [HNB.out] at h2; omega, HST.out, HBR.out⟩
              | false =>
                have HST := Lib.hid (HS.out.step HMAY.out HMBY.out HNX.out (.inr (.inr (.inr ⟨HKQ.out, rfl, rfl, rfl⟩))))
                go_wp2_with fail
                go_roundg (2 * na + 2 * nb - (x + 1) - (y + 1))
                case measure => omega
                case rel => exact ⟨S, 0, ea, x + 1, y + 1, HO.out, rfl, by go_num, by go_num, by have h1 := HST.out.ia; have h2 := HST.out.jb; rw [HNA.out] at h1; rw [HNB.out] at h2; omega, HST.out, HBR.out⟩
            · have hfp : 0 < f := by omega
              have hfe : (f == 0) = false := by rw [beq_eq_false_iff_ne]; exact hf
              cases K with
              | true =>
                have HST := Lib.hid (HS.out.step HMAY.out HMBY.out HNX.out (.inr (.inl ⟨HKQ.out, hfp, rfl, rfl⟩)))
                go_wp2_with fail
                go_roundg (2 * na + 2 * nb - (x + 1) - (y + 1))
                case measure => omega
                case rel => exact ⟨S, f, ea, x + 1, y + 1, HO.out, rfl, by go_num, by go_num, by have h1 := HST.out.ia; have h2 := HST.out.jb; rw [HNA.out] at h1; rw [HNB.out] at h2; omega, HST.out, HBR.out⟩
              | false =>
                have HST := Lib.hid (HS.out.step HMAY.out HMBY.out HNX.out (.inr (.inr (.inl ⟨HKQ.out, hfp, rfl, rfl⟩))))
                obtain ⟨v', w9, hrun, hown9, hkp9⟩ := HO.out.append f (ea - 1) HBR.out.size (by have := HNS.out; omega)
                obtain ⟨a9, c9, hv9⟩ := hown9.form
                have HRUN := Lib.hid hrun
                have HO9 := Lib.hid hown9
                have HB9 : Hid (Below w2.heap.size w2 w9) := Lib.hid (HBR.out.trans (hkp9.toBelow HBR.out.size (fun q e => HO.out.new q e)))
                rw [List.length_append, HNS.out, List.length_singleton] at hv9
                subst hv9
                clear hrun hown9 hkp9
                go_wp2_with (at_builtin; refine wpList_step (fun K hK => step_app HRUN.out (.tmp 76) (.tmp 81) rfl rfl rfl rfl (hK _ _ ?_)))
                go_roundg (2 * na + 2 * nb - (x + 1) - (y + 1))
                case measure => omega
                case rel => exact ⟨S ++ [(f, ea - 1)], 0, ea, x + 1, y + 1, HO9.out, rfl, by go_num, by go_num, by have h1 := HST.out.ia; have h2 := HST.out.jb; rw [HNA.out] at h1; rw [HNB.out] at h2; omega, HST.out, HB9.out⟩
          · have hy : y < 2 * nb := by
              rcases Nat.lt_or_ge y (2 * nb) with h | h
              · exact h
              · have := HQB2.out (by omega)
                omega
            have hq := HQB.out hy
            have c1 : (y : Int) < 2 * (nb : Int) := by omega
            by_cases hx : x < 2 * na
            · have c2 : (x : Int) < 2 * (na : Int) := by omega
              have HNX : Hid (Nexts A B x y eb (x) (y + 1)) := Lib.hid (by
                rw [Nexts, HEQA.out, HEQB.out]
                exact ⟨.inr ⟨hgt, rfl⟩, .inl ⟨rfl, rfl⟩, hq, .inr rfl⟩)
              have hmin : min ea eb = eb := by omega
              have ho1 : ((x : Int) % 2 == 1) = odd (x) := odd_form (x)
              have ho2 : (((y : Int) + 1) % 2 == 1) = odd (y + 1) := odd_form (y + 1)
              obtain ⟨K, hK⟩ : ∃ K, k (odd (x)) (odd (y + 1)) = K := ⟨_, rfl⟩
              have HKC := Lib.hid (HCL.out (odd (x)) (odd (y + 1)) wr)
              rw [hK] at HKC
              have HKQ := Lib.hid hK
              have HO1 := Lib.hid ho1
              have HO2 := Lib.hid ho2
              have hwq : IntKind.i64.wrap (eb - 1) = eb - 1 := IntWalk.i64_in _ (by omega)
              clear hK ho1 ho2
              go_wp2_with fail
              with_reducible refine HEA.out.mono ?_
              rintro e w3 ⟨rfl, rfl⟩
              go_wp2_with fail
              with_reducible refine HEB.out.mono ?_
              rintro e w3 ⟨rfl, rfl⟩
              go_wp2_with fail
              rw [HO1.out, HO2.out]
              with_reducible refine HKC.out.mono ?_
              rintro e w3 ⟨rfl, rfl⟩
              by_cases hf : f = 0
              · subst hf
                cases K with
                | true =>
                  have HST := Lib.hid (HS.out.step HMAY.out HMBY.out HNX.out (.inl ⟨HKQ.out, rfl, rfl, rfl⟩))
                  go_wp2_with fail
                  go_roundg (2 * na + 2 * nb - (x) - (y + 1))
                  case measure => omega
                  case rel => exact ⟨S, eb, eb, x, y + 1, HO.out, rfl, by go_num, by go_num, by have h1 := HST.out.ia; have h2 := HST.out.jb; rw [HNA.out] at h1; rw [HNB.out] at h2; omega, HST.out, HBR.out⟩
                | false =>
                  have HST := Lib.hid (HS.out.step HMAY.out HMBY.out HNX.out (.inr (.inr (.inr ⟨HKQ.out, rfl, rfl, rfl⟩))))
                  go_wp2_with fail
                  go_roundg (2 * na + 2 * nb - (x) - (y + 1))
                  case measure => omega
                  case rel => exact ⟨S, 0, eb, x, y + 1, HO.out, rfl, by go_num, by go_num, by have h1 := HST.out.ia; have h2 := HST.out.jb; rw [HNA.out] at h1; rw [HNB.out] at h2; omega, HST.out, HBR.out⟩
              · have hfp : 0 < f := by omega
                have hfe : (f == 0) = false := by rw [beq_eq_false_iff_ne]; exact hf
                cases K with
                | true =>
                  have HST := Lib.hid (HS.out.step HMAY.out HMBY.out HNX.out (.inr (.inl ⟨HKQ.out, hfp, rfl, rfl⟩)))
                  go_wp2_with fail
                  go_roundg (2 * na + 2 * nb - (x) - (y + 1))
                  case measure => omega
                  case rel => exact ⟨S, f, eb, x, y + 1, HO.out, rfl, by go_num, by go_num, by have h1 := HST.out.ia; have h2 := HST.out.jb; rw [HNA.out] at h1; rw [HNB.out] at h2; omega, HST.out, HBR.out⟩
                | false =>
                  have HST := Lib.hid (HS.out.step HMAY.out HMBY.out HNX.out (.inr (.inr (.inl ⟨HKQ.out, hfp, rfl, rfl⟩))))
                  obtain ⟨v', w9, hrun, hown9, hkp9⟩ := HO.out.append f (eb - 1) HBR.out.size (by have := HNS.out; omega)
                  obtain ⟨a9, c9, hv9⟩ := hown9.form
                  have HRUN := Lib.hid hrun
                  have HO9 := Lib.hid hown9
                  have HB9 : Hid (Below w2.heap.size w2 w9) := Lib.hid (HBR.out.trans (hkp9.toBelow HBR.out.size (fun q e => HO.out.new q e)))
                  rw [List.length_append, HNS.out, List.length_singleton] at hv9
                  subst hv9
                  clear hrun hown9 hkp9
                  go_wp2_with (at_builtin; refine wpList_step (fun K hK => step_app HRUN.out (.tmp 76) (.tmp 81) rfl rfl rfl rfl (hK _ _ ?_)))
                  go_roundg (2 * na + 2 * nb - (x) - (y + 1))
                  case measure => omega
                  case rel => exact ⟨S ++ [(f, eb - 1)], 0, eb, x, y + 1, HO9.out, rfl, by go_num, by go_num, by have h1 := HST.out.ia; have h2 := HST.out.jb; rw [HNA.out] at h1; rw [HNB.out] at h2; omega, HST.out, HB9.out⟩
            · have c2 : ¬ ((x : Int) < 2 * (na : Int)) := by omega
              have HNX : Hid (Nexts A B x y eb (x) (y + 1)) := Lib.hid (by
                rw [Nexts, HEQA.out, HEQB.out]
                exact ⟨.inr ⟨hgt, rfl⟩, .inl ⟨rfl, rfl⟩, hq, .inr rfl⟩)
              have hmin : min ea eb = eb := by omega
              have ho1 : ((x : Int) % 2 == 1) = odd (x) := odd_form (x)
              have ho2 : (((y : Int) + 1) % 2 == 1) = odd (y + 1) := odd_form (y + 1)
              obtain ⟨K, hK⟩ : ∃ K, k (odd (x)) (odd (y + 1)) = K := ⟨_, rfl⟩
              have HKC := Lib.hid (HCL.out (odd (x)) (odd (y + 1)) wr)
              rw [hK] at HKC
              have HKQ := Lib.hid hK
              have HO1 := Lib.hid ho1
              have HO2 := Lib.hid ho2
              have hwq : IntKind.i64.wrap (eb - 1) = eb - 1 := IntWalk.i64_in _ (by omega)
              clear hK ho1 ho2
              go_wp2_with fail
              with_reducible refine HEA.out.mono ?_
              rintro e w3 ⟨rfl, rfl⟩
              go_wp2_with fail
              with_reducible refine HEB.out.mono ?_
              rintro e w3 ⟨rfl, rfl⟩
              go_wp2_with fail
              rw [HO1.out, HO2.out]
              with_reducible refine HKC.out.mono ?_
              rintro e w3 ⟨rfl, rfl⟩
              by_cases hf : f = 0
              · subst hf
                cases K with
                | true =>
                  have HST := Lib.hid (HS.out.step HMAY.out HMBY.out HNX.out (.inl ⟨HKQ.out, rfl, rfl, rfl⟩))
                  go_wp2_with fail
                  go_roundg (2 * na + 2 * nb - (x) - (y + 1))
                  case measure => omega
                  case rel => exact ⟨S, eb, eb, x, y + 1, HO.out, rfl, by go_num, by go_num, by have h1 := HST.out.ia; have h2 := HST.out.jb; rw [HNA.out] at h1; rw [HNB.out] at h2; omega, HST.out, HBR.out⟩
                | false =>
                  have HST := Lib.hid (HS.out.step HMAY.out HMBY.out HNX.out (.inr (.inr (.inr ⟨HKQ.out, rfl, rfl, rfl⟩))))
                  go_wp2_with fail
                  go_roundg (2 * na + 2 * nb - (x) - (y + 1))
                  case measure => omega
                  case rel => exact ⟨S, 0, eb, x, y + 1, HO.out, rfl, by go_num, by go_num, by have h1 := HST.out.ia; have h2 := HST.out.jb; rw [HNA.out] at h1; rw [HNB.out] at h2; omega, HST.out, HBR.out⟩
              · have hfp : 0 < f := by omega
                have hfe : (f == 0) = false := by rw [beq_eq_false_iff_ne]; exact hf
                cases K with
                | true =>
                  have HST := Lib.hid (HS.out.step HMAY.out HMBY.out HNX.out (.inr (.inl ⟨HKQ.out, hfp, rfl, rfl⟩)))
                  go_wp2_with fail
                  go_roundg (2 * na + 2 * nb - (x) - (y + 1))
                  case measure => omega
                  case rel => exact ⟨S, f, eb, x, y + 1, HO.out, rfl, by go_num, by go_num, by have h1 := HST.out.ia; have h2 := HST.out.jb; rw [HNA.out] at h1; rw [HNB.out] at h2; omega, HST.out, HBR.out⟩
                | false =>
                  have HST := Lib.hid (HS.out.step HMAY.out HMBY.out HNX.out (.inr (.inr (.inl ⟨HKQ.out, hfp, rfl, rfl⟩))))
                  obtain ⟨v', w9, hrun, hown9, hkp9⟩ := HO.out.append f (eb - 1) HBR.out.size (by have := HNS.out; omega)
                  obtain ⟨a9, c9, hv9⟩ := hown9.form
                  have HRUN := Lib.hid hrun
                  have HO9 := Lib.hid hown9
                  have HB9 : Hid (Below w2.heap.size w2 w9) := Lib.hid (HBR.out.trans (hkp9.toBelow HBR.out.size (fun q e => HO.out.new q e)))
                  rw [List.length_append, HNS.out, List.length_singleton] at hv9
                  subst hv9
                  clear hrun hown9 hkp9
                  go_wp2_with (at_builtin; refine wpList_step (fun K hK => step_app HRUN.out (.tmp 76) (.tmp 81) rfl rfl rfl rfl (hK _ _ ?_)))
                  go_roundg (2 * na + 2 * nb - (x) - (y + 1))
                  case measure => omega
                  case rel => exact ⟨S ++ [(f, eb - 1)], 0, eb, x, y + 1, HO9.out, rfl, by go_num, by go_num, by have h1 := HST.out.ia; have h2 := HST.out.jb; rw [HNA.out] at h1; rw [HNB.out] at h2; omega, HST.out, HB9.out⟩
end Go.Proofs.YtiolchdfjlffoaaDoor
