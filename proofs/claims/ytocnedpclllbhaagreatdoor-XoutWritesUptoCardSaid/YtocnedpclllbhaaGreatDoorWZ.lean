/-
 The reference's Fair at a text, a comment and a processing instruction. Conditions: the texts are no longer than 2 to the 19.
-/
import Derived.Test.YtocnedpclllbhaaGreatDoorWY
namespace Go.Proofs.YtocnedpclllbhaaGreatDoor
open Go.RowKit Go.Lib Go.Joins

set_option maxRecDepth 100000 in
set_option maxHeartbeats 8000000 in
theorem rfair_t2 {w : World} {n x : List UInt8} {aa ka : Option Addr} {ca ck : Nat} (hx : x.length ≤ 1000000) (hok : badL x < 0) : Calls Tryz.prog 10 #[.agg #[.int .i64 2, .string (strB n), .string (strB x), .slice aa 0 ca, .slice ka 0 ck]] w (Leaves (.bool (n.isEmpty && !x.isEmpty)) w) := by
  have hnf := strB_full (l := n)
  obtain ⟨N, hN⟩ : ∃ S, strB n = S := ⟨_, rfl⟩
  rw [hN] at hnf ⊢
  have HNX := Lib.hid hN
  clear hN
  obtain ⟨w0, hw0⟩ : ∃ W, w.alloc (.cells #[.int .i64 2, .string N, .string (strB x), .slice aa 0 ca, .slice ka 0 ck] 25) = W := ⟨_, rfl⟩
  have hbx := Boxed.make w 2 N (strB x) (.slice aa 0 ca) (.slice ka 0 ck)
  rw [hw0] at hbx
  have HBT := Lib.hid (bad_text w0 x (by omega))
  rw [show w0.heap.size = w.heap.size + 1 by rw [← hw0]; simp] at HBT
  have hss : (strB x).size = x.length := strB_size _
  have hfull := strB_full (l := x)
  obtain ⟨S, hS⟩ : ∃ S, strB x = S := ⟨_, rfl⟩
  obtain ⟨q, hq⟩ : ∃ q, badL x = q := ⟨_, rfl⟩
  rw [hS] at hbx HBT hw0 hss hfull ⊢
  rw [hq] at HBT hok
  have kc := Lib.run_convert_string_bytes (P := Tryz.prog) w0 9 53 5 S Tryz.underlying9 Tryz.underlying53 Tryz.underlying5
  have HW0 := Lib.hid hw0
  have HBW : Hid (Below w0.heap.size w0 (bytesWorld w0 5 S)) := Lib.hid (bytesWorld_below w0 S)
  have HBX := Lib.hid hbx
  have HSX := Lib.hid hS
  have HSS := Lib.hid hss
  have HFU := Lib.hid hfull
  obtain ⟨z0, z1, z2, z3, z4⟩ := hbx.cells (Below.refl _ _)
  rw [← HW0.out] at kc z0 z1 z2 z3 z4
  have hq1 : ¬ (0 ≤ q) := by omega
  clear hw0 hbx hS hq hok hss hfull
  by_cases hn : n = []
  · have hNe : N = ⟨#[]⟩ := by rw [← HNX.out, hn]; rfl
    subst hNe
    by_cases hx0 : x = []
    · have hSe : S = ⟨#[]⟩ := by rw [← HSX.out, hx0]; rfl
      subst hSe
      rw [show (⟨#[]⟩ : ByteArray).size = 0 from rfl] at HBT
      have HF : Hid ((n.isEmpty && !x.isEmpty) = false) := Lib.hid (by rw [hx0]; simp)
      clear hn hx0 hnf
      go_enter Tryz.func10, Tryz.ntmps10
      go_wp2_with fail
      rw [HW0.out]
      with_reducible refine HBT.out.mono ?_
      rintro e w1 ⟨rfl, hb1⟩
      have HB1 := Lib.hid (below_then HBW.out hb1)
      have HB01 := Lib.hid (below_then HBX.out.below HB1.out)
      clear kc z0 z1 z2 z3 z4 hb1
      obtain ⟨z0, z1, z2, z3, z4⟩ := HBX.out.cells HB1.out
      go_wp2_with fail
      go_ret
      exact ⟨by rw [HF.out]; rfl, HB01.out⟩
    · obtain ⟨f1, f2⟩ := HFU.out hx0
      have HF : Hid ((n.isEmpty && !x.isEmpty) = true) := Lib.hid (by rw [hn, List.isEmpty_eq_false_iff.2 hx0]; rfl)
      clear hn hx0 hnf
      go_enter Tryz.func10, Tryz.ntmps10
      go_wp2_with fail
      rw [HW0.out]
      with_reducible refine HBT.out.mono ?_
      rintro e w1 ⟨rfl, hb1⟩
      have HB1 := Lib.hid (below_then HBW.out hb1)
      have HB01 := Lib.hid (below_then HBX.out.below HB1.out)
      clear kc z0 z1 z2 z3 z4 hb1
      obtain ⟨z0, z1, z2, z3, z4⟩ := HBX.out.cells HB1.out
      go_wp2_with fail
      go_ret
      exact ⟨by rw [HF.out]; rfl, HB01.out⟩
  · obtain ⟨g1, g2⟩ := hnf hn
    have HF : Hid ((n.isEmpty && !x.isEmpty) = false) := Lib.hid (by rw [List.isEmpty_eq_false_iff.2 hn]; rfl)
    clear hn hnf
    go_enter Tryz.func10, Tryz.ntmps10
    go_wp2_with fail
    rw [HW0.out]
    with_reducible refine HBT.out.mono ?_
    rintro e w1 ⟨rfl, hb1⟩
    have HB1 := Lib.hid (below_then HBW.out hb1)
    have HB01 := Lib.hid (below_then HBX.out.below HB1.out)
    clear kc z0 z1 z2 z3 z4 hb1
    obtain ⟨z0, z1, z2, z3, z4⟩ := HBX.out.cells HB1.out
    go_wp2_with fail
    go_ret
    exact ⟨by rw [HF.out]; rfl, HB01.out⟩
set_option maxRecDepth 100000 in
set_option maxHeartbeats 8000000 in
theorem rfair_t3 {w : World} {n x : List UInt8} {aa ka : Option Addr} {ca ck : Nat} (hx : x.length ≤ 1000000) (hok : badL x < 0) : Calls Tryz.prog 10 #[.agg #[.int .i64 3, .string (strB n), .string (strB x), .slice aa 0 ca, .slice ka 0 ck]] w (Leaves (.bool (n.isEmpty && !(cutS [13] x).isSome && !(cutS [45, 45] x).isSome && !endsB 45 x)) w) := by
  have hnf := strB_full (l := n)
  obtain ⟨N, hN⟩ : ∃ S, strB n = S := ⟨_, rfl⟩
  rw [hN] at hnf ⊢
  have HNX := Lib.hid hN
  clear hN
  have HH1 : Hid (∀ W, Calls Tryz.prog 25 #[.string (strB x), .string ⟨#[13]⟩] W (Leaves (.bool (cutS [13] x).isSome) W)) := Lib.hid (fun W => rhas11_calls W x [13] (by omega) (by decide) (by decide))
  have HH2 : Hid (∀ W, Calls Tryz.prog 25 #[.string (strB x), .string ⟨#[45, 45]⟩] W (Leaves (.bool (cutS [45, 45] x).isSome) W)) := Lib.hid (fun W => rhas11_calls W x [45, 45] (by omega) (by decide) (by decide))
  obtain ⟨w0, hw0⟩ : ∃ W, w.alloc (.cells #[.int .i64 3, .string N, .string (strB x), .slice aa 0 ca, .slice ka 0 ck] 25) = W := ⟨_, rfl⟩
  have hbx := Boxed.make w 3 N (strB x) (.slice aa 0 ca) (.slice ka 0 ck)
  rw [hw0] at hbx
  have HBT := Lib.hid (bad_text w0 x (by omega))
  rw [show w0.heap.size = w.heap.size + 1 by rw [← hw0]; simp] at HBT
  have hss : (strB x).size = x.length := strB_size _
  have hfull := strB_full (l := x)
  obtain ⟨S, hS⟩ : ∃ S, strB x = S := ⟨_, rfl⟩
  obtain ⟨q, hq⟩ : ∃ q, badL x = q := ⟨_, rfl⟩
  rw [hS] at hbx HBT hw0 HH1 HH2 hss hfull ⊢
  rw [hq] at HBT hok
  have kc := Lib.run_convert_string_bytes (P := Tryz.prog) w0 9 53 5 S Tryz.underlying9 Tryz.underlying53 Tryz.underlying5
  have HW0 := Lib.hid hw0
  have HBW : Hid (Below w0.heap.size w0 (bytesWorld w0 5 S)) := Lib.hid (bytesWorld_below w0 S)
  have HBX := Lib.hid hbx
  have HSX := Lib.hid hS
  have HSS := Lib.hid hss
  have HFU := Lib.hid hfull
  obtain ⟨z0, z1, z2, z3, z4⟩ := hbx.cells (Below.refl _ _)
  rw [← HW0.out] at kc z0 z1 z2 z3 z4
  have hq1 : ¬ (0 ≤ q) := by omega
  clear hw0 hbx hS hq hok hss hfull
  obtain ⟨A, hA⟩ : ∃ b, (cutS [13] x).isSome = b := ⟨_, rfl⟩
  obtain ⟨B, hB⟩ : ∃ b, (cutS [45, 45] x).isSome = b := ⟨_, rfl⟩
  rw [hA] at HH1 ⊢
  rw [hB] at HH2 ⊢
  clear hA hB
  by_cases hn : n = []
  · have hNe : N = ⟨#[]⟩ := by rw [← HNX.out, hn]; rfl
    subst hNe
    have hne : n.isEmpty = true := by rw [hn]; rfl
    rw [hne]
    clear hn hnf hne
    by_cases hx0 : x = []
    · have hSe : S = ⟨#[]⟩ := by rw [← HSX.out, hx0]; rfl
      subst hSe
      rw [show (⟨#[]⟩ : ByteArray).size = 0 from rfl] at HBT
      have HE : Hid (endsB 45 x = false) := Lib.hid (by rw [hx0]; rfl)
      clear hx0
      go_enter Tryz.func10, Tryz.ntmps10
      go_wp2_with fail
      rw [HW0.out]
      with_reducible refine HBT.out.mono ?_
      rintro e w1 ⟨rfl, hb1⟩
      have HB1 := Lib.hid (below_then HBW.out hb1)
      have HB01 := Lib.hid (below_then HBX.out.below HB1.out)
      clear kc z0 z1 z2 z3 z4 hb1
      obtain ⟨z0, z1, z2, z3, z4⟩ := HBX.out.cells HB1.out
      go_wp2_with fail
      with_reducible refine (HH1.out w1).mono ?_
      rintro e w2 ⟨rfl, hb2⟩
      have HB2 := Lib.hid (below_then HB1.out hb2)
      clear hb2 z0 z1 z2 z3 z4
      obtain ⟨z0, z1, z2, z3, z4⟩ := HBX.out.cells HB2.out
      cases A with
      | true =>
        go_wp2_with fail
        go_ret
        exact ⟨rfl, below_then HBX.out.below HB2.out⟩
      | false =>
        go_wp2_with fail
        with_reducible refine (HH2.out w2).mono ?_
        rintro e w3 ⟨rfl, hb3⟩
        have HB3 := Lib.hid (below_then HB2.out hb3)
        clear hb3 z0 z1 z2 z3 z4
        obtain ⟨z0, z1, z2, z3, z4⟩ := HBX.out.cells HB3.out
        cases B with
        | true =>
          go_wp2_with fail
          go_ret
          exact ⟨rfl, below_then HBX.out.below HB3.out⟩
        | false =>
          go_wp2_with fail
          go_ret
          exact ⟨by rw [HE.out]; rfl, below_then HBX.out.below HB3.out⟩
    · obtain ⟨f1, f2⟩ := HFU.out hx0
      obtain ⟨m, hm⟩ : ∃ m, x.length = m + 1 := ⟨x.length - 1, by have : x.length ≠ 0 := fun e => hx0 (List.length_eq_zero_iff.1 e); omega⟩
      have hsz : S.size = m + 1 := by rw [HSS.out, hm]
      rw [hsz] at HBT
      obtain ⟨c, hc⟩ : ∃ c, x[m]? = some c := ⟨_, List.getElem?_eq_getElem (by omega)⟩
      have hcS : S[m]'(by omega) = c := by
        have h := Lib.data_getElem? S m (by omega)
        rw [show S.data.toList = x by rw [← HSX.out, strB_list], hc] at h
        exact (Option.some.inj h).symm
      have HE : Hid (endsB 45 x = (c == 45)) := Lib.hid (by
        unfold endsB
        rw [List.getLast?_eq_getElem?, hm, Nat.add_sub_cancel, hc])
      have HCM : Hid ((c == 45) = ((c.toNat : Int) == 45)) := Lib.hid (by
        by_cases h : c = 45
        · rw [h]
          rfl
        · rw [beq_eq_false_iff_ne.2 h, beq_eq_false_iff_ne.2 (fun e => h (UInt8.toNat_inj.1 (by have : c.toNat = 45 := by omega
                                                                                                rw [this]
                                                                                                rfl)))])
      have hsub : IntKind.i64.wrap (m : Int) = (m : Int) := IntWalk.i64_in _ (by omega)
      have hm0 : (0 : Int) ≤ (m : Int) := by omega
      have hml : (m : Int) < (m : Int) + 1 := by omega
      clear hx0 hm hc
      go_enter Tryz.func10, Tryz.ntmps10
      go_wp2_with fail
      rw [HW0.out]
      with_reducible refine HBT.out.mono ?_
      rintro e w1 ⟨rfl, hb1⟩
      have HB1 := Lib.hid (below_then HBW.out hb1)
      have HB01 := Lib.hid (below_then HBX.out.below HB1.out)
      clear kc z0 z1 z2 z3 z4 hb1
      obtain ⟨z0, z1, z2, z3, z4⟩ := HBX.out.cells HB1.out
      go_wp2_with fail
      with_reducible refine (HH1.out w1).mono ?_
      rintro e w2 ⟨rfl, hb2⟩
      have HB2 := Lib.hid (below_then HB1.out hb2)
      clear hb2 z0 z1 z2 z3 z4
      obtain ⟨z0, z1, z2, z3, z4⟩ := HBX.out.cells HB2.out
      cases A with
      | true =>
        go_wp2_with fail
        go_ret
        exact ⟨rfl, below_then HBX.out.below HB2.out⟩
      | false =>
        go_wp2_with fail
        with_reducible refine (HH2.out w2).mono ?_
        rintro e w3 ⟨rfl, hb3⟩
        have HB3 := Lib.hid (below_then HB2.out hb3)
        clear hb3 z0 z1 z2 z3 z4
        obtain ⟨z0, z1, z2, z3, z4⟩ := HBX.out.cells HB3.out
        cases B with
        | true =>
          go_wp2_with fail
          go_ret
          exact ⟨rfl, below_then HBX.out.below HB3.out⟩
        | false =>
          go_wp2_with fail
          go_ret
          exact ⟨by rw [HE.out, HCM.out]; rfl, below_then HBX.out.below HB3.out⟩
  · obtain ⟨g1, g2⟩ := hnf hn
    have hne : n.isEmpty = false := List.isEmpty_eq_false_iff.2 hn
    rw [hne]
    clear hn hnf hne
    go_enter Tryz.func10, Tryz.ntmps10
    go_wp2_with fail
    rw [HW0.out]
    with_reducible refine HBT.out.mono ?_
    rintro e w1 ⟨rfl, hb1⟩
    have HB1 := Lib.hid (below_then HBW.out hb1)
    have HB01 := Lib.hid (below_then HBX.out.below HB1.out)
    clear kc z0 z1 z2 z3 z4 hb1
    obtain ⟨z0, z1, z2, z3, z4⟩ := HBX.out.cells HB1.out
    go_wp2_with fail
    go_ret
    exact ⟨rfl, HB01.out⟩
theorem low_small : (smallS : UInt8 → UInt8) = lowU := by
  funext x
  unfold smallS lowU
  simp only [UInt8.le_iff_toNat_le]
  split <;> split <;> first | rfl | (exfalso; simp at *; omega) | (apply UInt8.toNat_inj.1; simp; omega)
set_option maxRecDepth 100000 in
set_option maxHeartbeats 8000000 in
theorem rfair_t4 {w : World} {n x : List UInt8} {aa ka : Option Addr} {ca ck : Nat} (hn : n.length ≤ 1000000) (hx : x.length ≤ 1000000) (hok : badL x < 0) : Calls Tryz.prog 10 #[.agg #[.int .i64 4, .string (strB n), .string (strB x), .slice aa 0 ca, .slice ka 0 ck]] w (Leaves (.bool (nameW n && !sameS n [120, 109, 108] && !(cutS [13] x).isSome && !(cutS [63, 62] x).isSome && bareB x)) w) := by
  have HNM : Hid (∀ W, Calls Tryz.prog 26 #[.string (strB n)] W (Leaves (.bool (nameW n)) W)) := Lib.hid (fun W => name11_text W n hn _ (nameR_eq n))
  have HLO : Hid (∀ W, Calls Tryz.prog 27 #[.string (strB n)] W (Leaves (.string (strB (n.map lowU))) W)) := Lib.hid (fun W => rlower11_calls W n hn)
  obtain ⟨LS, hLS⟩ : ∃ S, strB (n.map lowU) = S := ⟨_, rfl⟩
  rw [hLS] at HLO
  obtain ⟨SB, hSB⟩ : ∃ b, sameS n [120, 109, 108] = b := ⟨_, rfl⟩
  have hsl : sameS n [120, 109, 108] = (n.map lowU == [120, 109, 108]) := by rw [sameS, low_small]
  have HLT : Hid (SB = true → LS = ⟨#[120, 109, 108]⟩) := Lib.hid (fun h => by
    rw [← hSB, hsl, beq_iff_eq] at h
    rw [← hLS, h]
    rfl)
  have HLF : Hid (SB = false → (LS.toList == [120, 109, 108]) = false) := Lib.hid (fun h => by
    rw [← hLS, str_eq, ← hsl, hSB]
    exact h)
  obtain ⟨NB, hNB⟩ : ∃ b, nameW n = b := ⟨_, rfl⟩
  rw [hNB] at HNM
  rw [hNB, hSB]
  obtain ⟨N, hN⟩ : ∃ S, strB n = S := ⟨_, rfl⟩
  rw [hN] at HNM HLO ⊢
  clear hN hNB hSB hsl hLS hn
  have HH1 : Hid (∀ W, Calls Tryz.prog 25 #[.string (strB x), .string ⟨#[13]⟩] W (Leaves (.bool (cutS [13] x).isSome) W)) := Lib.hid (fun W => rhas11_calls W x [13] (by omega) (by decide) (by decide))
  have HH2 : Hid (∀ W, Calls Tryz.prog 25 #[.string (strB x), .string ⟨#[63, 62]⟩] W (Leaves (.bool (cutS [63, 62] x).isSome) W)) := Lib.hid (fun W => rhas11_calls W x [63, 62] (by omega) (by decide) (by decide))
  obtain ⟨w0, hw0⟩ : ∃ W, w.alloc (.cells #[.int .i64 4, .string N, .string (strB x), .slice aa 0 ca, .slice ka 0 ck] 25) = W := ⟨_, rfl⟩
  have hbx := Boxed.make w 4 N (strB x) (.slice aa 0 ca) (.slice ka 0 ck)
  rw [hw0] at hbx
  have HBT := Lib.hid (bad_text w0 x (by omega))
  rw [show w0.heap.size = w.heap.size + 1 by rw [← hw0]; simp] at HBT
  have hss : (strB x).size = x.length := strB_size _
  have hfull := strB_full (l := x)
  obtain ⟨S, hS⟩ : ∃ S, strB x = S := ⟨_, rfl⟩
  obtain ⟨q, hq⟩ : ∃ q, badL x = q := ⟨_, rfl⟩
  rw [hS] at hbx HBT hw0 HH1 HH2 hss hfull ⊢
  rw [hq] at HBT hok
  have kc := Lib.run_convert_string_bytes (P := Tryz.prog) w0 9 53 5 S Tryz.underlying9 Tryz.underlying53 Tryz.underlying5
  have HW0 := Lib.hid hw0
  have HBW : Hid (Below w0.heap.size w0 (bytesWorld w0 5 S)) := Lib.hid (bytesWorld_below w0 S)
  have HBX := Lib.hid hbx
  have HSX := Lib.hid hS
  have HSS := Lib.hid hss
  have HFU := Lib.hid hfull
  obtain ⟨z0, z1, z2, z3, z4⟩ := hbx.cells (Below.refl _ _)
  rw [← HW0.out] at kc z0 z1 z2 z3 z4
  have hq1 : ¬ (0 ≤ q) := by omega
  clear hw0 hbx hS hq hok hss hfull
  obtain ⟨A, hA⟩ : ∃ b, (cutS [13] x).isSome = b := ⟨_, rfl⟩
  obtain ⟨B, hB⟩ : ∃ b, (cutS [63, 62] x).isSome = b := ⟨_, rfl⟩
  rw [hA] at HH1 ⊢
  rw [hB] at HH2 ⊢
  clear hA hB
  cases x with
  | nil =>
    have hSe : S = ⟨#[]⟩ := by rw [← HSX.out]; rfl
    subst hSe
    rw [show (⟨#[]⟩ : ByteArray).size = 0 from rfl] at HBT
    go_enter Tryz.func10, Tryz.ntmps10
    go_wp2_with fail
    rw [HW0.out]
    with_reducible refine HBT.out.mono ?_
    rintro e w1 ⟨rfl, hb1⟩
    have HB1 := Lib.hid (below_then HBW.out hb1)
    have HB01 := Lib.hid (below_then HBX.out.below HB1.out)
    clear kc z0 z1 z2 z3 z4 hb1
    obtain ⟨z0, z1, z2, z3, z4⟩ := HBX.out.cells HB1.out
    go_wp2_with fail
    with_reducible refine (HNM.out w1).mono ?_
    rintro e w2 ⟨rfl, hb2⟩
    have HB2 := Lib.hid (below_then HB1.out hb2)
    clear hb2 z0 z1 z2 z3 z4
    obtain ⟨z0, z1, z2, z3, z4⟩ := HBX.out.cells HB2.out
    cases NB with
    | false =>
      go_wp2_with fail
      go_ret
      exact ⟨rfl, below_then HBX.out.below HB2.out⟩
    | true =>
      go_wp2_with fail
      with_reducible refine (HLO.out w2).mono ?_
      rintro e w3 ⟨rfl, hb2⟩
      have HB3 := Lib.hid (below_then HB2.out hb2)
      clear hb2 z0 z1 z2 z3 z4
      obtain ⟨z0, z1, z2, z3, z4⟩ := HBX.out.cells HB3.out
      cases SB with
      | true =>
        obtain rfl : LS = ⟨#[120, 109, 108]⟩ := HLT.out rfl
        go_wp2_with fail
        go_ret
        exact ⟨rfl, below_then HBX.out.below HB3.out⟩
      | false =>
        have hls := HLF.out rfl
        go_wp2_with fail
        with_reducible refine (HH1.out w3).mono ?_
        rintro e w4 ⟨rfl, hb2⟩
        have HB4 := Lib.hid (below_then HB3.out hb2)
        clear hb2 z0 z1 z2 z3 z4
        obtain ⟨z0, z1, z2, z3, z4⟩ := HBX.out.cells HB4.out
        cases A with
        | true =>
          go_wp2_with fail
          go_ret
          exact ⟨rfl, below_then HBX.out.below HB4.out⟩
        | false =>
          go_wp2_with fail
          with_reducible refine (HH2.out w4).mono ?_
          rintro e w5 ⟨rfl, hb2⟩
          have HB5 := Lib.hid (below_then HB4.out hb2)
          clear hb2 z0 z1 z2 z3 z4
          obtain ⟨z0, z1, z2, z3, z4⟩ := HBX.out.cells HB5.out
          cases B with
          | true =>
            go_wp2_with fail
            go_ret
            exact ⟨rfl, below_then HBX.out.below HB5.out⟩
          | false =>
            go_wp2_with fail
            go_ret
            exact ⟨rfl, below_then HBX.out.below HB5.out⟩
  | cons c t =>
    obtain ⟨f1, f2⟩ := HFU.out (by simp)
    have hsz : S.size = t.length + 1 := by rw [HSS.out]; rfl
    rw [hsz] at HBT
    have hcS : S[0]'(by omega) = c := by
      have h := Lib.data_getElem? S 0 (by omega)
      rw [show S.data.toList = c :: t by rw [← HSX.out, strB_list]] at h
      exact (Option.some.inj h).symm
    have HBK : Hid (∀ W, Calls Tryz.prog 28 #[.int .i32 (c.toNat : Int)] W (Stays (.bool (blankB (c.toNat : Int))) W)) := Lib.hid (fun W => refBlank_calls (c.toNat : Int) W)
    have HBR : Hid (bareB (c :: t) = !blankB (c.toNat : Int)) := Lib.hid rfl
    rw [HBR.out]
    obtain ⟨D, hD⟩ : ∃ b, blankB (c.toNat : Int) = b := ⟨_, rfl⟩
    rw [hD] at HBK ⊢
    have hc8 := c.toNat_lt
    obtain ⟨y, hy⟩ : ∃ y, c.toNat = y := ⟨_, rfl⟩
    rw [hy] at HBK hc8
    have hw32 : IntKind.i32.wrap (y : Int) = (y : Int) := IntWalk.i32_in _ (by omega)
    clear hD
    go_enter Tryz.func10, Tryz.ntmps10
    go_wp2_with fail
    rw [HW0.out]
    with_reducible refine HBT.out.mono ?_
    rintro e w1 ⟨rfl, hb1⟩
    have HB1 := Lib.hid (below_then HBW.out hb1)
    have HB01 := Lib.hid (below_then HBX.out.below HB1.out)
    clear kc z0 z1 z2 z3 z4 hb1
    obtain ⟨z0, z1, z2, z3, z4⟩ := HBX.out.cells HB1.out
    go_wp2_with fail
    with_reducible refine (HNM.out w1).mono ?_
    rintro e w2 ⟨rfl, hb2⟩
    have HB2 := Lib.hid (below_then HB1.out hb2)
    clear hb2 z0 z1 z2 z3 z4
    obtain ⟨z0, z1, z2, z3, z4⟩ := HBX.out.cells HB2.out
    cases NB with
    | false =>
      go_wp2_with fail
      go_ret
      exact ⟨rfl, below_then HBX.out.below HB2.out⟩
    | true =>
      go_wp2_with fail
      with_reducible refine (HLO.out w2).mono ?_
      rintro e w3 ⟨rfl, hb2⟩
      have HB3 := Lib.hid (below_then HB2.out hb2)
      clear hb2 z0 z1 z2 z3 z4
      obtain ⟨z0, z1, z2, z3, z4⟩ := HBX.out.cells HB3.out
      cases SB with
      | true =>
        obtain rfl : LS = ⟨#[120, 109, 108]⟩ := HLT.out rfl
        go_wp2_with fail
        go_ret
        exact ⟨rfl, below_then HBX.out.below HB3.out⟩
      | false =>
        have hls := HLF.out rfl
        go_wp2_with fail
        with_reducible refine (HH1.out w3).mono ?_
        rintro e w4 ⟨rfl, hb2⟩
        have HB4 := Lib.hid (below_then HB3.out hb2)
        clear hb2 z0 z1 z2 z3 z4
        obtain ⟨z0, z1, z2, z3, z4⟩ := HBX.out.cells HB4.out
        cases A with
        | true =>
          go_wp2_with fail
          go_ret
          exact ⟨rfl, below_then HBX.out.below HB4.out⟩
        | false =>
          go_wp2_with fail
          with_reducible refine (HH2.out w4).mono ?_
          rintro e w5 ⟨rfl, hb2⟩
          have HB5 := Lib.hid (below_then HB4.out hb2)
          clear hb2 z0 z1 z2 z3 z4
          obtain ⟨z0, z1, z2, z3, z4⟩ := HBX.out.cells HB5.out
          cases B with
          | true =>
            go_wp2_with fail
            go_ret
            exact ⟨rfl, below_then HBX.out.below HB5.out⟩
          | false =>
            go_wp2_with fail
            with_reducible refine (HBK.out w5).mono ?_
            rintro e w6 ⟨rfl, rfl⟩
            go_wp2_with fail
            go_ret
            exact ⟨by cases D <;> rfl, below_then HBX.out.below HB5.out⟩
end Go.Proofs.YtocnedpclllbhaaGreatDoor
