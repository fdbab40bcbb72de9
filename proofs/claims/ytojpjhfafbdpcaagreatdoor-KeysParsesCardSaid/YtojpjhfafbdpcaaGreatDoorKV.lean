/-
  Whether the rule of a path may stand behind others, and whether rules are a specification, told by the program and by the reference. Conditions: the slices lead to what they are said to; the texts are no longer than 2 to the 30; the tables and the library's bound are laid.
-/
import Derived.Test.YtojpjhfafbdpcaaGreatDoorKU
namespace Go.Proofs.YtojpjhfafbdpcaaGreatDoor
open Go.RowKit Go.Lib Go.Joins

theorem empty_len (l : List Rl) : ((l.length : Int) == 0) = l.isEmpty := by
  cases l with
  | nil => rfl
  | cons x t => rw [beq_eq_false_iff_ne.2 (by rw [List.length_cons]; omega)]; rfl
theorem has_nil (p : List (List UInt8)) : has [] p = false := rfl
theorem placedW_ref (l : List Rl) (p : List (List UInt8)) : placedW l p = (if has l p = true then false else if p.length = 1 then l.isEmpty else has l p.dropLast) := by
  unfold placedW
  by_cases h : has l p = true
  · rw [if_pos h, h]
    split
    · cases l with
      | nil => cases h
      | cons x t => rfl
    · rw [Bool.not_true, Bool.and_false]
  · rw [if_neg h]
    rw [Bool.not_eq_true] at h
    rw [h, Bool.not_false, Bool.and_true]
theorem take_last (p : List (List UInt8)) : p.take (p.length - 1) = p.dropLast := (List.dropLast_eq_take (l := p)).symm

set_option maxRecDepth 100000 in
set_option maxHeartbeats 4000000 in
theorem stands_calls {w : World} {S S' : Nat → Prop} {v pv : Value} {l : List Rl} {p : List (List UInt8)} (hl : RlsIn w S v l) (hp : StrIn w S' pv p) (hne : p ≠ []) :
    Calls Tryz.prog 27 #[v, pv] w (Leaves (.bool (placedW l p)) w) := by
  obtain ⟨a, c, rfl, hlc, hcm, _⟩ := hl.form
  obtain ⟨a2, c2, rfl, hlc2, hcm2, _⟩ := hp.form
  have hel := empty_len l
  obtain ⟨n, hn⟩ : ∃ n, l.length = n := ⟨_, rfl⟩
  obtain ⟨m, hm⟩ : ∃ n, p.length = n + 1 := ⟨p.length - 1, by cases p with | nil => exact absurd rfl hne | cons x t => simp⟩
  have hm64 : m + 1 ≤ 9223372036854775807 := by unfold maxLen at hcm2; omega
  rw [hn] at hl hel
  rw [hm] at hp hlc2
  rw [hn, hm]
  unfold placedW
  rw [hm]
  by_cases h1 : m = 0
  · have e1 : ((m : Int) + 1 == 1) = true := by rw [beq_iff_eq]; omega
    rw [if_pos (by omega)]
    obtain ⟨q, hq⟩ : ∃ q, l.isEmpty = q := ⟨_, rfl⟩
    rw [hq] at hel ⊢
    have HM := Lib.hid h1
    clear hl hp hlc hcm hlc2 hcm2 hn hm hq h1 hm64 hne
    go_enter Tryz.func27, Tryz.ntmps27
    go_wp2
    go_ret
    exact ⟨rfl, Below.refl _ _⟩
  · have e1 : ((m : Int) + 1 == 1) = false := by rw [beq_eq_false_iff_ne]; omega
    rw [if_neg (by omega)]
    have hdl : p.take m = p.dropLast := by
      have := take_last p
      rwa [hm, Nat.add_sub_cancel] at this
    have hp2 := hp.take (k := m) (by omega)
    rw [hdl] at hp2
    have HP1 := Lib.hid (place_calls hl hp2)
    have HP2 := Lib.hid (fun (W : World) (hb : Below w.heap.size w W) => place_calls (hl.below hb) (hp.below hb))
    have hm1c : m ≤ c2 := by omega
    rcases placeI_cases l p.dropLast with ⟨i, x, q1, _, _, q2, _⟩ | ⟨q1, q2⟩
    · rw [q1] at HP1
      rw [q2, Bool.true_and]
      have hd : decide ((i : Int) ≥ 0) = true := by simp
      have hdn : 0 ≤ i := Nat.zero_le _
      obtain ⟨z, hz⟩ : ∃ z, placeI l p = z := ⟨_, rfl⟩
      have hz2 := placeI_lt l p
      obtain ⟨q, hq⟩ : ∃ q, has l p = q := ⟨_, rfl⟩
      rw [hz] at HP2 hz2
      rw [hq] at hz2 ⊢
      have HZ2 := Lib.hid hz2
      clear hl hp hp2 hlc hcm hlc2 hcm2 hn hm hel hdl h1 hne q1 q2 hz hz2 hq
      go_enter Tryz.func27, Tryz.ntmps27
      go_wp2_with fail
      with_reducible refine HP1.out.mono ?_
      rintro e w2 ⟨rfl, hb2⟩
      have HC := Lib.hid (HP2.out w2 hb2)
      have HB2 := Lib.hid hb2
      clear hb2 HP2 HP1
      go_wp2_with fail
      with_reducible refine HC.out.mono ?_
      rintro e w3 ⟨rfl, hb3⟩
      have HB3 := Lib.hid (below_then HB2.out hb3)
      clear hb3 HC
      have hd2 := HZ2.out
      go_wp2
      go_ret
      exact ⟨rfl, HB3.out⟩
    · rw [q1] at HP1
      rw [q2, Bool.false_and]
      clear hl hp hp2 hlc hcm hlc2 hcm2 hn hm hel hdl h1 hne q1 q2 HP2
      go_enter Tryz.func27, Tryz.ntmps27
      go_wp2_with fail
      with_reducible refine HP1.out.mono ?_
      rintro e w2 ⟨rfl, hb2⟩
      have HB2 := Lib.hid hb2
      clear hb2 HP1
      go_wp2
      go_ret
      exact ⟨rfl, HB2.out⟩

set_option maxRecDepth 100000 in
set_option maxHeartbeats 4000000 in
theorem placed_calls {w : World} {S S' S'' : Nat → Prop} {v pv kv : Value} {l : List Rl} {r : Rl} (hl : RlsIn w S v l) (hp : StrIn w S' pv r.path) (hk : StrIn w S'' kv r.keys) (hne : r.path ≠ []) :
    Calls Tryz.prog 32 #[v, .agg #[pv, kv]] w (Leaves (.bool (placedW l r.path)) w) := by
  rw [placedW_ref]
  obtain ⟨p, ks⟩ := r
  dsimp only at hp hk hne ⊢
  obtain ⟨a, c, rfl, hlc, hcm, _⟩ := hl.form
  obtain ⟨a2, c2, rfl, hlc2, hcm2, _⟩ := hp.form
  obtain ⟨a3, c3, rfl, _⟩ := hk.form
  have hel := empty_len l
  obtain ⟨n, hn⟩ : ∃ n, l.length = n := ⟨_, rfl⟩
  obtain ⟨m, hm⟩ : ∃ n, p.length = n + 1 := ⟨p.length - 1, by cases p with | nil => exact absurd rfl hne | cons x t => simp⟩
  have hm64 : m + 1 ≤ 9223372036854775807 := by unfold maxLen at hcm2; omega
  rw [hn] at hl hel
  rw [hm] at hp hlc2
  rw [hn, hm]
  obtain ⟨k, hkl⟩ : ∃ k, ks.length = k := ⟨_, rfl⟩
  rw [hkl]
  obtain ⟨W1, hW1⟩ : ∃ W1, w.alloc (.cells #[.slice a2 (m + 1) c2, .slice a3 k c3] 38) = W1 := ⟨_, rfl⟩
  have hb1 : Below w.heap.size w W1 := by rw [← hW1]; exact (Below.refl _ _).alloc (Nat.le_refl _) _
  have hkb : W1.heap[w.heap.size]? = some (.cells #[.slice a2 (m + 1) c2, .slice a3 k c3] 38 (0, 0)) := by rw [← hW1]; exact heap_alloc_new _ _
  have HF := Lib.hid (rfind_calls (hl.below hb1) (hp.below hb1))
  have hdl : p.take m = p.dropLast := by
    have := take_last p
    rwa [hm, Nat.add_sub_cancel] at this
  have hp2 := hp.take (k := m) (by omega)
  rw [hdl] at hp2
  have HF2 := Lib.hid (fun (W : World) (hb : Below w.heap.size w W) => rfind_calls (hl.below hb) (hp2.below hb))
  have HB1 := Lib.hid hb1
  have HKB := Lib.hid hkb
  have HW1 := Lib.hid hW1
  have hm1c : m ≤ c2 := by omega
  obtain ⟨qe, hqe⟩ : ∃ q, l.isEmpty = q := ⟨_, rfl⟩
  rw [hqe] at hel ⊢
  rcases placeI_cases l p with ⟨i, x, q1, _, _, q2, _⟩ | ⟨q1, q2⟩
  · rw [q1] at HF
    rw [q2, if_pos rfl]
    have hd : decide ((i : Int) ≥ 0) = true := by simp
    clear hl hp hk hp2 hlc hcm hlc2 hcm2 hn hm hel hdl hne q1 q2 hb1 hkb hW1 HF2 hkl hqe
    go_enter Tryz.func32, Tryz.ntmps32
    go_wp2_with fail
    rw [HW1.out]
    with_reducible refine HF.out.mono ?_
    rintro e w2 ⟨rfl, hb2⟩
    have HB2 := Lib.hid (below_then HB1.out hb2)
    clear hb2 HF
    go_wp2
    go_ret
    exact ⟨rfl, HB2.out⟩
  · rw [q1] at HF
    rw [q2, if_neg (by decide)]
    by_cases h1 : m = 0
    · have e1 : ((m : Int) + 1 == 1) = true := by rw [beq_iff_eq]; omega
      rw [if_pos (by omega)]
      have HM := Lib.hid h1
      clear hl hp hk hp2 hlc hcm hlc2 hcm2 hn hm hdl hne q1 q2 hb1 hkb hW1 HF2 hkl hqe h1
      go_enter Tryz.func32, Tryz.ntmps32
      go_wp2_with fail
      rw [HW1.out]
      with_reducible refine HF.out.mono ?_
      rintro e w2 ⟨rfl, hb2⟩
      have c0 : w2.cell? ⟨w.heap.size, 0, none⟩ = some (.slice a2 (m + 1) c2) := (cell_of_block (block_below hb2 HKB.out) 0).trans rfl
      have HB2 := Lib.hid (below_then HB1.out hb2)
      clear hb2 HF
      go_wp2
      go_ret
      exact ⟨rfl, HB2.out⟩
    · have e1 : ((m : Int) + 1 == 1) = false := by rw [beq_eq_false_iff_ne]; omega
      rw [if_neg (by omega)]
      rcases placeI_cases l p.dropLast with ⟨i, x, r1, _, _, r2, _⟩ | ⟨r1, r2⟩
      · rw [r1] at HF2
        rw [r2]
        have hd : decide ((i : Int) ≥ 0) = true := by simp
        clear hl hp hk hp2 hlc hcm hlc2 hcm2 hn hm hel hdl hne q1 q2 hb1 hkb hW1 hkl hqe h1 r1 r2
        go_enter Tryz.func32, Tryz.ntmps32
        go_wp2_with fail
        rw [HW1.out]
        with_reducible refine HF.out.mono ?_
        rintro e w2 ⟨rfl, hb2⟩
        have c0 : w2.cell? ⟨w.heap.size, 0, none⟩ = some (.slice a2 (m + 1) c2) := (cell_of_block (block_below hb2 HKB.out) 0).trans rfl
        have HB2 := Lib.hid (below_then HB1.out hb2)
        have HC := Lib.hid (HF2.out w2 HB2.out)
        clear hb2 HF HF2
        go_wp2_with fail
        with_reducible refine HC.out.mono ?_
        rintro e w3 ⟨rfl, hb3⟩
        have HB3 := Lib.hid (below_then HB2.out hb3)
        clear hb3 HC
        go_wp2
        go_ret
        exact ⟨rfl, HB3.out⟩
      · rw [r1] at HF2
        rw [r2]
        clear hl hp hk hp2 hlc hcm hlc2 hcm2 hn hm hel hdl hne q1 q2 hb1 hkb hW1 hkl hqe h1 r1 r2
        go_enter Tryz.func32, Tryz.ntmps32
        go_wp2_with fail
        rw [HW1.out]
        with_reducible refine HF.out.mono ?_
        rintro e w2 ⟨rfl, hb2⟩
        have c0 : w2.cell? ⟨w.heap.size, 0, none⟩ = some (.slice a2 (m + 1) c2) := (cell_of_block (block_below hb2 HKB.out) 0).trans rfl
        have HB2 := Lib.hid (below_then HB1.out hb2)
        have HC := Lib.hid (HF2.out w2 HB2.out)
        clear hb2 HF HF2
        go_wp2_with fail
        with_reducible refine HC.out.mono ?_
        rintro e w3 ⟨rfl, hb3⟩
        have HB3 := Lib.hid (below_then HB2.out hb3)
        clear hb3 HC
        go_wp2
        go_ret
        exact ⟨rfl, HB3.out⟩

/-! ### specifications -/
theorem mayGo_app : ∀ {a pre b : List Rl}, mayGo pre (a ++ b) = (mayGo pre a && mayGo (pre ++ a) b)
  | [], pre, b => by rw [List.nil_append, List.append_nil, mayGo, Bool.true_and]
  | x :: t, pre, b => by
    rw [List.cons_append, mayGo, mayGo, mayGo_app (a := t) (pre := pre ++ [x]) (b := b), List.append_assoc, List.singleton_append]
    simp only [Bool.and_assoc]
theorem may_step {l : List Rl} {i : Nat} {x : Rl} (hx : l[i]? = some x) : mayGo [] l = (mayGo [] (l.take i) && (ruleW x && placedW (l.take i) x.path && mayGo (l.take (i + 1)) (l.drop (i + 1)))) := by
  obtain ⟨hlt, rfl⟩ := List.getElem?_eq_some_iff.1 hx
  have h1 : l = l.take i ++ l[i] :: l.drop (i + 1) := by
    rw [List.getElem_cons_drop, List.take_append_drop]
  have h2 : mayGo [] l = mayGo [] (l.take i ++ l[i] :: l.drop (i + 1)) := congrArg (mayGo []) h1
  rw [h2, mayGo_app, List.nil_append, mayGo, List.take_succ_eq_append_getElem hlt]
theorem may_take {l : List Rl} {i : Nat} {x : Rl} (hx : l[i]? = some x) : mayGo [] (l.take (i + 1)) = (mayGo [] (l.take i) && (ruleW x && placedW (l.take i) x.path)) := by
  obtain ⟨hlt, rfl⟩ := List.getElem?_eq_some_iff.1 hx
  rw [List.take_succ_eq_append_getElem hlt, mayGo_snoc, List.nil_append]

set_option maxRecDepth 100000 in
set_option maxHeartbeats 8000000 in
theorem may_calls {w : World} {S : Nat → Prop} {v : Value} {l : List Rl} (hl : RlsIn w S v l) (hf : ∀ r ∈ l, RlFew r) (hE : KEnv w) :
    Calls Tryz.prog 14 #[v] w (Leaves (.bool (mayW l)) w) := by
  obtain ⟨a, c, rfl, hlc, hcm, _⟩ := hl.form
  have hel := empty_len l
  unfold mayW
  obtain ⟨Q, hQ⟩ : ∃ Q, mayGo [] l = Q := ⟨_, rfl⟩
  rw [hQ]
  have HQ := Lib.hid hQ
  obtain ⟨n, hn⟩ : ∃ n, l.length = n := ⟨_, rfl⟩
  rw [hn] at hl hlc hel ⊢
  have HR := Lib.hid hl
  have HN := Lib.hid hn
  have HF := Lib.hid hf
  have HE := Lib.hid hE
  have hm : n ≤ 9223372036854775807 := by unfold maxLen at hcm; omega
  obtain ⟨q0, hq0⟩ : ∃ q, l.isEmpty = q := ⟨_, rfl⟩
  rw [hq0] at hel ⊢
  clear hl hf hE hQ hn hcm hq0
  cases q0 with
  | true =>
    rw [Bool.not_true, Bool.false_and, Bool.false_and]
    go_enter Tryz.func14, Tryz.ntmps14
    go_wp2
    go_ret
    exact ⟨rfl, Below.refl _ _⟩
  | false =>
  rw [Bool.not_false, Bool.true_and]
  by_cases h64 : n ≤ 64
  · rw [decide_eq_true h64, Bool.true_and]
    have hgt : decide ((n : Int) > 64) = false := by simp; omega
    go_enter Tryz.func14, Tryz.ntmps14
    go_wp2_with fail
    go_loopg [15] n (fun gk i wr => ∃ (j : Nat), i = .int .i64 (j : Int) ∧ gk + j = n ∧ mayGo [] (l.take j) = true ∧ Below w.heap.size w wr)
    case atStart => exact ⟨0, rfl, rfl, rfl, Below.refl _ _⟩
    case round =>
      obtain ⟨j, rfl, hg, hq, hb⟩ := hrel
      have HG := Lib.hid hg
      have HM := Lib.hid hq
      have HB := Lib.hid hb
      clear hg hq hb
      by_cases hlt : j < n
      · obtain ⟨g', rfl⟩ : ∃ g', gk = g' + 1 := ⟨gk - 1, by have := HG.out; omega⟩
        have hdd : decide ((j : Int) < (n : Int)) = true := by simp; omega
        have hji : (j : Int) < (n : Int) := by omega
        have hjc : j ≤ c := by omega
        obtain ⟨x, hx⟩ : ∃ x, l[j]? = some x := ⟨l[j]'(by rw [HN.out]; exact hlt), List.getElem?_eq_getElem _⟩
        have hst := may_step hx
        have htk := may_take hx
        rw [HM.out, Bool.true_and] at hst htk
        have hfx := HF.out x (List.mem_of_getElem? hx)
        obtain ⟨b, o, pv, kv, rfl, c0, c1, hpv, hkv⟩ := (HR.out.below HB.out).at hx
        obtain ⟨Wr, hWr⟩ : ∃ Wr, wr.alloc (.cells #[pv, kv] 38) = Wr := ⟨_, rfl⟩
        have hbr : Below wr.heap.size wr Wr := by rw [← hWr]; exact (Below.refl _ _).alloc (Nat.le_refl _) _
        have hkr : Wr.heap[wr.heap.size]? = some (.cells #[pv, kv] 38 (0, 0)) := by rw [← hWr]; exact heap_alloc_new _ _
        have d0 : Wr.cell? ⟨wr.heap.size, 0, none⟩ = some pv := (cell_of_block hkr 0).trans rfl
        have d1 : Wr.cell? ⟨wr.heap.size, 1, none⟩ = some kv := (cell_of_block hkr 1).trans rfl
        have hb2 := below_then HB.out hbr
        have cF0 := fun dq os => Calls.regrown_of (fair_calls ((hpv.below hbr).below (below_regrown Wr dq os)) ((hkv.below hbr).below (below_regrown Wr dq os)) hfx ((HE.out.below hb2).below (below_regrown Wr dq os)))
        have k0 := fun dq os => cell_regrown d0 dq os
        have k1 := fun dq os => cell_regrown d1 dq os
        have hRl := (HR.out.below hb2).take (k := j) (by omega)
        have hpvr := hpv.below hbr
        obtain ⟨pa, pc, rfl, _⟩ := hpv.form
        obtain ⟨ka, kc, rfl, _⟩ := hkv.form
        obtain ⟨n1, hn1⟩ : ∃ n1, x.path.length = n1 := ⟨_, rfl⟩
        obtain ⟨n2, hn2⟩ : ∃ n2, x.keys.length = n2 := ⟨_, rfl⟩
        rw [hn1] at c0 d0 k0 cF0 hpvr hWr
        rw [hn2] at c1 d1 k1 cF0 hWr
        have HB2 := Lib.hid hb2
        have HWR := Lib.hid hWr
        obtain ⟨q1, hq1⟩ : ∃ q, ruleW x = q := ⟨_, rfl⟩
        rw [hq1] at cF0 hst htk
        cases q1 with
        | false =>
          have HI : Hid (Q = false) := Lib.hid (by rw [← HQ.out, hst]; rfl)
          have cF := fun dq os => cF0 dq os
          clear hx hst htk hfx hpv hkv hbr hkr d0 d1 hb2 hWr hq1 hn1 hn2 hRl hpvr cF0
          go_upto_region 6 with (fail)
          rw [HWR.out]
          refine wp_region_quiet_below (by kernel_rfl) (by kernel_rfl) ?_
          repeat (go_big_quiet_step (with_reducible exact cF _ _))
          refine wpQuiet_nil ?_
          intro _ hw'
          obtain ⟨⟨dq, osq⟩, hw''⟩ := hw'
          subst hw''
          go_wp2_with fail
          go_ret
          exact ⟨by rw [HI.out]; rfl, below_then HB2.out (below_regrown Wr dq osq)⟩
        | true =>
          have cS0 := fun dq os => Calls.regrown_of (stands_calls (hRl.below (below_regrown Wr dq os)) (hpvr.below (below_regrown Wr dq os)) (ruleW_path hq1))
          rw [Bool.true_and] at hst htk
          obtain ⟨q2, hq2⟩ : ∃ q, placedW (l.take j) x.path = q := ⟨_, rfl⟩
          rw [hq2] at cS0 hst htk
          have cF := fun dq os => cF0 dq os
          have cS := fun dq os => cS0 dq os
          have HHT := Lib.hid htk
          have HST := Lib.hid hst
          clear hx hst htk hfx hpv hkv hbr hkr d0 d1 hb2 hWr hq1 hn1 hn2 hRl hpvr cF0 cS0 hq2
          cases q2 with
          | false =>
            have HI : Hid (Q = false) := Lib.hid (by rw [← HQ.out, HST.out]; rfl)
            go_upto_region 6 with (fail)
            rw [HWR.out]
            refine wp_region_quiet_below (by kernel_rfl) (by kernel_rfl) ?_
            repeat (go_big_quiet_step (first | with_reducible exact cF _ _ | with_reducible exact cS _ _))
            refine wpQuiet_nil ?_
            intro _ hw'
            obtain ⟨⟨dq, osq⟩, hw''⟩ := hw'
            subst hw''
            go_wp2_with fail
            go_ret
            exact ⟨by rw [HI.out]; rfl, below_then HB2.out (below_regrown Wr dq osq)⟩
          | true =>
            go_upto_region 6 with (fail)
            rw [HWR.out]
            refine wp_region_quiet_below (by kernel_rfl) (by kernel_rfl) ?_
            repeat (go_big_quiet_step (first | with_reducible exact cF _ _ | with_reducible exact cS _ _))
            refine wpQuiet_nil ?_
            intro _ hw'
            obtain ⟨⟨dq, osq⟩, hw''⟩ := hw'
            subst hw''
            go_wp2_with fail
            go_roundg g'
            case measure => omega
            case rel => exact ⟨j + 1, by go_num, by have := HG.out; omega, HHT.out, below_then HB2.out (below_regrown Wr dq osq)⟩
      · have hdd : decide ((j : Int) < (n : Int)) = false := by simp; omega
        have HI : Hid (Q = true) := Lib.hid (by
          have h1 := HM.out
          rw [List.take_of_length_le (by have := HN.out; omega)] at h1
          rw [← HQ.out, h1])
        go_wp2
        go_ret
        exact ⟨by rw [HI.out]; rfl, HB.out⟩
  · rw [decide_eq_false h64, Bool.false_and]
    have hgt : decide ((n : Int) > 64) = true := by simp; omega
    go_enter Tryz.func14, Tryz.ntmps14
    go_wp2
    go_ret
    exact ⟨rfl, Below.refl _ _⟩

end Go.Proofs.YtojpjhfafbdpcaaGreatDoor
