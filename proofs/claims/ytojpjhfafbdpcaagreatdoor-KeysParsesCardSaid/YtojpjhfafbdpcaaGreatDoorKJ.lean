/-
  Frontiers, the rule of a path by the reference, and whether the rule of a path may stand behind others, told by the program and by the reference. Condition: the slices lead to what they are said to.
-/
import Derived.Test.YtojpjhfafbdpcaaGreatDoorKI
namespace Go.Proofs.YtojpjhfafbdpcaaGreatDoor
open Go.RowKit Go.Lib Go.Joins

/-- Does a rule's path begin with a path, and go on? -/
def onP (p : List (List UInt8)) (r : Rl) : Bool := decide (p.length < r.path.length) && sameS (r.path.take p.length) p
theorem any_onP (l : List Rl) (p : List (List UInt8)) : (l.any fun r => decide (p.length < r.path.length) && r.path.take p.length == p) = l.any (onP p) := by
  unfold onP
  exact congrArg l.any (funext fun r => by rw [sameS_beq])
theorem frontW_eq (l : List Rl) (p : List (List UInt8)) : frontW l p = (has l p && !l.any (onP p)) := by
  unfold frontW
  rw [any_onP]

set_option maxRecDepth 100000 in
set_option maxHeartbeats 4000000 in
theorem cl_front {wb : World} {S : Nat → Prop} {bp : Nat} {pv : Value} {p : List (List UInt8)} (hk : wb.heap[bp]? = some (.cells #[pv] 36 (0, 0))) (hp : StrIn wb S pv p) :
    RPred wb (.func (.func 43) #[] #[.pointer (some ⟨bp, 0, none⟩)]) (onP p) := by
  refine ⟨_, _, rfl, enters_of Tryz.func43 (by kernel_rfl) rfl, fun W rv kv x hb hx hy => ?_⟩
  obtain ⟨a3, c3, rfl, hlc3, hm3, _⟩ := hp.form
  have hk2 := block_below hb hk
  obtain ⟨W1, hW1⟩ : ∃ W1, W.alloc (.cells #[rv, kv] 38) = W1 := ⟨_, rfl⟩
  have hb1 : Below W.heap.size W W1 := by rw [← hW1]; exact (Below.refl _ _).alloc (Nat.le_refl _) _
  have c0 : W1.cell? ⟨bp, 0, none⟩ = some (.slice a3 p.length c3) := (cell_of_block (block_below hb1 hk2) 0).trans rfl
  have r0 : W1.cell? ⟨W.heap.size, 0, none⟩ = some rv := by rw [← hW1]; exact (cell_of_block (heap_alloc_new _ _) 0).trans rfl
  obtain ⟨a1, c1, rfl, hlc1, hm1, _⟩ := hx.form
  obtain ⟨a2, c2, rfl, _⟩ := hy.form
  have HX := Lib.hid (hx.below hb1)
  have HP := Lib.hid ((hp.below hb).below hb1)
  have HW1 := Lib.hid hW1
  have HB1 := Lib.hid hb1
  unfold onP
  obtain ⟨n, hn⟩ : ∃ n, x.path.length = n := ⟨_, rfl⟩
  obtain ⟨m, hm⟩ : ∃ n, p.length = n := ⟨_, rfl⟩
  rw [hn] at hlc1 r0 HX HW1 ⊢
  rw [hm] at hlc3 c0 HP ⊢
  have hn64 : n ≤ 9223372036854775807 := by unfold maxLen at hm1; omega
  have hm64 : m ≤ 9223372036854775807 := by unfold maxLen at hm3; omega
  show Calls Tryz.prog 43 #[.agg #[_, _], .pointer (some ⟨bp, 0, none⟩)] W (Leaves (.bool _) W)
  by_cases hlt : m < n
  · have HE := Lib.hid (fun dq os => Calls.regrown_of (eqS_calls ((HX.out.take (k := m) (by omega)).below (below_regrown W1 dq os)) (HP.out.below (below_regrown W1 dq os))))
    rw [decide_eq_true hlt, Bool.true_and]
    obtain ⟨q, hq⟩ : ∃ q, sameS (x.path.take m) p = q := ⟨_, rfl⟩
    rw [hq] at HE ⊢
    have cE := fun dq os => HE.out dq os
    have k0 := fun dq os => cell_regrown c0 dq os
    have k1 := fun dq os => cell_regrown r0 dq os
    have hd : decide ((n : Int) > (m : Int)) = true := by simp; omega
    have hd2 : decide (m < n) = true := by simp; omega
    have hmc : m ≤ c1 := by omega
    clear hk hb hx hy hp hk2 hb1 hW1 hq hn hm c0 r0 HX HP
    go_enter Tryz.func43, Tryz.ntmps43
    go_upto_region 1 with (fail)
    rw [HW1.out]
    refine wp_region_quiet_below (by kernel_rfl) (by kernel_rfl) ?_
    repeat (go_big_quiet_step (with_reducible exact cE _ _))
    refine wpQuiet_nil ?_
    intro _ hw'
    obtain ⟨⟨dq, osq⟩, hw''⟩ := hw'
    subst hw''
    go_wp2_with fail
    go_ret
    exact ⟨rfl, below_then HB1.out (below_regrown W1 dq osq)⟩
  · rw [decide_eq_false hlt, Bool.false_and]
    have k0 := fun dq os => cell_regrown c0 dq os
    have k1 := fun dq os => cell_regrown r0 dq os
    have hd : decide ((n : Int) > (m : Int)) = false := by simp; omega
    have hd2 : decide (m < n) = false := by simp; omega
    clear hk hb hx hy hp hk2 hb1 hW1 hn hm c0 r0 HX HP
    go_enter Tryz.func43, Tryz.ntmps43
    go_upto_region 1 with (fail)
    rw [HW1.out]
    refine wp_region_quiet_below (by kernel_rfl) (by kernel_rfl) ?_
    repeat (go_big_quiet_step (fail))
    refine wpQuiet_nil ?_
    intro _ hw'
    obtain ⟨⟨dq, osq⟩, hw''⟩ := hw'
    subst hw''
    go_wp2_with fail
    go_ret
    exact ⟨rfl, below_then HB1.out (below_regrown W1 dq osq)⟩

set_option maxRecDepth 100000 in
set_option maxHeartbeats 2000000 in
theorem cfuncR_calls {S : Nat → Prop} {wb : World} {v f : Value} {l : List Rl} {p : Rl → Bool} {w : World} (hr : RlsIn w S v l) (hp : RPred wb f p) (hb : Below wb.heap.size wb w) :
    Calls Tryz.prog 42 #[v, f] w (Leaves (.bool (l.any p)) w) := by
  have HI := Lib.hid (ifuncR_calls hr hp hb)
  obtain ⟨g, lb, rfl, _, _⟩ := hp
  obtain ⟨a, c, rfl, _⟩ := hr.form
  rcases idxI_cases l p with ⟨i, x, h1, _, _, h2, _⟩ | ⟨h1, h2⟩
  · rw [h1] at HI
    rw [h2]
    have hd : decide ((i : Int) ≥ 0) = true := by simp
    clear hr hb h1 h2
    go_enter Tryz.func42, Tryz.ntmps42
    go_wp2_with fail
    with_reducible refine HI.out.mono ?_
    rintro e w2 ⟨rfl, hb2⟩
    have HB := Lib.hid hb2
    clear hb2
    go_wp2
    go_ret
    exact ⟨rfl, HB.out⟩
  · rw [h1] at HI
    rw [h2]
    clear hr hb h1 h2
    go_enter Tryz.func42, Tryz.ntmps42
    go_wp2_with fail
    with_reducible refine HI.out.mono ?_
    rintro e w2 ⟨rfl, hb2⟩
    have HB := Lib.hid hb2
    clear hb2
    go_wp2
    go_ret
    exact ⟨rfl, HB.out⟩

set_option maxRecDepth 100000 in
set_option maxHeartbeats 2000000 in
theorem front_calls {w : World} {S S' : Nat → Prop} {v pv : Value} {l : List Rl} {p : List (List UInt8)} (hl : RlsIn w S v l) (hp : StrIn w S' pv p) :
    Calls Tryz.prog 21 #[v, pv] w (Leaves (.bool (frontW l p)) w) := by
  obtain ⟨W1, hW1⟩ : ∃ W1, w.alloc (.cells #[pv] 36) = W1 := ⟨_, rfl⟩
  have hb1 : Below w.heap.size w W1 := by rw [← hW1]; exact (Below.refl _ _).alloc (Nat.le_refl _) _
  have hk : W1.heap[w.heap.size]? = some (.cells #[pv] 36 (0, 0)) := by rw [← hW1]; exact heap_alloc_new _ _
  have HP := Lib.hid (place_calls (hl.below hb1) (hp.below hb1))
  have HC := Lib.hid (fun (W2 : World) (hb2 : Below W1.heap.size W1 W2) => cfuncR_calls ((hl.below hb1).below hb2) (cl_front hk (hp.below hb1)) hb2)
  have HW1 := Lib.hid hW1
  have HB1 := Lib.hid hb1
  obtain ⟨a1, c1, rfl, _⟩ := hl.form
  obtain ⟨a2, c2, rfl, _⟩ := hp.form
  rw [frontW_eq]
  obtain ⟨q, hq⟩ : ∃ q, l.any (onP p) = q := ⟨_, rfl⟩
  rw [hq] at HC ⊢
  rcases placeI_cases l p with ⟨i, x, h1, _, _, h2, _⟩ | ⟨h1, h2⟩
  · rw [h1] at HP
    rw [h2, Bool.true_and]
    have hd : decide ((i : Int) ≥ 0) = true := by simp
    clear hl hp hb1 hW1 hk h1 h2 hq
    go_enter Tryz.func21, Tryz.ntmps21
    go_wp2_with fail
    rw [HW1.out]
    with_reducible refine HP.out.mono ?_
    rintro e w2 ⟨rfl, hb2⟩
    have HB := Lib.hid (below_then HB1.out hb2)
    have HC2 := Lib.hid (HC.out w2 hb2)
    clear hb2 HC
    go_wp2_with fail
    with_reducible refine HC2.out.mono ?_
    rintro e w3 ⟨rfl, hb3⟩
    have HB3 := Lib.hid (below_then HB.out hb3)
    clear hb3
    go_wp2
    go_ret
    exact ⟨rfl, HB3.out⟩
  · rw [h1] at HP
    rw [h2, Bool.false_and]
    clear hl hp hb1 hW1 hk h1 h2 hq
    go_enter Tryz.func21, Tryz.ntmps21
    go_wp2_with fail
    rw [HW1.out]
    with_reducible refine HP.out.mono ?_
    rintro e w2 ⟨rfl, hb2⟩
    have HB := Lib.hid (below_then HB1.out hb2)
    clear hb2
    go_wp2
    go_ret
    exact ⟨rfl, HB.out⟩

/-! ### the reference -/
set_option maxRecDepth 100000 in
set_option maxHeartbeats 4000000 in
theorem rfind_calls {S S' : Nat → Prop} {v pv : Value} {l : List Rl} {p : List (List UInt8)} {w : World} (hr : RlsIn w S v l) (hp : StrIn w S' pv p) :
    Calls Tryz.prog 17 #[v, pv] w (Leaves (.int .i64 (placeI l p)) w) := by
  obtain ⟨a, c, rfl, hlc, hcm, hnil⟩ := hr.form
  obtain ⟨n, hn⟩ : ∃ n, l.length = n := ⟨_, rfl⟩
  rw [hn] at hr hlc ⊢
  obtain ⟨Z, hZ⟩ : ∃ Z, placeI l p = Z := ⟨_, rfl⟩
  rw [hZ]
  have HZ : Hid (idxI l (atP p) = Z) := Lib.hid hZ
  have HR := Lib.hid hr
  have HN := Lib.hid hn
  have HP := Lib.hid hp
  have hm : n ≤ 9223372036854775807 := by unfold maxLen at hcm; omega
  obtain ⟨a2, c2, rfl, _⟩ := hp.form
  clear hr hn hp hZ hnil hlc hcm
  go_enter Tryz.func17, Tryz.ntmps17
  go_wp2
  go_loopg [5] n (fun gk idx wr => ∃ (i : Nat), idx = .int .i64 (i : Int) ∧ gk + i = n ∧ (∀ j x, j < i → l[j]? = some x → atP p x = false) ∧ Below w.heap.size w wr)
  case atStart => exact ⟨0, rfl, rfl, (fun j x h => absurd h (Nat.not_lt_zero _)), Below.refl _ _⟩
  case round =>
    obtain ⟨i, rfl, hg, hf, hbw⟩ := hrel
    have HG := Lib.hid hg
    have HF := Lib.hid hf
    have HBW := Lib.hid hbw
    clear hg hf hbw
    by_cases hlt : i < n
    · obtain ⟨g', rfl⟩ : ∃ g', gk = g' + 1 := ⟨gk - 1, by have := HG.out; omega⟩
      have hdd : decide ((i : Int) < (n : Int)) = true := by simp; omega
      obtain ⟨x, hx⟩ : ∃ x, l[i]? = some x := ⟨l[i]'(by rw [HN.out]; exact hlt), List.getElem?_eq_getElem _⟩
      obtain ⟨ab, ao, rv, kv, rfl, c0, c1, hrv, hkv⟩ := (HR.out.below HBW.out).at hx
      have HC := Lib.hid (texts_calls hrv (HP.out.below HBW.out))
      obtain ⟨a3, c3, rfl, _⟩ := hrv.form
      have HX := Lib.hid hx
      obtain ⟨q, hq⟩ : ∃ q, sameS x.path p = q := ⟨_, rfl⟩
      rw [hq] at HC
      have HQ : Hid (atP p x = q) := Lib.hid hq
      clear hx hq hrv hkv
      go_wp2_with fail
      with_reducible refine HC.out.mono ?_
      rintro e w2 ⟨rfl, hb2⟩
      have HB2 := Lib.hid (below_then HBW.out hb2)
      clear hb2 HC
      cases q with
      | true =>
        have HI : Hid (Z = (i : Int)) := Lib.hid (by rw [← HZ.out]; exact idxI_some HX.out HQ.out HF.out)
        go_wp2
        go_ret
        exact ⟨by rw [HI.out]; rfl, HB2.out⟩
      | false =>
        go_wp2
        go_roundg g'
        case measure => omega
        case rel =>
          refine ⟨i + 1, by go_num, by have := HG.out; omega, fun j y hj hy => ?_, HB2.out⟩
          by_cases hji : j = i
          · subst hji
            have h1 := HX.out
            rw [h1] at hy
            rw [← Option.some.inj hy]
            exact HQ.out
          · exact HF.out j y (by omega) hy
    · have hdd : decide ((i : Int) < (n : Int)) = false := by simp; omega
      have HI : Hid (Z = -1) := Lib.hid (by
        rw [← HZ.out]
        refine idxI_none (fun j y hy => ?_)
        have := (List.getElem?_eq_some_iff.1 hy).1
        rw [HN.out] at this
        exact HF.out j y (by have := HG.out; omega) hy)
      go_wp2
      go_ret
      exact ⟨by rw [HI.out]; rfl, HBW.out⟩

theorem anyR_take {l : List Rl} {p : Rl → Bool} {i : Nat} {x : Rl} (hx : l[i]? = some x) : (l.take (i + 1)).any p = ((l.take i).any p || p x) := by
  obtain ⟨hlt, rfl⟩ := List.getElem?_eq_some_iff.1 hx
  rw [List.take_succ_eq_append_getElem hlt, List.any_append]
  simp
set_option maxRecDepth 100000 in
set_option maxHeartbeats 4000000 in
theorem rfront_calls {S S' : Nat → Prop} {v pv : Value} {l : List Rl} {p : List (List UInt8)} {w : World} (hr : RlsIn w S v l) (hp : StrIn w S' pv p) :
    Calls Tryz.prog 22 #[v, pv] w (Leaves (.bool (frontW l p)) w) := by
  obtain ⟨a, c, rfl, hlc, hcm, hnil⟩ := hr.form
  obtain ⟨n, hn⟩ : ∃ n, l.length = n := ⟨_, rfl⟩
  rw [hn] at hr hlc ⊢
  rw [frontW_eq]
  have HR := Lib.hid hr
  have HN := Lib.hid hn
  have HP := Lib.hid hp
  have hm : n ≤ 9223372036854775807 := by unfold maxLen at hcm; omega
  obtain ⟨a2, c2, rfl, hlc2, hcm2, _⟩ := hp.form
  obtain ⟨m, hm2⟩ : ∃ m, p.length = m := ⟨_, rfl⟩
  have hm3 : m ≤ 9223372036854775807 := by unfold maxLen at hcm2; omega
  rw [hm2] at HP ⊢
  have HM := Lib.hid hm2
  obtain ⟨Q, hQ⟩ : ∃ Q, (has l p && !l.any (onP p)) = Q := ⟨_, rfl⟩
  rw [hQ]
  have HQ0 := Lib.hid hQ
  clear hr hn hp hnil hlc hcm hlc2 hcm2 hm2 hQ
  go_enter Tryz.func22, Tryz.ntmps22
  go_wp2
  go_loopg [5] n (fun gk idx wr => ∃ (i : Nat), idx = .int .i64 (i : Int) ∧ gk + i = n ∧ (l.take i).any (onP p) = false ∧ Below w.heap.size w wr)
  case atStart => exact ⟨0, rfl, rfl, rfl, Below.refl _ _⟩
  case round =>
    obtain ⟨i, rfl, hg, hf, hbw⟩ := hrel
    have HG := Lib.hid hg
    have HF := Lib.hid hf
    have HBW := Lib.hid hbw
    clear hg hf hbw
    by_cases hlt : i < n
    · obtain ⟨g', rfl⟩ : ∃ g', gk = g' + 1 := ⟨gk - 1, by have := HG.out; omega⟩
      have hdd : decide ((i : Int) < (n : Int)) = true := by simp; omega
      obtain ⟨x, hx⟩ : ∃ x, l[i]? = some x := ⟨l[i]'(by rw [HN.out]; exact hlt), List.getElem?_eq_getElem _⟩
      obtain ⟨ab, ao, rv, kv, rfl, c0, c1, hrv, hkv⟩ := (HR.out.below HBW.out).at hx
      obtain ⟨a3, c3, rfl, hlc3, hm3, _⟩ := hrv.form
      have HRV := Lib.hid hrv
      have HX : Hid ((l.take (i + 1)).any (onP p) = onP p x) := Lib.hid (by rw [anyR_take hx, HF.out, Bool.false_or])
      have HIN : Hid (x ∈ l) := Lib.hid (List.mem_of_getElem? hx)
      clear hx hrv hkv
      obtain ⟨k, hk⟩ : ∃ k, x.path.length = k := ⟨_, rfl⟩
      rw [hk] at HRV hlc3 c0
      have hk64 : k ≤ 9223372036854775807 := by unfold maxLen at hm3; omega
      by_cases hmk : m < k
      · have HC := Lib.hid (texts_calls (HRV.out.take (k := m) (by omega)) (HP.out.below HBW.out))
        obtain ⟨q, hq⟩ : ∃ q, sameS (x.path.take m) p = q := ⟨_, rfl⟩
        rw [hq] at HC
        have HQ : Hid (onP p x = q) := Lib.hid (by unfold onP; rw [HM.out, hk, decide_eq_true hmk, hq, Bool.true_and])
        have hd : decide ((k : Int) > (m : Int)) = true := by simp; omega
        have hd2 : decide (m < k) = true := by simp; omega
        have hmc : m ≤ c3 := by omega
        clear hk hq hlc3 hm3
        go_wp2_with fail
        with_reducible refine HC.out.mono ?_
        rintro e w2 ⟨rfl, hb2⟩
        have HB2 := Lib.hid (below_then HBW.out hb2)
        clear hb2 HC
        cases q with
        | true =>
          have HI : Hid (Q = false) := Lib.hid (by
            rw [← HQ0.out, List.any_eq_true.2 ⟨x, HIN.out, HQ.out⟩, Bool.not_true, Bool.and_false])
          go_wp2
          go_ret
          exact ⟨by rw [HI.out]; rfl, HB2.out⟩
        | false =>
          go_wp2
          go_roundg g'
          case measure => omega
          case rel => exact ⟨i + 1, by go_num, by have := HG.out; omega, by rw [HX.out, HQ.out], HB2.out⟩
      · have HQ : Hid (onP p x = false) := Lib.hid (by unfold onP; rw [HM.out, hk, decide_eq_false hmk, Bool.false_and])
        have hd : decide ((k : Int) > (m : Int)) = false := by simp; omega
        have hd2 : decide (m < k) = false := by simp; omega
        clear hk hlc3 hm3
        go_wp2
        go_roundg g'
        case measure => omega
        case rel => exact ⟨i + 1, by go_num, by have := HG.out; omega, by rw [HX.out, HQ.out], HBW.out⟩
    · have hdd : decide ((i : Int) < (n : Int)) = false := by simp; omega
      have HI : Hid (Q = has l p) := Lib.hid (by
        have h1 := HF.out
        rw [List.take_of_length_le (by have := HG.out; have := HN.out; omega)] at h1
        rw [← HQ0.out, h1, Bool.not_false, Bool.and_true])
      have HFD := Lib.hid (rfind_calls (HR.out.below HBW.out) (HP.out.below HBW.out))
      rcases placeI_cases l p with ⟨j, x, h1, _, _, h2, _⟩ | ⟨h1, h2⟩
      · rw [h1] at HFD
        have HI2 : Hid (Q = true) := Lib.hid (HI.out.trans h2)
        have hd : decide ((j : Int) ≥ 0) = true := by simp
        clear h1 h2
        go_wp2_with fail
        with_reducible refine HFD.out.mono ?_
        rintro e w2 ⟨rfl, hb2⟩
        have HB2 := Lib.hid (below_then HBW.out hb2)
        clear hb2
        go_wp2
        go_ret
        exact ⟨by rw [HI2.out]; rfl, HB2.out⟩
      · rw [h1] at HFD
        have HI2 : Hid (Q = false) := Lib.hid (HI.out.trans h2)
        clear h1 h2
        go_wp2_with fail
        with_reducible refine HFD.out.mono ?_
        rintro e w2 ⟨rfl, hb2⟩
        have HB2 := Lib.hid (below_then HBW.out hb2)
        clear hb2
        go_wp2
        go_ret
        exact ⟨by rw [HI2.out]; rfl, HB2.out⟩

end Go.Proofs.YtojpjhfafbdpcaaGreatDoor
