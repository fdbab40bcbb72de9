/-
  KeysFrontiers: the path of a specification's rule is a frontier, or begins another rule's by one name less; the path of no rule isn't one. Conditions: the rules and the path lie in memory, none longer than 2 to the 60; the tables, the library's bound and the handle are laid.
-/
import Derived.Test.YtojpjhfafbdpcaaGreatDoorKBk
namespace Go.Proofs.YtojpjhfafbdpcaaGreatDoor
open Go.RowKit Go.Lib Go.Joins Go.Shelf

/-- Does a rule's path begin so, with one name more? -/
def onN (p : List (List UInt8)) (r : Rl) : Bool := decide (r.path.length = p.length + 1) && sameS (r.path.take p.length) p
theorem mayGo_up : ∀ {l pre : List Rl}, mayGo pre l = true → ∀ r ∈ l, r.path.length = 1 ∨ has (pre ++ l) r.path.dropLast = true
  | x :: t, pre, h, r, hr => by
    rw [mayGo, Bool.and_eq_true, Bool.and_eq_true] at h
    rcases List.mem_cons.1 hr with rfl | hr
    · have h1 := h.1.2
      unfold placedW at h1
      by_cases h2 : r.path.length = 1
      · exact .inl h2
      · rw [if_neg h2, Bool.and_eq_true] at h1
        right
        unfold has at h1 ⊢
        rw [List.any_append, h1.1, Bool.true_or]
    · rcases mayGo_up h.2 r hr with h1 | h1
      · exact .inl h1
      · right
        rw [List.append_assoc, List.singleton_append] at h1
        exact h1
theorem take_dropLast {α : Type} {l : List α} {n : Nat} (h : n < l.length) : l.dropLast.take n = l.take n := by
  rw [List.dropLast_eq_take, List.take_take]
  congr 1
  omega
theorem above_any {l : List Rl} (h : mayGo [] l = true) (p : List (List UInt8)) (hp : p ≠ []) : ∀ (m : Nat) (r : Rl), r ∈ l → r.path.length = m → p.length < m → r.path.take p.length = p → ∃ s ∈ l, s.path.length = p.length + 1 ∧ s.path.take p.length = p
  | 0, r, _, _, h3, _ => by omega
  | m + 1, r, h1, h2, h3, h4 => by
    by_cases h5 : m = p.length
    · exact ⟨r, h1, by omega, h4⟩
    · have h0 : 0 < p.length := List.length_pos_iff.2 hp
      rcases mayGo_up h r h1 with h6 | h6
      · omega
      · rw [List.nil_append] at h6
        unfold has at h6
        obtain ⟨s, hs, he⟩ := List.any_eq_true.1 h6
        have he2 : s.path = r.path.dropLast := by simpa using he
        refine above_any h p hp m s hs (by rw [he2, List.length_dropLast]; omega) (by omega) ?_
        rw [he2, take_dropLast (by omega)]
        exact h4
theorem front_rule {l : List Rl} (h : mayW l = true) {x : Rl} (hx : x ∈ l) : frontW l x.path = !(l.any (onN x.path)) := by
  have hg := (mayW_parts h).2.2
  have hr := mayGo_rules hg x hx
  rw [frontW_eq]
  have h1 : has l x.path = true := by
    unfold has
    exact List.any_eq_true.2 ⟨x, hx, by simp⟩
  rw [h1, Bool.true_and]
  congr 1
  rw [Bool.eq_iff_iff, List.any_eq_true, List.any_eq_true]
  constructor
  · rintro ⟨r, hr1, hr2⟩
    unfold onP sameS at hr2
    rw [Bool.and_eq_true, decide_eq_true_eq, decide_eq_true_eq] at hr2
    obtain ⟨s, h2, h3, h4⟩ := above_any hg x.path (ruleW_path hr) _ r hr1 rfl hr2.1 hr2.2
    refine ⟨s, h2, ?_⟩
    unfold onN sameS
    rw [Bool.and_eq_true, decide_eq_true_eq, decide_eq_true_eq]
    exact ⟨h3, h4⟩
  · rintro ⟨r, hr1, hr2⟩
    unfold onN sameS at hr2
    rw [Bool.and_eq_true, decide_eq_true_eq, decide_eq_true_eq] at hr2
    refine ⟨r, hr1, ?_⟩
    unfold onP sameS
    rw [Bool.and_eq_true, decide_eq_true_eq, decide_eq_true_eq]
    exact ⟨by omega, hr2.2⟩
theorem anyN_take {l : List Rl} {k : Nat} {x : Rl} {f : Rl → Bool} (hx : l[k]? = some x) : (l.take (k + 1)).any f = ((l.take k).any f || f x) := by
  rw [List.take_add_one, hx, Option.toList_some, List.any_append]
  simp

set_option maxRecDepth 100000 in
set_option maxHeartbeats 16000000 in
theorem fronts_calls {w : World} {S S' : Nat → Prop} {v pv : Value} {l : List Rl} {p : List (List UInt8)} (hl : RlsIn w S v l) (hb : ∀ r ∈ l, RlBig r) (hp : StrIn w S' pv p) (_hpb : p.length ≤ reachBytes ∧ ∀ x ∈ p, x.length ≤ reachBytes) (hE : AwE w) :
    Calls Tryz.prog 6 #[v, pv] w (Leaves (.bool true) w) := by
  have HAW := Lib.hid (awake_calls w hE)
  have HSM := Lib.hid (fun (W : World) (hb1 : Below w.heap.size w W) => small_calls (hl.below hb1) hb)
  have HL := Lib.hid hl
  have HP := Lib.hid hp
  obtain ⟨a, c, rfl, hlc, hcm, _⟩ := hl.form
  obtain ⟨a2, c2, rfl, hlc2, hcm2, _⟩ := hp.form
  obtain ⟨n, hn⟩ : ∃ n, l.length = n := ⟨_, rfl⟩
  obtain ⟨z, hz⟩ : ∃ z, p.length = z := ⟨_, rfl⟩
  have HN := Lib.hid hn
  rw [hn] at HL HSM hlc ⊢
  rw [hz] at HP hlc2 ⊢
  have hm : n ≤ 9223372036854775807 := by unfold maxLen at hcm; omega
  have hm2 : z ≤ 9223372036854775807 := by unfold maxLen at hcm2; omega
  obtain ⟨q1, hq1⟩ : ∃ q, smallGo 0 l = q := ⟨_, rfl⟩
  rw [hq1] at HSM
  clear hl hp hb hE hn hz hcm hcm2 _hpb
  cases q1 with
  | false =>
    clear hq1
    go_enter Tryz.func6, Tryz.ntmps6
    go_wp2_with fail
    with_reducible refine HAW.out.mono ?_
    rintro e w1 ⟨rfl, hb1⟩
    have HB1 := Lib.hid hb1
    clear hb1
    go_wp2_with fail
    with_reducible refine (HSM.out w1 HB1.out).mono ?_
    rintro e w2 ⟨rfl, hb2⟩
    have HB2 := Lib.hid (below_then HB1.out hb2)
    clear hb2
    go_wp2
    go_ret
    exact ⟨rfl, HB2.out⟩
  | true =>
    obtain ⟨hfew, hlen, hsum⟩ := small_few hq1
    obtain ⟨_, hpk⟩ := small_text hq1
    have HMY := Lib.hid (fun (W : World) (hb1 : Below w.heap.size w W) => rmay_calls (HL.out.below hb1) hfew)
    have HPK := Lib.hid hpk
    obtain ⟨q2, hq2⟩ : ∃ q, mayW l = q := ⟨_, rfl⟩
    rw [hq2] at HMY
    clear hq1 hfew hpk hsum
    cases q2 with
    | false =>
      clear hq2
      go_enter Tryz.func6, Tryz.ntmps6
      go_wp2_with fail
      with_reducible refine HAW.out.mono ?_
      rintro e w1 ⟨rfl, hb1⟩
      have HB1 := Lib.hid hb1
      clear hb1
      go_wp2_with fail
      with_reducible refine (HSM.out w1 HB1.out).mono ?_
      rintro e w2 ⟨rfl, hb2⟩
      have HB2 := Lib.hid (below_then HB1.out hb2)
      clear hb2
      go_wp2_with fail
      with_reducible refine (HMY.out w2 HB2.out).mono ?_
      rintro e w3 ⟨rfl, hb3⟩
      have HB3 := Lib.hid (below_then HB2.out hb3)
      clear hb3
      go_wp2
      go_ret
      exact ⟨rfl, HB3.out⟩
    | true =>
      have HM := Lib.hid hq2
      clear hq2
      by_cases hbig : 100 < z
      · have hdz : decide ((z : Int) > 100) = true := by simp; omega
        go_enter Tryz.func6, Tryz.ntmps6
        go_wp2_with fail
        with_reducible refine HAW.out.mono ?_
        rintro e w1 ⟨rfl, hb1⟩
        have HB1 := Lib.hid hb1
        clear hb1
        go_wp2_with fail
        with_reducible refine (HSM.out w1 HB1.out).mono ?_
        rintro e w2 ⟨rfl, hb2⟩
        have HB2 := Lib.hid (below_then HB1.out hb2)
        clear hb2
        go_wp2_with fail
        with_reducible refine (HMY.out w2 HB2.out).mono ?_
        rintro e w3 ⟨rfl, hb3⟩
        have HB3 := Lib.hid (below_then HB2.out hb3)
        clear hb3
        go_wp2
        go_ret
        exact ⟨rfl, HB3.out⟩
      · have hdz : decide ((z : Int) > 100) = false := by simp; omega
        go_enter Tryz.func6, Tryz.ntmps6
        go_wp2_with fail
        with_reducible refine HAW.out.mono ?_
        rintro e w1 ⟨rfl, hb1⟩
        have HB1 := Lib.hid hb1
        clear hb1
        go_wp2_with fail
        with_reducible refine (HSM.out w1 HB1.out).mono ?_
        rintro e w2 ⟨rfl, hb2⟩
        have HB2 := Lib.hid (below_then HB1.out hb2)
        clear hb2
        go_wp2_with fail
        with_reducible refine (HMY.out w2 HB2.out).mono ?_
        rintro e w3 ⟨rfl, hb3⟩
        have HB3 := Lib.hid (below_then HB2.out hb3)
        clear hb3 HB1 HB2 HAW HSM HMY
        go_wp2_with fail
        go_loopg [5] n (fun gk i wr => ∃ (j : Nat), i = .int .i64 (j : Int) ∧ gk + j = n ∧ Below w.heap.size w wr)
        case atStart => exact ⟨0, rfl, rfl, HB3.out⟩
        case round =>
          obtain ⟨j, rfl, hg, hbr⟩ := hrel
          have HG := Lib.hid hg
          have HBR := Lib.hid hbr
          clear hg hbr
          by_cases hlt : j < n
          · obtain ⟨g', rfl⟩ : ∃ g', gk = g' + 1 := ⟨gk - 1, by have := HG.out; omega⟩
            have hdd : decide ((j : Int) < (n : Int)) = true := by simp; omega
            have hji : (j : Int) < (n : Int) := by omega
            obtain ⟨x, hx⟩ : ∃ x, l[j]? = some x := ⟨l[j]'(by rw [HN.out]; exact hlt), List.getElem?_eq_getElem _⟩
            have hxm := List.mem_of_getElem? hx
            have HFA := Lib.hid (front_rule HM.out hxm)
            have hx3 := (HPK.out x hxm).1
            obtain ⟨b, o, xv, kv, hab, c0, _, hxv, _⟩ := (HL.out.below HBR.out).at hx
            subst hab
            obtain ⟨xa, xc, rfl, hxl, hxm2, _⟩ := hxv.form
            obtain ⟨n1, hn1⟩ : ∃ n1, x.path.length = n1 := ⟨_, rfl⟩
            rw [hn1] at c0 hxv hxl hx3
            have HXV := Lib.hid hxv
            have HN1 := Lib.hid hn1
            have hn3 : (n1 : Int) ≤ 3000 := by omega
            clear hx hxm hxv hn1 hxm2
            go_upto_block 2 with (fail)
            go_cut [6] (fun s W => s = .bool (l.any (onN x.path)) ∧ Below wr.heap.size wr W)
            case first =>
              go_wp2_with fail
              go_loopg [6, 7] n (fun gk s i W => ∃ (k : Nat), s = .bool ((l.take k).any (onN x.path)) ∧ i = .int .i64 (k : Int) ∧ gk + k = n ∧ Below wr.heap.size wr W)
              case atStart => exact ⟨0, rfl, rfl, rfl, Below.refl _ _⟩
              case round =>
                obtain ⟨k, rfl, rfl, hg4, hb4⟩ := hrel
                rename World => w4
                have HG4 := Lib.hid hg4
                have HB4 := Lib.hid hb4
                have e0 := (hb4.cell (lt_of_cell c0)).trans c0
                clear hg4 hb4
                by_cases hkj : k < n
                · obtain ⟨g4, rfl⟩ : ∃ g4, gk = g4 + 1 := ⟨gk - 1, by have := HG4.out; omega⟩
                  have hd4 : decide ((k : Int) < (n : Int)) = true := by simp; omega
                  have hkji : (k : Int) < (n : Int) := by omega
                  obtain ⟨y, hy⟩ : ∃ y, l[k]? = some y := ⟨l[k]'(by rw [HN.out]; exact hkj), List.getElem?_eq_getElem _⟩
                  have HSN := Lib.hid (anyN_take (f := onN x.path) hy)
                  obtain ⟨b5, o5, yv, kv5, hab5, c5, _, hyv, _⟩ := (HL.out.below (below_then HBR.out HB4.out)).at hy
                  injection hab5 with hab5
                  injection hab5 with hab5 hab6
                  subst hab5 hab6
                  obtain ⟨ya, yc, rfl, hyl, hym, _⟩ := hyv.form
                  obtain ⟨m1, hm1⟩ : ∃ m1, y.path.length = m1 := ⟨_, rfl⟩
                  rw [hm1] at c5 hyv hyl
                  have k0 := fun dq os => cell_regrown e0 dq os
                  have k5 := fun dq os => cell_regrown c5 dq os
                  obtain ⟨u, hu⟩ : ∃ u, (l.take k).any (onN x.path) = u := ⟨_, rfl⟩
                  rw [hu] at HSN ⊢
                  have hm1n : m1 ≤ 9223372036854775807 := by unfold maxLen at hym; omega
                  cases u with
                  | true =>
                    clear hy hyv hyl hym hm1 hu
                    go_upto_region 13 with (fail)
                    refine wp_region_quiet_below (by kernel_rfl) (by kernel_rfl) ?_
                    repeat (go_big_quiet_step (fail))
                    refine wpQuiet_nil ?_
                    intro _ hw'
                    obtain ⟨⟨dq, osq⟩, hw''⟩ := hw'
                    subst hw''
                    go_wp2_with fail
                    go_roundg g4
                    case measure => omega
                    case rel => exact ⟨k + 1, by rw [HSN.out]; rfl, by go_num, by have := HG4.out; omega, below_then HB4.out (below_regrown w4 dq osq)⟩
                  | false =>
                    by_cases he : m1 = n1 + 1
                    · have hee : ((m1 : Int) == (n1 : Int) + 1) = true := by rw [beq_iff_eq]; omega
                      have hn1c : n1 ≤ yc := by omega
                      have cT0 := fun dq os => Calls.regrown_of (texts_calls ((hyv.take (k := n1) (by omega)).below (below_regrown w4 dq os)) (((HXV.out.below HB4.out).below (below_regrown w4 dq os))))
                      obtain ⟨t, ht⟩ : ∃ t, sameS (y.path.take n1) x.path = t := ⟨_, rfl⟩
                      rw [ht] at cT0
                      have cT := fun dq os => cT0 dq os
                      have HON : Hid (onN x.path y = t) := Lib.hid (by unfold onN; rw [hm1, HN1.out, decide_eq_true he, Bool.true_and, ht])
                      clear hy hyv hyl hym hm1 hu ht cT0 he
                      go_upto_region 13 with (fail)
                      refine wp_region_quiet_below (by kernel_rfl) (by kernel_rfl) ?_
                      repeat (go_big_quiet_step (with_reducible exact cT _ _))
                      refine wpQuiet_nil ?_
                      intro _ hw'
                      obtain ⟨⟨dq, osq⟩, hw''⟩ := hw'
                      subst hw''
                      go_wp2_with fail
                      go_roundg g4
                      case measure => omega
                      case rel => exact ⟨k + 1, by rw [HSN.out, HON.out]; rfl, by go_num, by have := HG4.out; omega, below_then HB4.out (below_regrown w4 dq osq)⟩
                    · have hee : ((m1 : Int) == (n1 : Int) + 1) = false := by rw [beq_eq_false_iff_ne]; omega
                      have HON : Hid (onN x.path y = false) := Lib.hid (by unfold onN; rw [hm1, HN1.out, decide_eq_false he, Bool.false_and])
                      clear hy hyv hyl hym hm1 hu he
                      go_upto_region 13 with (fail)
                      refine wp_region_quiet_below (by kernel_rfl) (by kernel_rfl) ?_
                      repeat (go_big_quiet_step (fail))
                      refine wpQuiet_nil ?_
                      intro _ hw'
                      obtain ⟨⟨dq, osq⟩, hw''⟩ := hw'
                      subst hw''
                      go_wp2_with fail
                      go_roundg g4
                      case measure => omega
                      case rel => exact ⟨k + 1, by rw [HSN.out, HON.out]; rfl, by go_num, by have := HG4.out; omega, below_then HB4.out (below_regrown w4 dq osq)⟩
                · have hd4 : decide ((k : Int) < (n : Int)) = false := by simp; omega
                  have HT : Hid (l.take k = l) := Lib.hid (List.take_of_length_le (by have := HN.out; omega))
                  go_wp2_with fail
                  go_meet
                  exact ⟨by rw [HT.out], HB4.out⟩
            case rest =>
            obtain ⟨rfl, hb6⟩ := hcut
            rename World => w6
            have HB6 := Lib.hid (below_then HBR.out hb6)
            have d0 := (hb6.cell (lt_of_cell c0)).trans c0
            have HF := Lib.hid (front_calls (HL.out.below (below_then HBR.out hb6)) (HXV.out.below hb6))
            rw [HFA.out] at HF
            obtain ⟨u, hu⟩ : ∃ u, l.any (onN x.path) = u := ⟨_, rfl⟩
            rw [hu] at HF ⊢
            have huu : ((!u) == u) = false := by cases u <;> rfl
            clear hb6 hu c0
            go_wp2_with fail
            with_reducible refine HF.out.mono ?_
            rintro e w7 ⟨rfl, hb7⟩
            have HB7 := Lib.hid (below_then HB6.out hb7)
            clear hb7 HF
            go_wp2_with fail
            go_roundg g'
            case measure => omega
            case rel => exact ⟨j + 1, by go_num, by have := HG.out; omega, HB7.out⟩
          · have hdd : decide ((j : Int) < (n : Int)) = false := by simp; omega
            have HFD := Lib.hid (rfind_calls (HL.out.below HBR.out) (HP.out.below HBR.out))
            rcases placeI_cases l p with ⟨i, x, h1, _, _, _, _⟩ | ⟨h1, h2⟩
            · rw [h1] at HFD
              have hge : decide ((i : Int) ≥ 0) = true := by simp
              clear h1
              go_wp2_with fail
              with_reducible refine HFD.out.mono ?_
              rintro e w5 ⟨rfl, hb5⟩
              have HB5 := Lib.hid (below_then HBR.out hb5)
              clear hb5
              go_wp2
              go_ret
              exact ⟨rfl, HB5.out⟩
            · rw [h1] at HFD
              have HFF : Hid (∀ (W : World) (hb1 : Below w.heap.size w W), _) := Lib.hid (fun (W : World) (hb1 : Below w.heap.size w W) => front_calls (HL.out.below hb1) (HP.out.below hb1))
              have hff : frontW l p = false := by rw [frontW_eq, h2, Bool.false_and]
              rw [hff] at HFF
              clear h1 h2 hff
              go_wp2_with fail
              with_reducible refine HFD.out.mono ?_
              rintro e w5 ⟨rfl, hb5⟩
              have HB5 := Lib.hid (below_then HBR.out hb5)
              have HF5 := Lib.hid (HFF.out w5 HB5.out)
              clear hb5 HFF HFD
              go_wp2_with fail
              with_reducible refine HF5.out.mono ?_
              rintro e w6 ⟨rfl, hb6⟩
              have HB6 := Lib.hid (below_then HB5.out hb6)
              clear hb6
              go_wp2
              go_ret
              exact ⟨rfl, HB6.out⟩

end Go.Proofs.YtojpjhfafbdpcaaGreatDoor
