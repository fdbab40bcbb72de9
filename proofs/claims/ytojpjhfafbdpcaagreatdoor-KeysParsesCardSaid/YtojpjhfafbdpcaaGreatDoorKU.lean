/-
  Whether a rule may be, for itself, told by the reference. Conditions: the slices lead to what they are said to; the texts are no longer than 2 to the 30.
-/
import Derived.Test.YtojpjhfafbdpcaaGreatDoorKR
namespace Go.Proofs.YtojpjhfafbdpcaaGreatDoor
open Go.RowKit Go.Lib Go.Joins

theorem all_take {ps : List (List UInt8)} {j : Nat} {x : List UInt8} (hx : ps[j]? = some x) : (ps.take (j + 1)).all nameW = ((ps.take j).all nameW && nameW x) := by
  obtain ⟨hlt, rfl⟩ := List.getElem?_eq_some_iff.1 hx
  rw [List.take_succ_eq_append_getElem hlt, List.all_append]
  simp
theorem fresh_take {ks : List (List UInt8)} {j : Nat} {x : List UInt8} (hx : ks[j]? = some x) : freshGo [] (ks.take (j + 1)) = (freshGo [] (ks.take j) && (!(ks.take j).contains x && keyW x)) := by
  obtain ⟨hlt, rfl⟩ := List.getElem?_eq_some_iff.1 hx
  rw [List.take_succ_eq_append_getElem hlt, freshGo_snoc, List.nil_append]
theorem cont_take {ks : List (List UInt8)} {k : Nat} {x y : List UInt8} (hy : ks[k]? = some y) : (ks.take (k + 1)).contains x = ((ks.take k).contains x || x == y) := by
  obtain ⟨hlt, rfl⟩ := List.getElem?_eq_some_iff.1 hy
  rw [List.take_succ_eq_append_getElem hlt, Bool.eq_iff_iff]
  simp only [List.contains_iff_mem, List.mem_append, List.mem_singleton, Bool.or_eq_true, beq_iff_eq]
theorem strB_ne {a b : List UInt8} (h : a ≠ b) : strB a ≠ strB b := fun e => h (strB_inj e)

set_option maxRecDepth 100000 in
set_option maxHeartbeats 8000000 in
theorem rrule_calls {w : World} {S S' : Nat → Prop} {pv kv : Value} {r : Rl} (hp : StrIn w S pv r.path) (hk : StrIn w S' kv r.keys) (hf : RlFew r) :
    Calls Tryz.prog 37 #[.agg #[pv, kv]] w (Leaves (.bool (ruleW r)) w) := by
  have HQ0 : Hid (ruleW r = (((decide (0 < r.path.length) && (decide (1 < r.path.length) || decide (r.keys.length = 0))) && r.path.all nameW) && freshGo [] r.keys)) := Lib.hid (by
    rw [ruleW_eq]
    have : lenW r = (decide (0 < r.path.length) && (decide (1 < r.path.length) || decide (r.keys.length = 0))) := by
      unfold lenW
      have h0 : r.keys.isEmpty = decide (r.keys.length = 0) := by cases r.keys <;> rfl
      rw [h0, Bool.eq_iff_iff]
      simp only [Bool.or_eq_true, Bool.and_eq_true, decide_eq_true_eq]
      omega
    rw [this, Bool.and_comm (freshGo [] r.keys), Bool.and_comm (r.path.all nameW)])
  obtain ⟨FP, FK⟩ := hf
  obtain ⟨Q, hQ⟩ : ∃ Q, ruleW r = Q := ⟨_, rfl⟩
  rw [hQ] at HQ0 ⊢
  clear hQ
  obtain ⟨ps, ks⟩ := r
  dsimp only at hp hk FP FK HQ0 ⊢
  obtain ⟨pa, pc, rfl, hlp, hmp, _⟩ := hp.form
  obtain ⟨ka, kc, rfl, hlk, hmk, _⟩ := hk.form
  obtain ⟨n, hn⟩ : ∃ n, ps.length = n := ⟨_, rfl⟩
  obtain ⟨m, hm⟩ : ∃ m, ks.length = m := ⟨_, rfl⟩
  rw [hn] at HQ0 hlp hp ⊢
  rw [hm] at HQ0 hlk hk ⊢
  have hn64 : n ≤ 9223372036854775807 := by unfold maxLen at hmp; omega
  have hm64 : m ≤ 9223372036854775807 := by unfold maxLen at hmk; omega
  have HFP := Lib.hid FP
  have HFK := Lib.hid FK
  have HN := Lib.hid hn
  have HM := Lib.hid hm
  obtain ⟨L0, hL0⟩ : ∃ L0, (decide (0 < n) && (decide (1 < n) || decide (m = 0))) = L0 := ⟨_, rfl⟩
  rw [hL0] at HQ0
  obtain ⟨W1, hW1⟩ : ∃ W1, w.alloc (.cells #[.slice pa n pc, .slice ka m kc] 38) = W1 := ⟨_, rfl⟩
  have hb1 : Below w.heap.size w W1 := by rw [← hW1]; exact (Below.refl _ _).alloc (Nat.le_refl _) _
  have hkb : W1.heap[w.heap.size]? = some (.cells #[.slice pa n pc, .slice ka m kc] 38 (0, 0)) := by rw [← hW1]; exact heap_alloc_new _ _
  have HP := Lib.hid (hp.below hb1)
  have HK := Lib.hid (hk.below hb1)
  have HKB := Lib.hid hkb
  have HB1 := Lib.hid hb1
  have HW1 := Lib.hid hW1
  clear hp hk FP FK hn hm hlp hmp hlk hmk hkb hb1 hW1
  have main : ∀ K : Prop, K → K := fun _ h => h
  go_enter Tryz.func37, Tryz.ntmps37
  have gt0 : decide ((n : Int) > 0) = decide (0 < n) := by
    by_cases h : 0 < n
    · rw [decide_eq_true h, decide_eq_true (by omega)]
    · rw [decide_eq_false h, decide_eq_false (by omega)]
  have gt1 : decide ((n : Int) > 1) = decide (1 < n) := by
    by_cases h : 1 < n
    · rw [decide_eq_true h, decide_eq_true (by omega)]
    · rw [decide_eq_false h, decide_eq_false (by omega)]
  have eq0 : ((m : Int) == 0) = decide (m = 0) := by
    by_cases h : m = 0
    · rw [decide_eq_true h, beq_iff_eq]; omega
    · rw [decide_eq_false h, beq_eq_false_iff_ne]; omega
  have HG0 := Lib.hid gt0
  have HG1 := Lib.hid gt1
  have HE0 := Lib.hid eq0
  have HL0 := Lib.hid hL0
  clear gt0 gt1 eq0 hL0 main
  go_upto_region 1 with (fail)
  rw [HW1.out]
  have c0 : W1.cell? ⟨w.heap.size, 0, none⟩ = some (.slice pa n pc) := (cell_of_block HKB.out 0).trans rfl
  have c1 : W1.cell? ⟨w.heap.size, 1, none⟩ = some (.slice ka m kc) := (cell_of_block HKB.out 1).trans rfl
  go_cut [3] (fun v W => v = .bool L0 ∧ W = W1)
  case first =>
    by_cases h0 : 0 < n
    · have e0 := HG0.out.trans (decide_eq_true h0)
      by_cases h1 : 1 < n
      · have e1 := HG1.out.trans (decide_eq_true h1)
        have HI : Hid (L0 = true) := Lib.hid (by rw [← HL0.out, decide_eq_true h0, decide_eq_true h1]; rfl)
        go_wp2_with fail
        go_meet
        exact ⟨by rw [HI.out], rfl⟩
      · have e1 := HG1.out.trans (decide_eq_false h1)
        by_cases h2 : m = 0
        · have e2 := HE0.out.trans (decide_eq_true h2)
          have HI : Hid (L0 = true) := Lib.hid (by rw [← HL0.out, decide_eq_true h0, decide_eq_false h1, decide_eq_true h2]; rfl)
          have HM0 := Lib.hid h2
          clear h2
          go_wp2_with fail
          go_meet
          exact ⟨by rw [HI.out], rfl⟩
        · have e2 := HE0.out.trans (decide_eq_false h2)
          have HI : Hid (L0 = false) := Lib.hid (by rw [← HL0.out, decide_eq_true h0, decide_eq_false h1, decide_eq_false h2]; rfl)
          go_wp2_with fail
          go_meet
          exact ⟨by rw [HI.out], rfl⟩
    · have e0 := HG0.out.trans (decide_eq_false h0)
      have HI : Hid (L0 = false) := Lib.hid (by rw [← HL0.out, decide_eq_false h0]; rfl)
      go_wp2_with fail
      go_meet
      exact ⟨by rw [HI.out], rfl⟩
  case rest =>
  obtain ⟨rfl, hww⟩ := hcut
  rw [hww]
  clear hww
  go_wp2_with fail
  go_loopg [3, 4] n (fun gk v i wr => ∃ (j : Nat) (ok : Bool), v = .bool ok ∧ i = .int .i64 (j : Int) ∧ gk + j = n ∧ ok = (L0 && (ps.take j).all nameW) ∧ Below W1.heap.size W1 wr)
  case atStart => exact ⟨0, L0, rfl, rfl, rfl, by rw [List.take_zero, List.all_nil, Bool.and_true], Below.refl _ _⟩
  case round =>
    obtain ⟨j, ok, rfl, rfl, hg, hq, hb⟩ := hrel
    have HG := Lib.hid hg
    have HOK := Lib.hid hq
    have HB := Lib.hid hb
    have d0 := (hb.cell (lt_of_cell c0)).trans c0
    have d1 := (hb.cell (lt_of_cell c1)).trans c1
    clear hg hq hb c0 c1
    by_cases hlt : j < n
    · obtain ⟨g', rfl⟩ : ∃ g', gk = g' + 1 := ⟨gk - 1, by have := HG.out; omega⟩
      have hdd : decide ((j : Int) < (n : Int)) = true := by simp; omega
      have hji : (j : Int) < (n : Int) := by omega
      obtain ⟨x, hx⟩ : ∃ x, ps[j]? = some x := ⟨ps[j]'(by rw [HN.out]; exact hlt), List.getElem?_eq_getElem _⟩
      have hst := all_take hx
      cases ok with
      | true =>
        obtain ⟨b, o, rfl, c3⟩ := (HP.out.below HB.out).at hx
        have HC := Lib.hid (rname_calls x wr (by have := HFP.out x (List.mem_of_getElem? hx); omega))
        obtain ⟨q, hq⟩ : ∃ q, nameW x = q := ⟨_, rfl⟩
        rw [hq] at HC hst
        have HN2 : Hid (q = (L0 && (ps.take (j + 1)).all nameW)) := Lib.hid (by rw [hst, ← Bool.and_assoc, ← HOK.out, Bool.true_and])
        obtain ⟨z, hz⟩ : ∃ z, strB x = z := ⟨_, rfl⟩
        rw [hz] at HC c3
        clear hx hst hq hz
        go_wp2_with fail
        with_reducible refine HC.out.mono ?_
        rintro e w2 ⟨rfl, hb2⟩
        have HB2 := Lib.hid (below_then HB.out hb2)
        clear hb2 HC d0 d1
        go_wp2
        go_roundg g'
        case measure => omega
        case rel => exact ⟨j + 1, q, rfl, by go_num, by have := HG.out; omega, HN2.out, HB2.out⟩
      | false =>
        have HN2 : Hid (false = (L0 && (ps.take (j + 1)).all nameW)) := Lib.hid (by rw [hst, ← Bool.and_assoc, ← HOK.out]; rfl)
        clear hx hst
        go_wp2
        go_roundg g'
        case measure => omega
        case rel => exact ⟨j + 1, false, rfl, by go_num, by have := HG.out; omega, HN2.out, HB.out⟩
    · have hdd : decide ((j : Int) < (n : Int)) = false := by simp; omega
      have HOK2 : Hid (ok = (L0 && ps.all nameW)) := Lib.hid (by
        have h1 := HOK.out
        rw [List.take_of_length_le (by have := HN.out; omega)] at h1
        exact h1)
      clear HOK HG HP HFP
      obtain ⟨wx, hwx⟩ : ∃ wx, wx = wr := ⟨_, rfl⟩
      rw [← hwx] at HB d0 d1 ⊢
      clear hwx wr
      have HBX := Lib.hid (below_then HB1.out HB.out)
      have HKX := Lib.hid (HK.out.below HB.out)
      clear HK HB HKB
      go_wp2_with fail
      go_loopg [3, 5] m (fun gk v i wr => ∃ (j : Nat) (ok : Bool), v = .bool ok ∧ i = .int .i64 (j : Int) ∧ gk + j = m ∧ ok = ((L0 && ps.all nameW) && freshGo [] (ks.take j)) ∧ Below wx.heap.size wx wr)
      case atStart => exact ⟨0, ok, rfl, rfl, rfl, by rw [List.take_zero, freshGo, Bool.and_true]; exact HOK2.out, Below.refl _ _⟩
      case round =>
        obtain ⟨j, ok2, rfl, rfl, hg, hq, hb⟩ := hrel
        have HG := Lib.hid hg
        have HOK := Lib.hid hq
        have HB := Lib.hid hb
        have f0 := (hb.cell (lt_of_cell d0)).trans d0
        have f1 := (hb.cell (lt_of_cell d1)).trans d1
        clear hg hq hb HOK2
        by_cases hlt : j < m
        · obtain ⟨g', rfl⟩ : ∃ g', gk = g' + 1 := ⟨gk - 1, by have := HG.out; omega⟩
          have hdd : decide ((j : Int) < (m : Int)) = true := by simp; omega
          have hji : (j : Int) < (m : Int) := by omega
          obtain ⟨x, hx⟩ : ∃ x, ks[j]? = some x := ⟨ks[j]'(by rw [HM.out]; exact hlt), List.getElem?_eq_getElem _⟩
          have hst := fresh_take hx
          obtain ⟨bk, okk, hka, _⟩ := HKX.out.at hx
          subst hka
          have HX := Lib.hid hx
          have HST := Lib.hid hst
          clear hst
          go_upto_region 9 with (fail)
          go_cut [3] (fun v W => ∃ o3 : Bool, v = .bool o3 ∧ o3 = (ok2 && keyW x) ∧ Below wx.heap.size wx W)
          case first =>
            cases ok2 with
            | true =>
              obtain ⟨b, o, hbo, c3⟩ := (HKX.out.below HB.out).at hx
              injection hbo with hbo
              injection hbo with hb1 hb2 _
              subst hb1 hb2
              have HC := Lib.hid (rkey_calls x wr (by have := HFK.out x (List.mem_of_getElem? hx); omega))
              obtain ⟨q, hq⟩ : ∃ q, keyW x = q := ⟨_, rfl⟩
              rw [hq] at HC
              have HQX := Lib.hid hq
              obtain ⟨z, hz⟩ : ∃ z, strB x = z := ⟨_, rfl⟩
              rw [hz] at HC c3
              clear hx hq hz
              go_wp2_with fail
              with_reducible refine HC.out.mono ?_
              rintro e w2 ⟨rfl, hb2⟩
              have HB2 := Lib.hid (below_then HB.out hb2)
              clear hb2 HC
              go_wp2_with fail
              go_meet
              exact ⟨q, rfl, by rw [Bool.true_and, HQX.out], HB2.out⟩
            | false =>
              clear hx
              go_wp2_with fail
              go_meet
              exact ⟨false, rfl, by rw [Bool.false_and], HB.out⟩
          case rest =>
          obtain ⟨o3, rfl, ho3, hb3⟩ := hcut
          rename World => w3
          have HO3 := Lib.hid ho3
          have HB3 := Lib.hid hb3
          clear ho3 hb3 f0 f1
          go_wp2_with fail
          go_loopg [3, 6] j (fun gk v i W => ∃ (k : Nat) (o : Bool), v = .bool o ∧ i = .int .i64 (k : Int) ∧ gk + k = j ∧ o = (o3 && !(ks.take k).contains x) ∧ Below wx.heap.size wx W)
          case atStart => exact ⟨0, o3, rfl, rfl, rfl, by rw [List.take_zero]; simp, HB3.out⟩
          case round =>
            obtain ⟨k, o, rfl, rfl, hg4, hq4, hb4⟩ := hrel
            rename World => w4
            have HG4 := Lib.hid hg4
            have HO4 := Lib.hid hq4
            have HB4 := Lib.hid hb4
            have e1 := (hb4.cell (lt_of_cell d1)).trans d1
            clear hg4 hq4 hb4
            by_cases hkj : k < j
            · obtain ⟨g4, rfl⟩ : ∃ g4, gk = g4 + 1 := ⟨gk - 1, by have := HG4.out; omega⟩
              have hd4 : decide ((k : Int) < (j : Int)) = true := by simp; omega
              have hkji : (k : Int) < (j : Int) := by omega
              have hkm : (k : Int) < (m : Int) := by omega
              obtain ⟨y, hy⟩ : ∃ y, ks[k]? = some y := ⟨ks[k]'(by rw [HM.out]; omega), List.getElem?_eq_getElem _⟩
              have hct := cont_take (x := x) hy
              cases o with
              | true =>
                obtain ⟨b5, o5, hbo, c5⟩ := (HKX.out.below HB4.out).at hx
                obtain ⟨b6, o6, hbo6, c6⟩ := (HKX.out.below HB4.out).at hy
                injection hbo with hbo
                injection hbo with hb1 hb2 _
                injection hbo6 with hbo6
                injection hbo6 with hb3 hb4 _
                subst hb1 hb2 hb3 hb4
                by_cases hxy : x = y
                · have HN2 : Hid (false = (o3 && !(ks.take (k + 1)).contains x)) := Lib.hid (by rw [hct, hxy]; simp)
                  subst hxy
                  obtain ⟨z, hz⟩ : ∃ z, strB x = z := ⟨_, rfl⟩
                  rw [hz] at c5 c6
                  clear hx hy hct hz
                  go_wp2_with fail
                  go_quiet (fail)
                  go_wp2_with fail
                  go_roundg g4
                  case measure => omega
                  case rel => exact ⟨k + 1, false, rfl, by go_num, by have := HG4.out; omega, HN2.out, below_drewNv HB4.out _⟩
                · have hbq : (x == y) = false := beq_eq_false_iff_ne.2 hxy
                  have HN2 : Hid (true = (o3 && !(ks.take (k + 1)).contains x)) := Lib.hid (by rw [hct, hbq, Bool.or_false]; exact HO4.out)
                  have hne := strB_ne hxy
                  obtain ⟨z, hz⟩ : ∃ z, strB x = z := ⟨_, rfl⟩
                  obtain ⟨z2, hz2⟩ : ∃ z, strB y = z := ⟨_, rfl⟩
                  rw [hz, hz2] at hne
                  rw [hz] at c5
                  rw [hz2] at c6
                  have hse : (z.toList == z2.toList) = false := bytes_ne hne
                  have hse2 : (z.toList != z2.toList) = true := by rw [bne, hse]; rfl
                  clear hx hy hct hz hz2 hne hbq hxy
                  go_wp2_with fail
                  go_quiet (fail)
                  go_wp2_with fail
                  go_roundg g4
                  case measure => omega
                  case rel => exact ⟨k + 1, true, rfl, by go_num, by have := HG4.out; omega, HN2.out, below_drewNv HB4.out _⟩
              | false =>
                have HN2 : Hid (false = (o3 && !(ks.take (k + 1)).contains x)) := Lib.hid (by
                  rw [hct, Bool.not_or, ← Bool.and_assoc, ← HO4.out]
                  rfl)
                clear hx hy hct
                go_wp2_with fail
                go_quiet (fail)
                go_wp2_with fail
                go_roundg g4
                case measure => omega
                case rel => exact ⟨k + 1, false, rfl, by go_num, by have := HG4.out; omega, HN2.out, below_drewNv HB4.out _⟩
            · have hd4 : decide ((k : Int) < (j : Int)) = false := by simp; omega
              have HN2 : Hid (o = ((L0 && ps.all nameW) && freshGo [] (ks.take (j + 1)))) := Lib.hid (by
                have h1 : k = j := by have := HG4.out; omega
                have h2 := HO4.out
                have h3 := HO3.out
                have h4 := HOK.out
                rw [h1, h3, h4] at h2
                rw [HST.out, h2]
                simp only [Bool.and_assoc]
                congr 3
                rw [Bool.and_comm])
              clear hx HOK HO3
              go_wp2
              go_roundg g'
              case measure => omega
              case rel => exact ⟨j + 1, o, rfl, by go_num, by have := HG.out; omega, HN2.out, HB4.out⟩
        · have hdd : decide ((j : Int) < (m : Int)) = false := by simp; omega
          have HF : Hid (Q = ok2) := Lib.hid (by
            have h1 := HOK.out
            rw [List.take_of_length_le (by have := HM.out; omega)] at h1
            rw [HQ0.out, h1])
          go_wp2
          go_ret
          exact ⟨by rw [HF.out]; rfl, below_then HBX.out HB.out⟩

end Go.Proofs.YtojpjhfafbdpcaaGreatDoor
