/-
  slices.Equal of attributes. Condition: they lie in memory.
-/
import Derived.Test.YtfonflbpkbibbaaGreatDoorXTm
namespace Go.Proofs.YtfonflbpkbibbaaGreatDoor
open Go.RowKit Go.Lib Go.Joins

set_option maxRecDepth 100000 in
set_option maxHeartbeats 2000000 in
theorem equalA_calls {w : World} {S1 S2 : Nat → Prop} {v1 v2 : Value} {l1 l2 : List (List UInt8 × List UInt8)} (h1 : AttIn w S1 v1 l1) (h2 : AttIn w S2 v2 l2) : Calls Tryz.prog 74 #[v1, v2] w (Leaves (.bool (decide (l1 = l2))) w) := by
  obtain ⟨a1, c1, rfl, hc1, hm1, hn1, hr1⟩ := h1
  obtain ⟨a2, c2, rfl, hc2, hm2, hn2, hr2⟩ := h2
  obtain ⟨Q, hQ⟩ : ∃ Q, decide (l1 = l2) = Q := ⟨_, rfl⟩
  rw [hQ]
  obtain ⟨n1, hl1⟩ : ∃ n, l1.length = n := ⟨_, rfl⟩
  obtain ⟨n2, hl2⟩ : ∃ n, l2.length = n := ⟨_, rfl⟩
  rw [hl1, hl2]
  by_cases hne : n1 = n2
  · subst hne
    have HQ : Hid (Q = decide (l1.drop 0 = l2.drop 0)) := Lib.hid (by rw [List.drop_zero, List.drop_zero]; exact hQ.symm)
    have H1 := Lib.hid hr1
    have H2 := Lib.hid hr2
    have HL1 := Lib.hid hl1
    have HL2 := Lib.hid hl2
    have hne2 : ((n1 : Int) != (n1 : Int)) = false := by simp
    have HMX : Hid (n1 ≤ maxLen) := Lib.hid (by omega)
    clear hQ hr1 hr2 hl1 hl2 hc1 hc2 hm1 hm2 hn1 hn2
    go_enter Tryz.func74, Tryz.ntmps74
    go_wp2_with fail
    go_loopg [13] n1 (fun g s wr => ∃ i : Nat, s = .int .i64 (i : Int) ∧ g + i = n1 ∧ Q = decide (l1.drop i = l2.drop i) ∧ Below w.heap.size w wr)
    case atStart => exact ⟨0, rfl, rfl, HQ.out, Below.refl _ _⟩
    case round =>
      obtain ⟨i, rfl, hg, hq, hb⟩ := hrel
      have HQ2 := Lib.hid hq
      have HB := Lib.hid hb
      clear hq hb HQ
      cases gk with
      | zero =>
        obtain rfl : i = n1 := by omega
        have hge : ¬ ((i : Int) < (i : Int)) := by omega
        have HF : Hid (Q = true) := Lib.hid (by rw [HQ2.out, List.drop_eq_nil_of_le (by have := HL1.out; omega), List.drop_eq_nil_of_le (by have := HL2.out; omega)]; rfl)
        go_wp2_with fail
        go_ret
        exact ⟨by rw [HF.out]; rfl, HB.out⟩
      | succ g =>
        have hlt : (i : Int) < (n1 : Int) := by omega
        have hi0 : (0 : Int) ≤ (i : Int) := by omega
        obtain ⟨x1, hx1⟩ : ∃ x, l1[i]? = some x := ⟨_, List.getElem?_eq_getElem (by have := HL1.out; omega)⟩
        obtain ⟨x2, hx2⟩ : ∃ x, l2[i]? = some x := ⟨_, List.getElem?_eq_getElem (by have := HL2.out; omega)⟩
        have hd1 : l1.drop i = x1 :: l1.drop (i + 1) := by
          rw [List.drop_eq_getElem_cons (by have := HL1.out; omega)]
          rw [List.getElem?_eq_getElem (by have := HL1.out; omega)] at hx1
          rw [Option.some.inj hx1]
        have hd2 : l2.drop i = x2 :: l2.drop (i + 1) := by
          rw [List.drop_eq_getElem_cons (by have := HL2.out; omega)]
          rw [List.getElem?_eq_getElem (by have := HL2.out; omega)] at hx2
          rw [Option.some.inj hx2]
        rcases H1.out with h0 | ⟨b1, o1, rfl, _, hcell1⟩
        · rw [h0] at hx1; simp at hx1
        rcases H2.out with h0 | ⟨b2, o2, rfl, _, hcell2⟩
        · rw [h0] at hx2; simp at hx2
        obtain ⟨y1, y2⟩ := hcell1 i x1 hx1
        obtain ⟨z1, z2⟩ := hcell2 i x2 hx2
        replace y1 := (HB.out.cell (lt_of_cell y1)).trans y1
        replace y2 := (HB.out.cell (lt_of_cell y2)).trans y2
        replace z1 := (HB.out.cell (lt_of_cell z1)).trans z1
        replace z2 := (HB.out.cell (lt_of_cell z2)).trans z2
        obtain ⟨s1, hs1⟩ : ∃ s, strB x1.1 = s := ⟨_, rfl⟩
        obtain ⟨t1, ht1⟩ : ∃ s, strB x1.2 = s := ⟨_, rfl⟩
        obtain ⟨s2, hs2⟩ : ∃ s, strB x2.1 = s := ⟨_, rfl⟩
        obtain ⟨t2, ht2⟩ : ∃ s, strB x2.2 = s := ⟨_, rfl⟩
        rw [hs1] at y1
        rw [ht1] at y2
        rw [hs2] at z1
        rw [ht2] at z2
        clear hcell1 hcell2 hx1 hx2
        by_cases hs : s1 = s2
        · by_cases ht : t1 = t2
          · subst hs
            subst ht
            have hadd : IntKind.i64.wrap ((i : Int) + 1) = ((i + 1 : Nat) : Int) := IntWalk.i64_in _ (by have := HMX.out; unfold maxLen at this; omega)
            have HN : Hid (Q = decide (l1.drop (i + 1) = l2.drop (i + 1))) := Lib.hid (by
              have hx : x1 = x2 := Prod.ext (strB_inj (hs1.trans hs2.symm)) (strB_inj (ht1.trans ht2.symm))
              rw [HQ2.out, hd1, hd2, hx]
              simp only [List.cons.injEq, true_and])
            clear hs1 hs2 ht1 ht2 hd1 hd2 HQ2
            go_wp2_with fail
            go_quiet (fail)
            go_wp2_with fail
            go_roundg g
            case measure => omega
            case rel => exact ⟨i + 1, rfl, by omega, HN.out, below_drewNv HB.out _⟩
          · have HF : Hid (Q = false) := Lib.hid (by
              rw [HQ2.out, hd1, hd2, decide_eq_false_iff_not]
              intro h
              injection h with h _
              exact ht (by rw [← ht1, ← ht2, h]))
            have hte : (t1.toList == t2.toList) = false := bytes_ne ht
            subst hs
            clear hs1 hs2 ht1 ht2 hd1 hd2 HQ2 ht
            go_wp2_with fail
            go_quiet (fail)
            go_wp2_with fail
            go_ret
            exact ⟨by rw [HF.out]; rfl, below_drewNv HB.out _⟩
        · have HF : Hid (Q = false) := Lib.hid (by
            rw [HQ2.out, hd1, hd2, decide_eq_false_iff_not]
            intro h
            injection h with h _
            exact hs (by rw [← hs1, ← hs2, h]))
          have hse : (s1.toList == s2.toList) = false := bytes_ne hs
          clear hs1 hs2 ht1 ht2 hd1 hd2 HQ2 hs
          go_wp2_with fail
          go_quiet (fail)
          go_wp2_with fail
          go_ret
          exact ⟨by rw [HF.out]; rfl, below_drewNv HB.out _⟩
  · have HF : Hid (Q = false) := Lib.hid (by
      rw [← hQ, decide_eq_false_iff_not]
      intro h
      exact hne (by rw [← hl1, ← hl2, h]))
    have hne2 : ((n1 : Int) != (n2 : Int)) = true := by rw [bne_iff_ne]; omega
    clear hQ hr1 hr2 hl1 hl2 hc1 hc2 hm1 hm2 hn1 hn2 hne
    go_enter Tryz.func74, Tryz.ntmps74
    go_wp2_with fail
    go_ret
    exact ⟨by rw [HF.out]; rfl, Below.refl _ _⟩
end Go.Proofs.YtfonflbpkbibbaaGreatDoor
