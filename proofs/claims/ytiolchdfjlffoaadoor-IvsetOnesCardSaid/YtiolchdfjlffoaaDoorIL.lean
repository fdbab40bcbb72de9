/-
  How many versions a set has, the least and the greatest, and a set with one more, told by the program; the same, the set of some versions, and whether one is in a set, told by the reference. Condition: the slices lead to what they are said to.
-/
import Derived.Test.YtiolchdfjlffoaaDoorIK
namespace Go.Proofs.YtiolchdfjlffoaaDoor
open Go.RowKit Go.Lib Go.Joins

set_option maxRecDepth 100000 in
set_option maxHeartbeats 4000000 in
theorem count_calls {w : World} {v : Value} {l : List Sp} (h : SpIn w v l) : Calls Tryd.prog 23 #[v] w (Leaves (.int .i64 (cntS l)) w) := by
  have HM := Lib.hid (may_calls h)
  obtain ⟨a, c, rfl, hc, hm, hn⟩ := h.form
  obtain ⟨n, hl⟩ : ∃ n, l.length = n := ⟨_, rfl⟩
  obtain ⟨Q, hQ⟩ : ∃ Q, cntS l = Q := ⟨_, rfl⟩
  rw [hQ]
  have HQ := Lib.hid hQ
  rw [hl] at h hc HM ⊢
  have HR := Lib.hid h
  have HL := Lib.hid hl
  have hcm : c ≤ maxLen := hm
  unfold maxLen at hcm
  unfold cntS at HQ
  clear h hl hm hn hQ
  go_enter Tryd.func23, Tryd.ntmps23
  go_wp2_with fail
  with_reducible refine HM.out.mono ?_
  rintro e w1 ⟨rfl, hb1⟩
  have HB1 := Lib.hid hb1
  clear hb1 HM
  cases hmy : mayS l with
  | false =>
    have HF : Hid (Q = 0) := Lib.hid (by rw [← HQ.out, hmy]; rfl)
    clear hmy
    go_wp2_with fail
    go_ret
    exact ⟨by rw [HF.out]; rfl, HB1.out⟩
  | true =>
    have HF : Hid (Q = sumS l) := Lib.hid (by rw [← HQ.out, hmy]; rfl)
    have HMY := Lib.hid hmy
    have hlen := mayS_length hmy
    rw [HL.out] at hlen
    clear hmy
    go_wp2_with fail
    go_loopg [3, 11] n (fun g s ix wr => ∃ (i : Nat), s = .int .i64 (sumS (l.take i)) ∧ ix = .int .i64 (i : Int) ∧ g + i = n ∧ (0 ≤ sumS (l.take i) ∧ sumS (l.take i) ≤ 1000 * (i : Int)) ∧ Below w.heap.size w wr)
    case atStart => exact ⟨0, rfl, rfl, rfl, ⟨Int.le_refl _, Int.le_refl _⟩, HB1.out⟩
    case round =>
      obtain ⟨i, rfl, rfl, hg, hbd, hb⟩ := hrel
      have HB := Lib.hid hb
      have HBD := Lib.hid hbd
      clear hb hbd
      cases gk with
      | zero =>
        obtain rfl : i = n := by omega
        have hge : ¬ ((i : Int) < (i : Int)) := by omega
        have HF2 : Hid (Q = sumS (l.take i)) := Lib.hid (by rw [HF.out, List.take_of_length_le (by have := HL.out; omega)])
        obtain ⟨S, hS⟩ : ∃ S, sumS (l.take i) = S := ⟨_, rfl⟩
        rw [hS] at HF2 ⊢
        clear hS HBD
        go_wp2_with fail
        go_ret
        exact ⟨by rw [HF2.out]; rfl, HB.out⟩
      | succ g =>
        have hlt : (i : Int) < (n : Int) := by omega
        have hic : i ≤ c := by omega
        obtain ⟨⟨f, t⟩, hx, _⟩ := drop_at (l := l) (i := i) (by have := HL.out; omega)
        have hmem := mayF_mem HMY.out (List.mem_of_getElem? hx)
        dsimp only at hmem
        obtain ⟨b, o, rfl, y1, y2⟩ := HR.out.at hx
        replace y1 := cell_below HB.out y1
        replace y2 := cell_below HB.out y2
        dsimp only at y1 y2
        have hsum : sumS (l.take (i + 1)) = sumS (l.take i) + (t - f + 1) := by rw [take_snoc hx, sumS_snoc]
        have HSUM := Lib.hid hsum
        obtain ⟨S, hS⟩ : ∃ S, sumS (l.take i) = S := ⟨_, rfl⟩
        have hb0 := HBD.out
        rw [hS] at hb0 HSUM ⊢
        have hbd2 : 0 ≤ S + (t - f + 1) ∧ S + (t - f + 1) ≤ 1000 * ((i + 1 : Nat) : Int) := by omega
        have HBD2 : Hid (0 ≤ sumS (l.take (i + 1)) ∧ sumS (l.take (i + 1)) ≤ 1000 * ((i + 1 : Nat) : Int)) := Lib.hid (by rw [HSUM.out]; exact hbd2)
        have hw1 : IntKind.i64.wrap (t - f) = t - f := IntWalk.i64_in _ (by omega)
        have hw2 : IntKind.i64.wrap (t - f + 1) = t - f + 1 := IntWalk.i64_in _ (by omega)
        have hw3 : IntKind.i64.wrap (S + (t - f + 1)) = S + (t - f + 1) := IntWalk.i64_in _ (by omega)
        clear hx hS hb0 hbd2 hsum
        go_wp2_with fail
        go_roundg g
        case measure => omega
        case rel => exact ⟨i + 1, by rw [HSUM.out], by go_num, by omega, HBD2.out, HB.out.alloc HB.out.size _⟩

set_option maxRecDepth 100000 in
set_option maxHeartbeats 4000000 in
theorem first_calls {w : World} {v : Value} {l : List Sp} (h : SpIn w v l) : Calls Tryd.prog 24 #[v] w (Leaves (.int .i64 (fstS l)) w) := by
  have HM := Lib.hid (may_calls h)
  obtain ⟨a, c, rfl, hc, hm, hn⟩ := h.form
  obtain ⟨n, hl⟩ : ∃ n, l.length = n := ⟨_, rfl⟩
  obtain ⟨Q, hQ⟩ : ∃ Q, fstS l = Q := ⟨_, rfl⟩
  rw [hQ]
  have HQ := Lib.hid hQ
  rw [hl] at h hc HM ⊢
  have HR := Lib.hid h
  have HL := Lib.hid hl
  unfold fstS at HQ
  clear h hl hm hn hQ
  go_enter Tryd.func24, Tryd.ntmps24
  go_wp2_with fail
  with_reducible refine HM.out.mono ?_
  rintro e w1 ⟨rfl, hb1⟩
  have HB1 := Lib.hid hb1
  clear hb1 HM
  cases hmy : mayS l with
  | false =>
    have HF : Hid (Q = 0) := Lib.hid (by rw [← HQ.out, hmy]; rfl)
    clear hmy
    go_wp2_with fail
    go_ret
    exact ⟨by rw [HF.out]; rfl, HB1.out⟩
  | true =>
    have HF : Hid (Q = firstS l) := Lib.hid (by rw [← HQ.out, hmy]; rfl)
    have hlen := mayS_length hmy
    rw [HL.out] at hlen
    clear hmy
    by_cases h0 : l = []
    · subst h0
      obtain rfl : 0 = n := HL.out
      clear hlen
      go_wp2_with fail
      go_ret
      exact ⟨by rw [HF.out]; rfl, HB1.out⟩
    · have hnz : n ≠ 0 := fun e => h0 (List.length_eq_zero_iff.1 (HL.out.trans e))
      have hz : ((n : Int) == 0) = false := by rw [beq_eq_false_iff_ne]; omega
      have hpos : (0 : Int) < (n : Int) := by omega
      obtain ⟨⟨f, t⟩, m, rfl⟩ : ∃ x m, l = x :: m := by
        cases l with
        | nil => exact absurd rfl h0
        | cons x m => exact ⟨x, m, rfl⟩
      have HV : Hid (firstS ((f, t) :: m) = f) := Lib.hid rfl
      obtain ⟨b, o, rfl, y1, y2⟩ := HR.out.at (i := 0) (x := (f, t)) rfl
      replace y1 := cell_below HB1.out y1
      rw [Nat.zero_mul, Nat.add_zero] at y1
      dsimp only at y1
      clear y2
      clear h0 hnz
      go_wp2_with fail
      go_ret
      exact ⟨by rw [HF.out, HV.out]; rfl, HB1.out⟩

set_option maxRecDepth 100000 in
set_option maxHeartbeats 4000000 in
theorem last_calls {w : World} {v : Value} {l : List Sp} (h : SpIn w v l) : Calls Tryd.prog 25 #[v] w (Leaves (.int .i64 (lstS l)) w) := by
  have HM := Lib.hid (may_calls h)
  obtain ⟨a, c, rfl, hc, hm, hn⟩ := h.form
  obtain ⟨n, hl⟩ : ∃ n, l.length = n := ⟨_, rfl⟩
  obtain ⟨Q, hQ⟩ : ∃ Q, lstS l = Q := ⟨_, rfl⟩
  rw [hQ]
  have HQ := Lib.hid hQ
  rw [hl] at h hc HM ⊢
  have HR := Lib.hid h
  have HL := Lib.hid hl
  unfold lstS at HQ
  clear h hl hm hn hQ
  go_enter Tryd.func25, Tryd.ntmps25
  go_wp2_with fail
  with_reducible refine HM.out.mono ?_
  rintro e w1 ⟨rfl, hb1⟩
  have HB1 := Lib.hid hb1
  clear hb1 HM
  cases hmy : mayS l with
  | false =>
    have HF : Hid (Q = 0) := Lib.hid (by rw [← HQ.out, hmy]; rfl)
    clear hmy
    go_wp2_with fail
    go_ret
    exact ⟨by rw [HF.out]; rfl, HB1.out⟩
  | true =>
    have HF : Hid (Q = lastS l) := Lib.hid (by rw [← HQ.out, hmy]; rfl)
    have hlen := mayS_length hmy
    rw [HL.out] at hlen
    clear hmy
    by_cases h0 : l = []
    · subst h0
      obtain rfl : 0 = n := HL.out
      clear hlen
      go_wp2_with fail
      go_ret
      exact ⟨by rw [HF.out]; rfl, HB1.out⟩
    · have hnz : n ≠ 0 := fun e => h0 (List.length_eq_zero_iff.1 (HL.out.trans e))
      have hz : ((n : Int) == 0) = false := by rw [beq_eq_false_iff_ne]; omega
      have hpos : (0 : Int) < (n : Int) := by omega
      obtain ⟨m, ⟨f, t⟩, rfl⟩ := snoc_of h0
      have HV : Hid (lastS (m ++ [(f, t)]) = t) := Lib.hid (lastS_snoc m (f, t))
      obtain ⟨k, hk⟩ : ∃ k, m.length = k := ⟨_, rfl⟩
      have hnk : n = k + 1 := by rw [← HL.out, List.length_append, List.length_singleton, hk]
      obtain ⟨b, o, rfl, y1, y2⟩ := HR.out.at (i := k) (x := (f, t)) (by rw [← hk]; simp)
      replace y2 := cell_below HB1.out y2
      dsimp only at y2
      have hsub : IntKind.i64.wrap ((n : Int) - 1) = (k : Int) := by rw [IntWalk.i64_in _ (by omega)]; omega
      have hk0 : (0 : Int) ≤ (k : Int) := by omega
      have hkn : k < n := by omega
      clear y1 hk hnk
      clear h0 hnz
      go_wp2_with fail
      go_ret
      exact ⟨by rw [HF.out, HV.out]; rfl, HB1.out⟩
end Go.Proofs.YtiolchdfjlffoaaDoor
