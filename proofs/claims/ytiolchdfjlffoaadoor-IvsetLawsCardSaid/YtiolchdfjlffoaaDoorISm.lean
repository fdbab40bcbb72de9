/-
  Whether two rows of spans are the same, told by slices.Equal, by the program and by the reference. Condition: the slices lead to what they are said to.
-/
import Derived.Test.YtiolchdfjlffoaaDoorIA
import Derived.Laws.StructEq
namespace Go.Proofs.YtiolchdfjlffoaaDoor
open Go.RowKit Go.Lib Go.Joins

/-- Two rows of spans, told to be the same or not. -/
def sameP (l1 l2 : List Sp) : Bool := decide (l1 = l2)
theorem stoodSp : Tryd.prog.stoodInHeld 44 = false := by kernel_rfl
theorem equalIn_sp (d : Nat) (c a c' a' : Int) (w : World) :
    (Op.equalIn (d + 2) 44 (.agg #[.int .i64 c, .int .i64 a]) (.agg #[.int .i64 c', .int .i64 a'])).run Tryd.prog w = .ok (c == c' && a == a') w := by
  rw [run_equalIn_struct w (d + 1) 44 _ _ (by simp [Program.fieldsOf, Tryd.underlying44]) stoodSp]
  simp [Program.fieldsOf, Tryd.underlying44, Op.eqFields, go_sem, Tryd.underlying3]
  by_cases h : c = c' <;> by_cases h' : a = a' <;> simp [h, h']
theorem neq_sp (c a c' a' : Int) (w : World) :
    (binOp .neq 44 (.agg #[.int .i64 c, .int .i64 a]) (.agg #[.int .i64 c', .int .i64 a'])).run Tryd.prog w = .ok (.bool (!(c == c' && a == a'))) w := by
  have h := equalIn_sp 9998 c a c' a' w
  rw [show (9998 + 2 : Nat) = 10000 from rfl] at h
  simp only [binOp]
  simp [Op.equal, Op.maxDepth, h]
theorem sameP_refl (l : List Sp) : sameP l l = true := decide_eq_true rfl

set_option maxRecDepth 100000 in
set_option maxHeartbeats 2000000 in
theorem rsame_calls {w : World} {v1 v2 : Value} {l1 l2 : List Sp} (h1 : SpIn w v1 l1) (h2 : SpIn w v2 l2) : Calls Tryd.prog 11 #[v1, v2] w (Leaves (.bool (sameP l1 l2)) w) := by
  obtain ⟨a1, c1, rfl, hc1, hm1, hn1⟩ := h1.form
  obtain ⟨a2, c2, rfl, hc2, hm2, hn2⟩ := h2.form
  obtain ⟨Q, hQ⟩ : ∃ Q, sameP l1 l2 = Q := ⟨_, rfl⟩
  rw [hQ]
  unfold sameP at hQ
  obtain ⟨n1, hl1⟩ : ∃ n, l1.length = n := ⟨_, rfl⟩
  obtain ⟨n2, hl2⟩ : ∃ n, l2.length = n := ⟨_, rfl⟩
  rw [hl1] at h1 hc1 ⊢
  rw [hl2] at h2 hc2 ⊢
  by_cases hne : n1 = n2
  · subst hne
    have HQ : Hid (Q = decide (l1.drop 0 = l2.drop 0)) := Lib.hid (by rw [List.drop_zero, List.drop_zero]; exact hQ.symm)
    have H1 := Lib.hid h1
    have H2 := Lib.hid h2
    have HL1 := Lib.hid hl1
    have HL2 := Lib.hid hl2
    have hne2 : ((n1 : Int) != (n1 : Int)) = false := by simp
    have hcm : c1 ≤ maxLen := hm1
    unfold maxLen at hcm
    clear hQ h1 h2 hl1 hl2 hm1 hm2 hn1 hn2
    go_enter Tryd.func11, Tryd.ntmps11
    go_wp2_with fail
    go_loopg [5] n1 (fun g s wr => ∃ i : Nat, s = .int .i64 (i : Int) ∧ g + i = n1 ∧ Q = decide (l1.drop i = l2.drop i) ∧ Below w.heap.size w wr)
    case atStart => exact ⟨0, rfl, rfl, HQ.out, Below.refl _ _⟩
    case round =>
      obtain ⟨i, rfl, hg, hq, hb⟩ := hrel
      have HQ2 := Lib.hid hq
      have HB := Lib.hid hb
      clear hq hb HQ
      cases gk with
      | zero =>
        obtain rfl : i = n1 := by omega
        have hge : ¬ ((i : Int) < (i : Int)) := by omega
        have HF : Hid (Q = true) := Lib.hid (by rw [HQ2.out, List.drop_eq_nil_of_le (by have := HL1.out; omega), List.drop_eq_nil_of_le (by have := HL2.out; omega)]; rfl)
        go_wp2_with fail
        go_ret
        exact ⟨by rw [HF.out]; rfl, HB.out⟩
      | succ g =>
        have hlt : (i : Int) < (n1 : Int) := by omega
        have hi0 : (0 : Int) ≤ (i : Int) := by omega
        have hic1 : i ≤ c1 := by omega
        have hic2 : i ≤ c2 := by omega
        obtain ⟨⟨f1, t1⟩, hx1, hd1⟩ := drop_at (l := l1) (i := i) (by have := HL1.out; omega)
        obtain ⟨⟨f2, t2⟩, hx2, hd2⟩ := drop_at (l := l2) (i := i) (by have := HL2.out; omega)
        obtain ⟨b1, o1, rfl, y1, y2⟩ := H1.out.at hx1
        obtain ⟨b2, o2, rfl, z1, z2⟩ := H2.out.at hx2
        replace y1 := cell_below HB.out y1
        replace y2 := cell_below HB.out y2
        replace z1 := cell_below HB.out z1
        replace z2 := cell_below HB.out z2
        dsimp only at y1 y2 z1 z2
        clear hx1 hx2
        by_cases hs : f1 = f2 ∧ t1 = t2
        · obtain ⟨rfl, rfl⟩ := hs
          have hadd : IntKind.i64.wrap ((i : Int) + 1) = ((i + 1 : Nat) : Int) := IntWalk.i64_in _ (by omega)
          have HN : Hid (Q = decide (l1.drop (i + 1) = l2.drop (i + 1))) := Lib.hid (by
            rw [HQ2.out, hd1, hd2]
            simp only [List.cons.injEq, true_and])
          have kn := fun w => neq_sp f1 t1 f1 t1 w
          rw [show (f1 == f1 && t1 == t1) = true from by simp] at kn
          clear hd1 hd2 HQ2
          go_wp2_with fail
          go_quiet (fail)
          go_wp2_with fail
          go_roundg g
          case measure => omega
          case rel => exact ⟨i + 1, rfl, by omega, HN.out, below_drewN HB.out _⟩
        · have HF : Hid (Q = false) := Lib.hid (by
            rw [HQ2.out, hd1, hd2, decide_eq_false_iff_not]
            intro h
            injection h with h _
            injection h with h1 h2
            exact hs ⟨h1, h2⟩)
          have hse : (f1 == f2 && t1 == t2) = false := by
            rcases Int.instDecidableEq f1 f2 with h | h
            · simp [h]
            · subst h
              simp only [beq_self_eq_true, Bool.true_and]
              exact beq_eq_false_iff_ne.2 (fun e => hs ⟨rfl, e⟩)
          have kn := fun w => neq_sp f1 t1 f2 t2 w
          rw [hse] at kn
          clear hd1 hd2 HQ2 hse hs
          go_wp2_with fail
          go_quiet (fail)
          go_wp2_with fail
          go_ret
          exact ⟨by rw [HF.out]; rfl, below_drewN HB.out _⟩
  · have HF : Hid (Q = false) := Lib.hid (by
      rw [← hQ, decide_eq_false_iff_not]
      rintro rfl
      exact hne (hl1.symm.trans hl2))
    have hne2 : ((n1 : Int) != (n2 : Int)) = true := by simp; omega
    clear hQ hl1 hl2 h1 h2 hm1 hm2 hn1 hn2
    go_enter Tryd.func11, Tryd.ntmps11
    go_wp2_with fail
    go_ret
    exact ⟨by rw [HF.out]; rfl, Below.refl _ _⟩

set_option maxRecDepth 100000 in
set_option maxHeartbeats 2000000 in
theorem sequal_calls {w : World} {v1 v2 : Value} {l1 l2 : List Sp} (h1 : SpIn w v1 l1) (h2 : SpIn w v2 l2) : Calls Tryd.prog 39 #[v1, v2] w (Leaves (.bool (sameP l1 l2)) w) := by
  obtain ⟨a1, c1, rfl, hc1, hm1, hn1⟩ := h1.form
  obtain ⟨a2, c2, rfl, hc2, hm2, hn2⟩ := h2.form
  obtain ⟨Q, hQ⟩ : ∃ Q, sameP l1 l2 = Q := ⟨_, rfl⟩
  rw [hQ]
  unfold sameP at hQ
  obtain ⟨n1, hl1⟩ : ∃ n, l1.length = n := ⟨_, rfl⟩
  obtain ⟨n2, hl2⟩ : ∃ n, l2.length = n := ⟨_, rfl⟩
  rw [hl1] at h1 hc1 ⊢
  rw [hl2] at h2 hc2 ⊢
  by_cases hne : n1 = n2
  · subst hne
    have HQ : Hid (Q = decide (l1.drop 0 = l2.drop 0)) := Lib.hid (by rw [List.drop_zero, List.drop_zero]; exact hQ.symm)
    have H1 := Lib.hid h1
    have H2 := Lib.hid h2
    have HL1 := Lib.hid hl1
    have HL2 := Lib.hid hl2
    have hne2 : ((n1 : Int) != (n1 : Int)) = false := by simp
    have hcm : c1 ≤ maxLen := hm1
    unfold maxLen at hcm
    clear hQ h1 h2 hl1 hl2 hm1 hm2 hn1 hn2
    go_enter Tryd.func39, Tryd.ntmps39
    go_wp2_with fail
    go_loopg [13] n1 (fun g s wr => ∃ i : Nat, s = .int .i64 (i : Int) ∧ g + i = n1 ∧ Q = decide (l1.drop i = l2.drop i) ∧ Below w.heap.size w wr)
    case atStart => exact ⟨0, rfl, rfl, HQ.out, Below.refl _ _⟩
    case round =>
      obtain ⟨i, rfl, hg, hq, hb⟩ := hrel
      have HQ2 := Lib.hid hq
      have HB := Lib.hid hb
      clear hq hb HQ
      cases gk with
      | zero =>
        obtain rfl : i = n1 := by omega
        have hge : ¬ ((i : Int) < (i : Int)) := by omega
        have HF : Hid (Q = true) := Lib.hid (by rw [HQ2.out, List.drop_eq_nil_of_le (by have := HL1.out; omega), List.drop_eq_nil_of_le (by have := HL2.out; omega)]; rfl)
        go_wp2_with fail
        go_ret
        exact ⟨by rw [HF.out]; rfl, HB.out⟩
      | succ g =>
        have hlt : (i : Int) < (n1 : Int) := by omega
        have hi0 : (0 : Int) ≤ (i : Int) := by omega
        have hic1 : i ≤ c1 := by omega
        have hic2 : i ≤ c2 := by omega
        obtain ⟨⟨f1, t1⟩, hx1, hd1⟩ := drop_at (l := l1) (i := i) (by have := HL1.out; omega)
        obtain ⟨⟨f2, t2⟩, hx2, hd2⟩ := drop_at (l := l2) (i := i) (by have := HL2.out; omega)
        obtain ⟨b1, o1, rfl, y1, y2⟩ := H1.out.at hx1
        obtain ⟨b2, o2, rfl, z1, z2⟩ := H2.out.at hx2
        replace y1 := cell_below HB.out y1
        replace y2 := cell_below HB.out y2
        replace z1 := cell_below HB.out z1
        replace z2 := cell_below HB.out z2
        dsimp only at y1 y2 z1 z2
        clear hx1 hx2
        by_cases hs : f1 = f2 ∧ t1 = t2
        · obtain ⟨rfl, rfl⟩ := hs
          have hadd : IntKind.i64.wrap ((i : Int) + 1) = ((i + 1 : Nat) : Int) := IntWalk.i64_in _ (by omega)
          have HN : Hid (Q = decide (l1.drop (i + 1) = l2.drop (i + 1))) := Lib.hid (by
            rw [HQ2.out, hd1, hd2]
            simp only [List.cons.injEq, true_and])
          have kn := fun w => neq_sp f1 t1 f1 t1 w
          rw [show (f1 == f1 && t1 == t1) = true from by simp] at kn
          clear hd1 hd2 HQ2
          go_wp2_with fail
          go_quiet (fail)
          go_wp2_with fail
          go_roundg g
          case measure => omega
          case rel => exact ⟨i + 1, rfl, by omega, HN.out, below_drewN HB.out _⟩
        · have HF : Hid (Q = false) := Lib.hid (by
            rw [HQ2.out, hd1, hd2, decide_eq_false_iff_not]
            intro h
            injection h with h _
            injection h with h1 h2
            exact hs ⟨h1, h2⟩)
          have hse : (f1 == f2 && t1 == t2) = false := by
            rcases Int.instDecidableEq f1 f2 with h | h
            · simp [h]
            · subst h
              simp only [beq_self_eq_true, Bool.true_and]
              exact beq_eq_false_iff_ne.2 (fun e => hs ⟨rfl, e⟩)
          have kn := fun w => neq_sp f1 t1 f2 t2 w
          rw [hse] at kn
          clear hd1 hd2 HQ2 hse hs
          go_wp2_with fail
          go_quiet (fail)
          go_wp2_with fail
          go_ret
          exact ⟨by rw [HF.out]; rfl, below_drewN HB.out _⟩
  · have HF : Hid (Q = false) := Lib.hid (by
      rw [← hQ, decide_eq_false_iff_not]
      rintro rfl
      exact hne (hl1.symm.trans hl2))
    have hne2 : ((n1 : Int) != (n2 : Int)) = true := by simp; omega
    clear hQ hl1 hl2 h1 h2 hm1 hm2 hn1 hn2
    go_enter Tryd.func39, Tryd.ntmps39
    go_wp2_with fail
    go_ret
    exact ⟨by rw [HF.out]; rfl, Below.refl _ _⟩
end Go.Proofs.YtiolchdfjlffoaaDoor
