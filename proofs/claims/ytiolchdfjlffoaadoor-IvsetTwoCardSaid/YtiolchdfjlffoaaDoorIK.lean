/-
  Whether a version is in a set, how many there are, the least and the greatest, and a set with one more, told by the program. Condition: the slices lead to what they are said to.
-/
import Derived.Test.YtiolchdfjlffoaaDoorIJ
import Derived.Test.YtiolchdfjlffoaaDoorICn
namespace Go.Proofs.YtiolchdfjlffoaaDoor
open Go.RowKit Go.Lib Go.Joins

/-- Whether a version is in a row of spans that is a set. -/
def hasS (l : List Sp) (v : Int) : Bool := mayS l && inS l v
set_option maxRecDepth 100000 in
set_option maxHeartbeats 2000000 in
theorem hasf_calls {W : World} {b : Nat} {v f t : Int} (hv : W.cell? ⟨b, 0, none⟩ = some (.int .i64 v)) : Calls Tryd.prog 41 #[.agg #[.int .i64 f, .int .i64 t], .pointer (some ⟨b, 0, none⟩)] W (Leaves (.bool (decide (f ≤ v) && decide (v ≤ t))) W) := by
  have hlt := lt_of_cell hv
  by_cases h1 : f ≤ v
  · by_cases h2 : v ≤ t
    · go_enter Tryd.func41, Tryd.ntmps41
      go_wp2_with fail
      go_ret
      exact ⟨by rw [decide_eq_true h1, decide_eq_true h2]; rfl, (Below.refl _ _).alloc (Nat.le_refl _) _⟩
    · go_enter Tryd.func41, Tryd.ntmps41
      go_wp2_with fail
      go_ret
      exact ⟨by rw [decide_eq_false (by omega : ¬ v ≤ t)]; simp, (Below.refl _ _).alloc (Nat.le_refl _) _⟩
  · go_enter Tryd.func41, Tryd.ntmps41
    go_wp2_with fail
    go_ret
    exact ⟨by rw [decide_eq_false (by omega : ¬ f ≤ v)]; simp, (Below.refl _ _).alloc (Nat.le_refl _) _⟩

/-- What IndexFunc leaves: a place that isn't below 0 just if there is one. -/
def FindOut (q : Bool) (w : World) (e : Ending) (w' : World) : Prop := ∃ r : Int, e = .returned (.int .i64 r) ∧ decide (0 ≤ r) = q ∧ Below w.heap.size w w'
set_option maxRecDepth 100000 in
set_option maxHeartbeats 4000000 in
theorem ifind_calls {w : World} {va : Value} {b : Nat} {v : Int} {l : List Sp} (h : SpIn w va l) (hv : w.cell? ⟨b, 0, none⟩ = some (.int .i64 v)) :
    Calls Tryd.prog 50 #[va, .func (.func 41) #[] #[.pointer (some ⟨b, 0, none⟩)]] w (FindOut (inS l v) w) := by
  obtain ⟨a, c, rfl, hc, hm, hn⟩ := h.form
  obtain ⟨n, hl⟩ : ∃ n, l.length = n := ⟨_, rfl⟩
  obtain ⟨Q, hQ⟩ : ∃ Q, inS l v = Q := ⟨_, rfl⟩
  have HQ : Hid (Q = inS (l.drop 0) v) := Lib.hid (by rw [List.drop_zero]; exact hQ.symm)
  rw [hQ, hl]
  rw [hl] at h hc
  have HR := Lib.hid h
  have HL := Lib.hid hl
  have hcm : c ≤ maxLen := hm
  unfold maxLen at hcm
  have HV := Lib.hid hv
  have eg : ∀ args w, (callFunc 41 args).run Tryd.prog w = .ok (.enter 41 args) w := enters_of Tryd.func41 (by kernel_rfl) rfl
  clear h hl hQ hm hn hv
  go_enter Tryd.func50, Tryd.ntmps50
  go_wp2_with fail
  go_loopg [8] n (fun g ix wr => ∃ (i : Nat), ix = .int .i64 (i : Int) ∧ g + i = n ∧ Q = inS (l.drop i) v ∧ Below w.heap.size w wr)
  case atStart => exact ⟨0, rfl, rfl, HQ.out, Below.refl _ _⟩
  case round =>
    obtain ⟨i, rfl, hg, hq, hb⟩ := hrel
    have HQ2 := Lib.hid hq
    have HB := Lib.hid hb
    clear hq hb HQ
    cases gk with
    | zero =>
      obtain rfl : i = n := by omega
      have hge : ¬ ((i : Int) < (i : Int)) := by omega
      have HF : Hid (Q = false) := Lib.hid (by rw [HQ2.out, List.drop_eq_nil_of_le (by have := HL.out; omega)]; rfl)
      go_wp2_with fail
      go_ret
      exact ⟨-1, rfl, by rw [HF.out]; rfl, HB.out⟩
    | succ g =>
      have hlt : (i : Int) < (n : Int) := by omega
      have hi0 : (0 : Int) ≤ (i : Int) := by omega
      have hic : i ≤ c := by omega
      obtain ⟨⟨f, t⟩, hx, hd⟩ := drop_at (l := l) (i := i) (by have := HL.out; omega)
      obtain ⟨b', o, rfl, y1, y2⟩ := HR.out.at hx
      replace y1 := cell_below HB.out y1
      replace y2 := cell_below HB.out y2
      dsimp only at y1 y2
      rw [hd, inS_cons] at HQ2
      have HC := Lib.hid (hasf_calls (f := f) (t := t) (cell_below HB.out HV.out))
      obtain ⟨r, hr⟩ : ∃ r, (decide (f ≤ v) && decide (v ≤ t)) = r := ⟨_, rfl⟩
      have HR2 := Lib.hid hr
      dsimp only at HQ2
      rw [hr] at HC HQ2
      have hadd : IntKind.i64.wrap ((i : Int) + 1) = ((i + 1 : Nat) : Int) := IntWalk.i64_in _ (by omega)
      clear hx hd hr
      go_wp2_with fail
      with_reducible refine HC.out.mono ?_
      rintro e w3 ⟨rfl, hb3⟩
      have HB3 := Lib.hid (below_then HB.out hb3)
      clear hb3
      cases r with
      | true =>
        have HF : Hid (Q = true) := Lib.hid (by rw [HQ2.out]; rfl)
        clear HQ2
        go_wp2_with fail
        go_ret
        exact ⟨(i : Int), rfl, by rw [HF.out]; exact decide_eq_true hi0, HB3.out⟩
      | false =>
        have HN : Hid (Q = inS (l.drop (i + 1)) v) := Lib.hid (by rw [HQ2.out]; rfl)
        clear HQ2
        go_wp2_with fail
        go_roundg g
        case measure => omega
        case rel => exact ⟨i + 1, by go_num, by omega, HN.out, HB3.out⟩
set_option maxRecDepth 100000 in
set_option maxHeartbeats 2000000 in
theorem contains_calls {w : World} {va : Value} {b : Nat} {v : Int} {l : List Sp} (h : SpIn w va l) (hv : w.cell? ⟨b, 0, none⟩ = some (.int .i64 v)) :
    Calls Tryd.prog 40 #[va, .func (.func 41) #[] #[.pointer (some ⟨b, 0, none⟩)]] w (Leaves (.bool (inS l v)) w) := by
  have HI := Lib.hid (ifind_calls h hv)
  obtain ⟨a, c, rfl, _⟩ := h.form
  obtain ⟨n, hl⟩ : ∃ n, l.length = n := ⟨_, rfl⟩
  obtain ⟨Q, hQ⟩ : ∃ Q, inS l v = Q := ⟨_, rfl⟩
  rw [hQ, hl] at HI ⊢
  clear h hv hl hQ
  unfold FindOut at HI
  go_enter Tryd.func40, Tryd.ntmps40
  go_wp2_with fail
  with_reducible refine HI.out.mono ?_
  rintro e w1 ⟨r, rfl, hr, hb⟩
  have HB := Lib.hid hb
  cases Q with
  | true =>
    have h0 : 0 ≤ r := of_decide_eq_true hr
    clear hb
    go_wp2_with fail
    go_ret
    exact ⟨rfl, HB.out⟩
  | false =>
    have h0 : ¬ 0 ≤ r := of_decide_eq_false hr
    clear hb
    go_wp2_with fail
    go_ret
    exact ⟨rfl, HB.out⟩
set_option maxRecDepth 100000 in
set_option maxHeartbeats 2000000 in
theorem has_calls {w : World} {va : Value} {l : List Sp} (v : Int) (h : SpIn w va l) : Calls Tryd.prog 21 #[va, .int .i64 v] w (Leaves (.bool (hasS l v)) w) := by
  obtain ⟨a, c, rfl, _⟩ := h.form
  obtain ⟨n, hl⟩ : ∃ n, l.length = n := ⟨_, rfl⟩
  obtain ⟨W1, hW1⟩ : ∃ W1, w.alloc (.cells #[.int .i64 v] 3) = W1 := ⟨_, rfl⟩
  have hB1 : Below w.heap.size w W1 := by rw [← hW1]; exact (Below.refl _ _).alloc (Nat.le_refl _) _
  have hc1 : W1.cell? ⟨w.heap.size, 0, none⟩ = some (.int .i64 v) := by rw [← hW1]; exact (cell_of_block (heap_alloc_new _ _) 0).trans rfl
  obtain ⟨b0, hb0⟩ : ∃ b, w.heap.size = b := ⟨_, rfl⟩
  rw [hb0] at hc1
  have HM := Lib.hid (may_calls (h.below hB1))
  have HC := Lib.hid (fun (W : World) (hb : Below W1.heap.size W1 W) => contains_calls (l := l) (v := v) ((h.below hB1).below hb) (cell_below hb hc1))
  obtain ⟨Q, hQ⟩ : ∃ Q, hasS l v = Q := ⟨_, rfl⟩
  rw [hQ]
  have HQ := Lib.hid hQ
  rw [hl] at HM HC ⊢
  have HB1 := Lib.hid hB1
  have HW1 := Lib.hid hW1
  have HB0 := Lib.hid hb0
  unfold hasS at HQ
  clear h hl hQ hW1 hB1 hc1 hb0
  unfold Leaves
  go_enter Tryd.func21, Tryd.ntmps21
  go_upto_region 1 with (fail)
  rw [HW1.out, HB0.out]
  go_wp2_with fail
  with_reducible refine HM.out.mono ?_
  rintro e w1 ⟨rfl, hb1⟩
  have HC1 := Lib.hid (HC.out w1 hb1)
  have HB2 : Hid (Below b0 w w1) := Lib.hid (by rw [← HB0.out]; exact below_then HB1.out hb1)
  clear hb1 HC HM
  cases hm : mayS l with
  | false =>
    have HF : Hid (Q = false) := Lib.hid (by rw [← HQ.out, hm]; rfl)
    clear hm
    go_wp2_with fail
    go_ret
    exact ⟨by rw [HF.out]; rfl, by rw [HB0.out]; exact HB2.out⟩
  | true =>
    have HF : Hid (Q = inS l v) := Lib.hid (by rw [← HQ.out, hm]; rfl)
    obtain ⟨r, hr⟩ : ∃ r, inS l v = r := ⟨_, rfl⟩
    rw [hr] at HC1 HF
    clear hm hr
    go_wp2_with fail
    with_reducible refine HC1.out.mono ?_
    rintro e w3 ⟨rfl, hb3⟩
    have HB3 : Hid (Below b0 w w3) := Lib.hid (HB2.out.trans (hb3.mono (by rw [← HB0.out]; rw [← HB0.out] at HB2; exact HB2.out.size)))
    clear hb3
    go_wp2_with fail
    go_ret
    exact ⟨by rw [HF.out]; rfl, by rw [HB0.out]; exact HB3.out⟩
end Go.Proofs.YtiolchdfjlffoaaDoor
