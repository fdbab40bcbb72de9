/-
  Spans in memory; whether they are a set, told by the program and by the reference; whether two rows of them are the same. Condition: the slices lead to what they are said to.
-/
import Derived.Test.YtiolchdfjlffoaaDoorIP
namespace Go.Proofs.YtiolchdfjlffoaaDoor
open Go.RowKit Go.Lib Go.Joins

/-- A slice of spans in memory. -/
def SpIn (w : World) (v : Value) (l : List Sp) : Prop :=
  ∃ a c, v = .slice a l.length c ∧ l.length ≤ c ∧ c ≤ maxLen ∧ (a = none → c = 0) ∧ (l = [] ∨ ∃ b o, a = some ⟨b, o, none⟩ ∧ ∀ (i : Nat) (x : Sp), l[i]? = some x → w.cell? ⟨b, o + i * 2, none⟩ = some (.int .i64 x.1) ∧ w.cell? ⟨b, o + i * 2 + 1, none⟩ = some (.int .i64 x.2))
theorem SpIn.nil (w : World) : SpIn w (.slice none 0 0) [] := ⟨none, 0, rfl, Nat.le_refl _, Nat.zero_le _, fun _ => rfl, .inl rfl⟩
theorem SpIn.below {w w' : World} {v : Value} {l : List Sp} (h : SpIn w v l) (hb : Below w.heap.size w w') : SpIn w' v l := by
  obtain ⟨a, c, h1, h2, h3, h4, h5⟩ := h
  refine ⟨a, c, h1, h2, h3, h4, ?_⟩
  rcases h5 with h5 | ⟨b, o, h5, h7⟩
  · exact .inl h5
  · exact .inr ⟨b, o, h5, fun i x hx => ⟨cell_below hb (h7 i x hx).1, cell_below hb (h7 i x hx).2⟩⟩
theorem SpIn.form {w : World} {v : Value} {l : List Sp} (h : SpIn w v l) : ∃ a c, v = .slice a l.length c ∧ l.length ≤ c ∧ c ≤ maxLen ∧ (a = none → c = 0) := by
  obtain ⟨a, c, h1, h2, h3, h4, _⟩ := h
  exact ⟨a, c, h1, h2, h3, h4⟩
theorem SpIn.at {w : World} {a : Option Addr} {n c : Nat} {l : List Sp} (h : SpIn w (.slice a n c) l) {i : Nat} {x : Sp} (hx : l[i]? = some x) : ∃ b o, a = some ⟨b, o, none⟩ ∧ w.cell? ⟨b, o + i * 2, none⟩ = some (.int .i64 x.1) ∧ w.cell? ⟨b, o + i * 2 + 1, none⟩ = some (.int .i64 x.2) := by
  obtain ⟨a', c', h1, _, _, _, h5⟩ := h
  injection h1 with h1 _ _
  subst h1
  rcases h5 with rfl | ⟨b, o, h5, h7⟩
  · simp at hx
  · exact ⟨b, o, h5, h7 i x hx⟩
theorem drop_at {α : Type} {l : List α} {i : Nat} (h : i < l.length) : ∃ x, l[i]? = some x ∧ l.drop i = x :: l.drop (i + 1) := by
  refine ⟨l[i], List.getElem?_eq_getElem h, List.drop_eq_getElem_cons h⟩

set_option maxRecDepth 100000 in
set_option maxHeartbeats 2000000 in
theorem may_calls {w : World} {v : Value} {l : List Sp} (h : SpIn w v l) : Calls Tryd.prog 20 #[v] w (Leaves (.bool (mayS l)) w) := by
  obtain ⟨a, c, rfl, hc, hm, hn⟩ := h.form
  obtain ⟨n, hl⟩ : ∃ n, l.length = n := ⟨_, rfl⟩
  obtain ⟨Q, hQ⟩ : ∃ Q, mayS l = Q := ⟨_, rfl⟩
  have HQ : Hid (Q = mayF (-1) (l.drop 0)) := Lib.hid (by rw [List.drop_zero]; exact hQ.symm)
  rw [hQ, hl]
  rw [hl] at h hc
  have HR := Lib.hid h
  have HL := Lib.hid hl
  have hcm : c ≤ maxLen := hm
  unfold maxLen at hcm
  clear h hl hQ hm hn
  go_enter Tryd.func20, Tryd.ntmps20
  go_wp2_with fail
  go_loopg [3, 8] n (fun g ah ix wr => ∃ (i : Nat) (h : Int), ah = .int .i64 h ∧ ix = .int .i64 (i : Int) ∧ g + i = n ∧ -1 ≤ h ∧ h ≤ 200 ∧ Q = mayF h (l.drop i) ∧ Below w.heap.size w wr)
  case atStart => exact ⟨0, -1, rfl, rfl, rfl, by omega, by omega, HQ.out, Below.refl _ _⟩
  case round =>
    obtain ⟨i, h, rfl, rfl, hg, h1, h2, hq, hb⟩ := hrel
    have HQ2 := Lib.hid hq
    have HB := Lib.hid hb
    clear hq hb HQ
    cases gk with
    | zero =>
      obtain rfl : i = n := by omega
      have hge : ¬ ((i : Int) < (i : Int)) := by omega
      have HF : Hid (Q = true) := Lib.hid (by rw [HQ2.out, List.drop_eq_nil_of_le (by have := HL.out; omega)]; rfl)
      go_wp2_with fail
      go_ret
      exact ⟨by rw [HF.out]; rfl, HB.out⟩
    | succ g =>
      have hlt : (i : Int) < (n : Int) := by omega
      have hic : i ≤ c := by omega
      obtain ⟨⟨f, t⟩, hx, hd⟩ := drop_at (l := l) (i := i) (by have := HL.out; omega)
      obtain ⟨b, o, rfl, y1, y2⟩ := HR.out.at hx
      replace y1 := cell_below HB.out y1
      replace y2 := cell_below HB.out y2
      dsimp only at y1 y2
      rw [hd] at HQ2
      clear hx hd
      have hadd : IntKind.i64.wrap (h + 1) = h + 1 := IntWalk.i64_in _ (by omega)
      by_cases e1 : 200 < t
      · have HF : Hid (Q = false) := Lib.hid (by rw [HQ2.out, mayF, decide_eq_false (by omega : ¬ t ≤ 200)]; rfl)
        clear HQ2
        go_wp2_with fail
        go_ret
        exact ⟨by rw [HF.out]; rfl, HB.out.alloc HB.out.size _⟩
      · by_cases e2 : t < f
        · have HF : Hid (Q = false) := Lib.hid (by rw [HQ2.out, mayF, decide_eq_false (by omega : ¬ f ≤ t)]; simp)
          clear HQ2
          go_wp2_with fail
          go_ret
          exact ⟨by rw [HF.out]; rfl, HB.out.alloc HB.out.size _⟩
        · by_cases e3 : f ≤ h + 1
          · have HF : Hid (Q = false) := Lib.hid (by rw [HQ2.out, mayF, decide_eq_false (by omega : ¬ h + 1 < f)]; simp)
            clear HQ2
            go_wp2_with fail
            go_ret
            exact ⟨by rw [HF.out]; rfl, HB.out.alloc HB.out.size _⟩
          · have HN : Hid (Q = mayF t (l.drop (i + 1))) := Lib.hid (by rw [HQ2.out, mayF, decide_eq_true (by omega : t ≤ 200), decide_eq_true (by omega : f ≤ t), decide_eq_true (by omega : h + 1 < f)]; rfl)
            clear HQ2
            go_wp2_with fail
            go_roundg g
            case measure => omega
            case rel => exact ⟨i + 1, t, rfl, by go_num, by omega, by omega, by omega, HN.out, HB.out.alloc HB.out.size _⟩

set_option maxRecDepth 100000 in
set_option maxHeartbeats 4000000 in
theorem rmay_calls {w : World} {v : Value} {l : List Sp} (h : SpIn w v l) : Calls Tryd.prog 10 #[v] w (Leaves (.bool (mayS l)) w) := by
  obtain ⟨a, c, rfl, hc, hm, hn⟩ := h.form
  obtain ⟨n, hl⟩ : ∃ n, l.length = n := ⟨_, rfl⟩
  obtain ⟨Q, hQ⟩ : ∃ Q, mayS l = Q := ⟨_, rfl⟩
  have HQ : Hid (Q = mayF (-1) (l.drop 0)) := Lib.hid (by rw [List.drop_zero]; exact hQ.symm)
  rw [hQ, hl]
  rw [hl] at h hc
  have HR := Lib.hid h
  have HL := Lib.hid hl
  have hcm : c ≤ maxLen := hm
  unfold maxLen at hcm
  clear h hl hQ hm hn
  go_enter Tryd.func10, Tryd.ntmps10
  go_wp2_with fail
  go_loopg [3] n (fun g ix wr => ∃ (i : Nat) (h : Int), ix = .int .i64 (i : Int) ∧ g + i = n ∧ ((i = 0 ∧ h = -1) ∨ (0 < i ∧ 1 ≤ h ∧ h ≤ 200 ∧ ∃ y : Sp, l[i - 1]? = some y ∧ h = y.2)) ∧ Q = mayF h (l.drop i) ∧ Below w.heap.size w wr)
  case atStart => exact ⟨0, -1, rfl, rfl, .inl ⟨rfl, rfl⟩, HQ.out, Below.refl _ _⟩
  case round =>
    obtain ⟨i, h, rfl, hg, hpre, hq, hb⟩ := hrel
    have HQ2 := Lib.hid hq
    have HB := Lib.hid hb
    have HP := Lib.hid hpre
    clear hq hb HQ hpre
    cases gk with
    | zero =>
      obtain rfl : i = n := by omega
      have hge : ¬ ((i : Int) < (i : Int)) := by omega
      have HF : Hid (Q = true) := Lib.hid (by rw [HQ2.out, List.drop_eq_nil_of_le (by have := HL.out; omega)]; rfl)
      go_wp2_with fail
      go_ret
      exact ⟨by rw [HF.out]; rfl, HB.out⟩
    | succ g =>
      have hlt : (i : Int) < (n : Int) := by omega
      have hic : i ≤ c := by omega
      obtain ⟨⟨f, t⟩, hx, hd⟩ := drop_at (l := l) (i := i) (by have := HL.out; omega)
      obtain ⟨b, o, rfl, y1, y2⟩ := HR.out.at hx
      replace y1 := cell_below HB.out y1
      replace y2 := cell_below HB.out y2
      dsimp only at y1 y2
      rw [hd] at HQ2
      clear hd
      have hadd : IntKind.i64.wrap ((i : Int) + 1) = ((i + 1 : Nat) : Int) := IntWalk.i64_in _ (by omega)
      have hi0 : (0 : Int) ≤ (i : Int) := by omega
      by_cases e1 : f < 1
      · have HF : Hid (Q = false) := Lib.hid (by rw [HQ2.out, mayF, decide_eq_false (by have := HP.out; omega : ¬ h + 1 < f)]; simp)
        have d1 : decide (f < 1) = true := decide_eq_true e1
        clear HQ2 hx
        go_wp2_with fail
        go_quiet (fail)
        go_wp2_with fail
        go_ret
        exact ⟨by rw [HF.out]; rfl, below_drewN HB.out _⟩
      · have d1 : decide (f < 1) = false := decide_eq_false e1
        by_cases e2 : t < f
        · have HF : Hid (Q = false) := Lib.hid (by rw [HQ2.out, mayF, decide_eq_false (by omega : ¬ f ≤ t)]; simp)
          have d2 : decide (t < f) = true := decide_eq_true e2
          clear HQ2 hx
          go_wp2_with fail
          go_quiet (fail)
          go_wp2_with fail
          go_ret
          exact ⟨by rw [HF.out]; rfl, below_drewN HB.out _⟩
        · have d2 : decide (t < f) = false := decide_eq_false e2
          by_cases e3 : 200 < t
          · have HF : Hid (Q = false) := Lib.hid (by rw [HQ2.out, mayF, decide_eq_false (by omega : ¬ t ≤ 200)]; rfl)
            have d3 : decide (200 < t) = true := decide_eq_true e3
            clear HQ2 hx
            go_wp2_with fail
            go_quiet (fail)
            go_wp2_with fail
            go_ret
            exact ⟨by rw [HF.out]; rfl, below_drewN HB.out _⟩
          · have d3 : decide (200 < t) = false := decide_eq_false e3
            rcases HP.out with ⟨rfl, rfl⟩ | ⟨hpos, h1, h2, ⟨f0, t0⟩, hy, rfl⟩
            · have HN : Hid (Q = mayF t (l.drop 1)) := Lib.hid (by rw [HQ2.out, mayF, decide_eq_true (by omega : t ≤ 200), decide_eq_true (by omega : f ≤ t), decide_eq_true (by omega : (-1 : Int) + 1 < f)]; rfl)
              have HX := Lib.hid hx
              rw [Nat.zero_mul, Nat.add_zero] at y1 y2
              clear HQ2 hx HP
              go_wp2_with fail
              go_quiet (fail)
              go_wp2_with fail
              go_roundg g
              case measure => omega
              case rel => exact ⟨1, t, rfl, by omega, .inr ⟨by omega, by omega, by omega, (f, t), HX.out, rfl⟩, HN.out, below_drewN HB.out _⟩
            · obtain ⟨b', o', hbo, z1, z2⟩ := HR.out.at hy
              injection hbo with hbo
              injection hbo with hb1 hb2 _
              subst hb1 hb2
              replace z2 := cell_below HB.out z2
              dsimp only at z2 h1 h2
              have hpd : decide ((0 : Int) < (i : Int)) = true := decide_eq_true (by omega)
              obtain ⟨k, rfl⟩ : ∃ k, i = k + 1 := ⟨i - 1, by omega⟩
              rw [Nat.add_sub_cancel] at z2
              have hsub : IntKind.i64.wrap (((k + 1 : Nat) : Int) - 1) = (k : Int) := by rw [IntWalk.i64_in _ (by omega)]; omega
              have hadd2 : IntKind.i64.wrap (h + 2) = h + 2 := IntWalk.i64_in _ (by omega)
              by_cases e4 : f < h + 2
              · have HF : Hid (Q = false) := Lib.hid (by rw [HQ2.out, mayF, decide_eq_false (by omega : ¬ h + 1 < f)]; simp)
                have d4 : decide (f < h + 2) = true := decide_eq_true e4
                clear HQ2 hx hy
                go_wp2_with fail
                go_quiet (fail)
                go_wp2_with fail
                go_ret
                exact ⟨by rw [HF.out]; rfl, below_drewN HB.out _⟩
              · have HN : Hid (Q = mayF t (l.drop (k + 1 + 1))) := Lib.hid (by rw [HQ2.out, mayF, decide_eq_true (by omega : t ≤ 200), decide_eq_true (by omega : f ≤ t), decide_eq_true (by omega : h + 1 < f)]; rfl)
                have d4 : decide (f < h + 2) = false := decide_eq_false e4
                have HX := Lib.hid hx
                clear HQ2 hx hy HP
                go_wp2_with fail
                go_quiet (fail)
                go_wp2_with fail
                go_roundg g
                case measure => omega
                case rel => exact ⟨k + 1 + 1, t, rfl, by omega, .inr ⟨by omega, by omega, by omega, (f, t), HX.out, rfl⟩, HN.out, below_drewN HB.out _⟩
end Go.Proofs.YtiolchdfjlffoaaDoor
