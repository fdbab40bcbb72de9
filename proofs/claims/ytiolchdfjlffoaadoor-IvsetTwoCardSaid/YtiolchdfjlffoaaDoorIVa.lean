/-
  Numbers in memory; the last span of a slice turned; whether a number may be a version. Condition: the slice leads to what it is said to.
-/
import Derived.Test.YtiolchdfjlffoaaDoorIFl
namespace Go.Proofs.YtiolchdfjlffoaaDoor
open Go.RowKit Go.Lib Go.Joins

/-- A slice of numbers in memory. -/
def IntIn (w : World) (v : Value) (l : List Int) : Prop :=
  ∃ a c, v = .slice a l.length c ∧ l.length ≤ c ∧ c ≤ maxLen ∧ (a = none → c = 0) ∧ (l = [] ∨ ∃ b o, a = some ⟨b, o, none⟩ ∧ ∀ (i : Nat) (x : Int), l[i]? = some x → w.cell? ⟨b, o + i, none⟩ = some (.int .i64 x))
theorem IntIn.nil (w : World) : IntIn w (.slice none 0 0) [] := ⟨none, 0, rfl, Nat.le_refl _, Nat.zero_le _, fun _ => rfl, .inl rfl⟩
theorem IntIn.below {w w' : World} {v : Value} {l : List Int} (h : IntIn w v l) (hb : Below w.heap.size w w') : IntIn w' v l := by
  obtain ⟨a, c, h1, h2, h3, h4, h5⟩ := h
  refine ⟨a, c, h1, h2, h3, h4, ?_⟩
  rcases h5 with h5 | ⟨b, o, h5, h7⟩
  · exact .inl h5
  · exact .inr ⟨b, o, h5, fun i x hx => cell_below hb (h7 i x hx)⟩
theorem IntIn.form {w : World} {v : Value} {l : List Int} (h : IntIn w v l) : ∃ a c, v = .slice a l.length c ∧ l.length ≤ c ∧ c ≤ maxLen ∧ (a = none → c = 0) := by
  obtain ⟨a, c, h1, h2, h3, h4, _⟩ := h
  exact ⟨a, c, h1, h2, h3, h4⟩
theorem IntIn.at {w : World} {a : Option Addr} {n c : Nat} {l : List Int} (h : IntIn w (.slice a n c) l) {i : Nat} {x : Int} (hx : l[i]? = some x) : ∃ b o, a = some ⟨b, o, none⟩ ∧ w.cell? ⟨b, o + i, none⟩ = some (.int .i64 x) := by
  obtain ⟨a', c', h1, _, _, _, h5⟩ := h
  injection h1 with h1 _ _
  subst h1
  rcases h5 with rfl | ⟨b, o, h5, h7⟩
  · simp at hx
  · exact ⟨b, o, h5, h7 i x hx⟩
/-- Whether a number is among numbers. -/
def inI (l : List Int) (v : Int) : Bool := l.any fun x => decide (v = x)
theorem inI_nil (v : Int) : inI [] v = false := rfl
theorem inI_snoc (l : List Int) (x v : Int) : inI (l ++ [x]) v = (inI l v || decide (v = x)) := by
  unfold inI
  rw [List.any_append]
  simp
/-- .. and may be a version. -/
def verI (l : List Int) (v : Int) : Bool := (decide (1 ≤ v) && decide (v ≤ 200)) && inI l v
theorem verI_zero (l : List Int) {v : Int} (h : v ≤ 0) : verI l v = false := by
  unfold verI
  rw [decide_eq_false (by omega : ¬ 1 ≤ v)]
  rfl
theorem setF_ver (l : List Int) : setF (verI l) = setF (inI l) := setF_ext fun v h1 h2 => by
  unfold verI
  rw [decide_eq_true h1, decide_eq_true h2]
  rfl
theorem take_snoc {α : Type} {l : List α} {i : Nat} {x : α} (h : l[i]? = some x) : l.take (i + 1) = l.take i ++ [x] := by
  obtain ⟨hi, rfl⟩ := List.getElem?_eq_some_iff.1 h
  exact List.take_succ_eq_append_getElem hi
theorem verI_on {l : List Int} {i : Nat} {x : Int} (h : l[i]? = some x) (h1 : 1 ≤ x) (h2 : x ≤ 200) (v : Int) : (verI (l.take i) v || decide (v = x)) = verI (l.take (i + 1)) v := by
  unfold verI
  rw [take_snoc h, inI_snoc]
  by_cases e : v = x
  · subst e
    rw [decide_eq_true h1, decide_eq_true h2, decide_eq_true rfl]
    simp
  · rw [decide_eq_false e, Bool.or_false, Bool.or_false]
theorem verI_off {l : List Int} {i : Nat} {x : Int} (h : l[i]? = some x) (h1 : ¬ (1 ≤ x ∧ x ≤ 200)) (v : Int) : verI (l.take i) v = verI (l.take (i + 1)) v := by
  unfold verI
  rw [take_snoc h, inI_snoc]
  by_cases e : v = x
  · subst e
    by_cases g1 : 1 ≤ v
    · rw [decide_eq_false (by omega : ¬ v ≤ 200), Bool.and_false, Bool.false_and, Bool.false_and]
    · rw [decide_eq_false g1, Bool.false_and, Bool.false_and, Bool.false_and]
  · rw [decide_eq_false e, Bool.or_false]
theorem flatP_set {m : List Sp} {x : Sp} {v : Int} : (flatP (m ++ [x])).set (m.length * 2 + 1) (.int .i64 v) = flatP (m ++ [(x.1, v)]) := by
  rw [flatP_app, flatP_app, List.set_append_right _ _ (by rw [flatP_len]; omega), flatP_len]
  congr 1
  rw [Nat.add_sub_cancel_left]
  rfl
/-- The last span's end is turned. -/
theorem OwnP.last {n0 : Nat} {w : World} {a : Option Addr} {n c : Nat} {m : List Sp} {x : Sp} {v : Int} (h : OwnP n0 w (.slice a n c) (m ++ [x])) :
    ∃ g, a = some ⟨g, 0, none⟩ ∧ n0 ≤ g ∧ w.cell? ⟨g, m.length * 2 + 1, none⟩ = some (.int .i64 x.2) ∧ w.frozen? ⟨g, m.length * 2 + 1, none⟩ = false ∧ OwnP n0 (w.setCell ⟨g, m.length * 2 + 1, none⟩ (.int .i64 v)) (.slice a n c) (m ++ [(x.1, v)]) := by
  have hr := h.row
  rcases hr.2 with ⟨h1, h0⟩ | ⟨g, cap, cur, h1, hg, _⟩
  · rw [List.length_append, List.length_singleton] at h0
    omega
  · injection h1 with e1 e2 e3
    subst e1 e3
    have hn : n = (m ++ [x]).length := e2
    have hc := (h.in.at (i := m.length) (x := x) (by simp))
    obtain ⟨b, o, hb, _, y2⟩ := hc
    have hbo : b = g ∧ o = 0 := by
      injection hb with hb
      injection hb with hb1 hb2 _
      exact ⟨hb1.symm, hb2.symm⟩
    obtain ⟨rfl, rfl⟩ := hbo
    rw [Nat.zero_add] at y2
    rw [← hn] at hr
    have hs := hr.stored (m.length * 2 + 1) (.int .i64 v)
    rw [flatP_set] at hs
    refine ⟨b, rfl, h.new b rfl, y2, hr.frozenAt _, ⟨?_, h.new⟩⟩
    have : (m ++ [(x.1, v)]).length = n := by rw [hn, List.length_append, List.length_append]; rfl
    rw [this]
    exact hs.1
theorem index_flag (g : Int → Bool) {i : Nat} (hi : i ≤ 200) (w : World) : (Instr.index 47 (.agg (flagV g)) (.int .i64 (i : Int))).run Tryd.prog w = .ok (.bool (g (i : Int))) w := by
  have hf := flagV_at g hi
  have h1 : ¬ 201 ≤ i := by omega
  simp [Instr.index, asIntOf, run_underlying Tryd.underlying47, go_sem, part, hf, h1]

set_option maxRecDepth 100000 in
set_option maxHeartbeats 2000000 in
theorem version_calls (v : Int) (w : World) : Calls Tryd.prog 42 #[.int .i64 v] w (Says (.bool (decide (1 ≤ v) && decide (v ≤ 200))) w) := by
  by_cases h1 : 1 ≤ v
  · by_cases h2 : v ≤ 200
    · go_enter Tryd.func42, Tryd.ntmps42
      go_wp2_with fail
      go_ret
      exact ⟨by rw [decide_eq_true h1, decide_eq_true h2]; rfl, rfl⟩
    · go_enter Tryd.func42, Tryd.ntmps42
      go_wp2_with fail
      go_ret
      exact ⟨by rw [decide_eq_false (by omega : ¬ v ≤ 200)]; simp, rfl⟩
  · go_enter Tryd.func42, Tryd.ntmps42
    go_wp2_with fail
    go_ret
    exact ⟨by rw [decide_eq_false (by omega : ¬ 1 ≤ v), Bool.false_and]; rfl, rfl⟩
end Go.Proofs.YtiolchdfjlffoaaDoor
