/-
  Numbers in a slice of the call's own, and append to it; a set's versions one by one, in whatever order. No condition.
-/
import Derived.Test.YtiolchdfjlffoaaDoorIAw
namespace Go.Proofs.YtiolchdfjlffoaaDoor
open Go.RowKit Go.Lib Go.Joins

/-- A row of numbers as values. -/
def intV (l : List Int) : List Value := l.map fun x => .int .i64 x
theorem intV_app (l m : List Int) : intV (l ++ m) = intV l ++ intV m := List.map_append
theorem intV_at {l : List Int} {i : Nat} {x : Int} (h : l[i]? = some x) : (intV l)[i]? = some (.int .i64 x) := by
  unfold intV
  rw [List.getElem?_map, h]
  rfl
theorem intV_one {l : List Int} {u : Value} (h : u ∈ intV l) : u.oneCell' = true := by
  obtain ⟨x, _, rfl⟩ := List.mem_map.1 h
  rfl
theorem infoI : (Tryd.prog.info? 3).map (fun i => (i.zero, i.size, i.bytes)) = some (some (.int .i64 0), 1, 8) := by kernel_rfl
/-- Numbers in a slice that was made since n0. -/
structure OwnI (n0 : Nat) (w : World) (v : Value) (l : List Int) : Prop where
  row : w.ownsRow 0 3 1 v l.length (intV l)
  new : ∀ k, v.ownBlock = some k → n0 ≤ k
theorem OwnI.nil (n0 : Nat) (w : World) : OwnI n0 w (.slice none 0 0) [] := ⟨World.ownsRow_nil _ _ _ _, (fun k e => by cases e)⟩
theorem OwnI.keep {n0 : Nat} {w w' : World} {O : Nat → Prop} {v : Value} {l : List Int} (h : OwnI n0 w v l) (hk : Keeps O w w') (hO : ∀ k, n0 ≤ k → ¬ O k) : OwnI n0 w' v l :=
  ⟨ownsRow_keep h.row hk (fun k e => hO k (h.new k e)), h.new⟩
theorem OwnI.below {n0 : Nat} {w w' : World} {v : Value} {l : List Int} (h : OwnI n0 w v l) (hb : Below w.heap.size w w') : OwnI n0 w' v l := h.keep (keeps_below hb Non) (fun _ _ e => e)
theorem OwnI.in {n0 : Nat} {w : World} {v : Value} {l : List Int} (h : OwnI n0 w v l) : IntIn w v l := by
  rcases h.row.2 with ⟨h1, h0⟩ | ⟨g, cap, cur, h1, hg, hgb, hcap, hcm, hcur, htk⟩
  · exact ⟨none, 0, by rw [h1, h0], by rw [h0]; exact Nat.zero_le _, Nat.zero_le _, fun _ => rfl, .inl (List.length_eq_zero_iff.1 h0)⟩
  · refine ⟨_, cap, h1, hcap, hcm, fun e => (by cases e), .inr ⟨g, 0, rfl, fun i x hx => ?_⟩⟩
    have hc := h.row.cells (g := g) (by rw [h1]; rfl)
    have y1 := hc _ _ (intV_at hx)
    rw [Addr.add_mid] at y1
    exact y1
/-- One more number, laid out in a literal. -/
theorem OwnI.append {n0 : Nat} {w : World} {v : Value} {l : List Int} (h : OwnI n0 w v l) (x : Int) (hn : n0 ≤ w.heap.size) (hs : l.length ≤ 2000000000) :
    ∃ v' w', (∀ ty, (Builtin.append_ #[28, 28] ty #[v, .slice (some ⟨w.heap.size, 0, none⟩) 1 1]).run Tryd.prog (w.alloc (.cells #[.int .i64 x] 3)) = .ok v' w') ∧ OwnI n0 w' v' (l ++ [x]) ∧ Keeps (fun k => v.ownBlock = some k) w w' := by
  obtain ⟨v', w', h1, h2, h3, h4⟩ := append_any (w := w.alloc (.cells #[.int .i64 x] 3)) Tryd.underlying28 infoI rfl (by decide) (h.row.alloc _) (b := ⟨w.heap.size, 0, none⟩) (m := 1) (c := 1) (news := intV [x]) rfl (newA_cells w (intV [x]) _)
    (fun u hu => intV_one hu) (by unfold maxLen; omega) (by omega)
  have hk : Keeps (fun k => v.ownBlock = some k) w w' := ((Keeps.refl _ w).alloc _).grown h3 (fun k e => .inl e)
  refine ⟨v', w', h1, ⟨by rw [List.length_append, intV_app]; exact h2, fun k e => ?_⟩, hk⟩
  rcases h4 k e with h5 | h5
  · exact h.new k h5
  · simp at h5; omega

/-- The versions up to n for which g holds. -/
def upTo (g : Int → Bool) : Nat → List Int
  | 0 => []
  | n + 1 => if g ((n + 1 : Nat) : Int) = true then upTo g n ++ [((n + 1 : Nat) : Int)] else upTo g n
theorem upTo_len (g : Int → Bool) : ∀ n, ((upTo g n).length : Int) = cntTo g n ∧ (upTo g n).length ≤ n
  | 0 => ⟨rfl, Nat.le_refl _⟩
  | n + 1 => by
    obtain ⟨h1, h2⟩ := upTo_len g n
    rw [upTo, cntTo]
    split
    · rw [List.length_append, List.length_singleton]
      exact ⟨by omega, by omega⟩
    · exact ⟨h1, by omega⟩
theorem upTo_in (g : Int → Bool) (v : Int) : ∀ n : Nat, inI (upTo g n) v = ((decide (1 ≤ v) && decide (v ≤ (n : Int))) && g v)
  | 0 => by
    rw [upTo, inI_nil]
    by_cases h1 : 1 ≤ v
    · rw [decide_eq_false (by omega : ¬ v ≤ ((0 : Nat) : Int)), Bool.and_false, Bool.false_and]
    · rw [decide_eq_false h1]
      rfl
  | n + 1 => by
    have ih := upTo_in g v n
    rw [upTo]
    by_cases hv : v = ((n + 1 : Nat) : Int)
    · have e1 : decide (v ≤ ((n + 1 : Nat) : Int)) = true := decide_eq_true (by omega)
      have e2 : decide (1 ≤ v) = true := decide_eq_true (by omega)
      have e3 : decide (v ≤ (n : Int)) = false := decide_eq_false (by omega)
      rw [e3, Bool.and_false, Bool.false_and] at ih
      rw [e1, e2, ← hv]
      cases hg : g v with
      | true =>
        rw [if_pos rfl, inI_snoc, decide_eq_true rfl, Bool.or_true]
        rfl
      | false =>
        rw [if_neg Bool.false_ne_true, ih]
        rfl
    · have e1 : decide (v ≤ ((n + 1 : Nat) : Int)) = decide (v ≤ (n : Int)) := decide_eq_decide.2 (by omega)
      rw [e1]
      split
      · rw [inI_snoc, decide_eq_false hv, Bool.or_false, ih]
      · exact ih
theorem ones_set {A : List Sp} (h : mayS A = true) : setF (inI (upTo (inS A) 200)) = A := by
  refine (setF_of h fun v h1 h2 => ?_).symm
  rw [upTo_in, decide_eq_true h1, decide_eq_true (show v ≤ ((200 : Nat) : Int) from h2)]
  rfl
theorem ones_count {A : List Sp} (h : mayS A = true) : cntS A = ((upTo (inS A) 200).length : Int) := by
  rw [(upTo_len _ _).1]
  unfold cntS
  rw [if_pos h]
  exact (cnt_of h).1
/-- The first i of a row, begun at t and gone round. -/
def rotL (L : List Int) (t : Nat) : Nat → List Int
  | 0 => []
  | i + 1 => rotL L t i ++ [L.getD ((i + t) % L.length) 0]
theorem rotL_mem {L : List Int} {t : Nat} {v : Int} : ∀ {i : Nat}, v ∈ rotL L t i ↔ ∃ j, j < i ∧ v = L.getD ((j + t) % L.length) 0
  | 0 => ⟨fun h => (by cases h), fun ⟨j, h, _⟩ => (by omega)⟩
  | i + 1 => by
    rw [rotL, List.mem_append, rotL_mem (i := i), List.mem_singleton]
    constructor
    · rintro (⟨j, h1, h2⟩ | h)
      · exact ⟨j, by omega, h2⟩
      · exact ⟨i, by omega, h⟩
    · rintro ⟨j, h1, h2⟩
      by_cases hj : j = i
      · subst hj
        exact .inr h2
      · exact .inl ⟨j, by omega, h2⟩
theorem inI_mem {l : List Int} {v : Int} : inI l v = decide (v ∈ l) := by
  unfold inI
  by_cases h : v ∈ l
  · rw [decide_eq_true h, List.any_eq_true]
    exact ⟨v, h, decide_eq_true rfl⟩
  · rw [decide_eq_false h, List.any_eq_false]
    intro x hx e
    exact h (by rw [of_decide_eq_true e]; exact hx)
theorem rot_all {L : List Int} (t : Nat) (v : Int) : inI (rotL L t L.length) v = inI L v := by
  rw [inI_mem, inI_mem]
  refine decide_eq_decide.2 ?_
  rw [rotL_mem]
  constructor
  · rintro ⟨j, h1, rfl⟩
    have h2 := Nat.mod_lt (j + t) (show 0 < L.length by omega)
    rw [List.getD_eq_getElem?_getD, List.getElem?_eq_getElem h2]
    exact List.getElem_mem h2
  · intro h
    obtain ⟨k, hk, rfl⟩ := List.getElem_of_mem h
    refine ⟨(k + (L.length - t % L.length)) % L.length, Nat.mod_lt _ (by omega), ?_⟩
    have hm := Nat.mod_lt t (show 0 < L.length by omega)
    have e : ((k + (L.length - t % L.length)) % L.length + t) % L.length = k := by
      rw [Nat.mod_add_mod]
      have h1 := Nat.div_add_mod t L.length
      have h2 : k + (L.length - t % L.length) + t = k + L.length * (1 + t / L.length) := by
        rw [Nat.mul_add, Nat.mul_one]
        omega
      rw [h2, Nat.add_mul_mod_self_left, Nat.mod_eq_of_lt hk]
    rw [e, List.getD_eq_getElem?_getD, List.getElem?_eq_getElem hk]
    rfl
theorem rot_step (L : List Int) (t i : Nat) : putS orrK (setF (inI (rotL L t i))) (setF (inI [L.getD ((i + t) % L.length) 0])) = setF (inI (rotL L t (i + 1))) := by
  refine setF_of (putS_may _ _ _) fun v h1 h2 => ?_
  rw [putS_in (setF_may _) (setF_may _) rfl, setF_in, setF_in, decide_eq_true h1, decide_eq_true h2, rotL, inI_snoc]
  show (inI (rotL L t i) v || inI ([] ++ [_]) v) = _
  rw [inI_snoc, inI_nil, Bool.false_or]
theorem rot_end {A : List Sp} (h : mayS A = true) (t : Nat) : setF (inI (rotL (upTo (inS A) 200) t (upTo (inS A) 200).length)) = A := by
  have e : setF (inI (rotL (upTo (inS A) 200) t (upTo (inS A) 200).length)) = setF (inI (upTo (inS A) 200)) := setF_ext fun v _ _ => rot_all t v
  rw [e, ones_set h]
end Go.Proofs.YtiolchdfjlffoaaDoor
