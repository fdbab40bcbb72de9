/-
 Names of attributes aren't empty, in a tree and as it grows; so nothing of a tree lies in a block whose cells are those of an empty document. No condition.
-/
import Derived.Test.YtocnedpclllbhaaGreatDoorXPt
import Derived.Test.YtocnedpclllbhaaGreatDoorXTo
namespace Go.Proofs.YtocnedpclllbhaaGreatDoor
open Go.RowKit Go.Lib Go.Joins

theorem nrC_one : ∀ (l : List Nr), (∀ x ∈ l, x.av.oneCell' = true ∧ x.kv.oneCell' = true) → ∀ u ∈ nrC l, u.oneCell' = true
  | [], _, u, hu => by cases hu
  | x :: t, h, u, hu => by
    have hu2 : u ∈ Value.int .i64 (x.kind : Int) :: .string (strB x.name) :: .string (strB x.text) :: x.av :: x.kv :: nrC t := hu
    simp only [List.mem_cons] at hu2
    rcases hu2 with rfl | rfl | rfl | rfl | rfl | h2
    · rfl
    · rfl
    · rfl
    · exact (h x (List.mem_cons_self ..)).1
    · exact (h x (List.mem_cons_self ..)).2
    · exact nrC_one t (fun y hy => h y (List.mem_cons_of_mem _ hy)) u h2
theorem nrC_get : ∀ (l : List Nr) (j : Nat) (u : Value), (nrC l)[j]? = some u → ∃ i x, l[i]? = some x ∧ ((j = i * 5 ∧ u = .int .i64 (x.kind : Int)) ∨ (j = i * 5 + 1 ∧ u = .string (strB x.name)) ∨ (j = i * 5 + 2 ∧ u = .string (strB x.text)) ∨ (j = i * 5 + 3 ∧ u = x.av) ∨ (j = i * 5 + 4 ∧ u = x.kv))
  | [], j, u, h => by simp [nrC] at h
  | x :: t, j, u, h => by
    have h2 : (Value.int .i64 (x.kind : Int) :: .string (strB x.name) :: .string (strB x.text) :: x.av :: x.kv :: nrC t)[j]? = some u := h
    match j, h2 with
    | 0, h2 => exact ⟨0, x, rfl, .inl ⟨rfl, (Option.some.inj h2).symm⟩⟩
    | 1, h2 => exact ⟨0, x, rfl, .inr (.inl ⟨rfl, (Option.some.inj h2).symm⟩)⟩
    | 2, h2 => exact ⟨0, x, rfl, .inr (.inr (.inl ⟨rfl, (Option.some.inj h2).symm⟩))⟩
    | 3, h2 => exact ⟨0, x, rfl, .inr (.inr (.inr (.inl ⟨rfl, (Option.some.inj h2).symm⟩)))⟩
    | 4, h2 => exact ⟨0, x, rfl, .inr (.inr (.inr (.inr ⟨rfl, (Option.some.inj h2).symm⟩)))⟩
    | j + 5, h2 =>
      obtain ⟨i, y, h3, h4⟩ := nrC_get t j u h2
      refine ⟨i + 1, y, h3, ?_⟩
      rcases h4 with ⟨h5, h6⟩ | ⟨h5, h6⟩ | ⟨h5, h6⟩ | ⟨h5, h6⟩ | ⟨h5, h6⟩
      · exact .inl ⟨by omega, h6⟩
      · exact .inr (.inl ⟨by omega, h6⟩)
      · exact .inr (.inr (.inl ⟨by omega, h6⟩))
      · exact .inr (.inr (.inr (.inl ⟨by omega, h6⟩)))
      · exact .inr (.inr (.inr (.inr ⟨by omega, h6⟩)))

theorem RowIn.take {w : World} {S : Nat → Prop} {b o c : Nat} {rows : List Nr} {n : Nat} (h : RowIn w S (.slice (some ⟨b, o, none⟩) n c) rows) (j : Nat) (hj : j ≤ rows.length) : RowIn w S (.slice (some ⟨b, o, none⟩) j c) (rows.take j) := by
  obtain ⟨a, c2, e, hc, hm, hn, hr⟩ := h
  injection e with e1 e2 e3
  subst e1
  subst e3
  have hl : (rows.take j).length = j := by rw [List.length_take]; omega
  refine ⟨_, c, by rw [hl], by omega, hm, fun h => (by cases h), ?_⟩
  rcases hr with h0 | ⟨b2, o2, e2, hS, hcell⟩
  · exact .inl (by rw [h0]; simp)
  · refine .inr ⟨b2, o2, e2, hS, fun i x hx => hcell i x ?_⟩
    rw [List.getElem?_take] at hx
    split at hx
    · exact hx
    · cases hx
theorem NodesIn.take {w : World} {S : Nat → Prop} {rows : List Nr} {ks : List Tr} (h : NodesIn w S rows ks) (j : Nat) : NodesIn w S (rows.take j) (ks.take j) := by
  refine ⟨by rw [List.length_take, List.length_take, h.1], fun i x t hx ht => ?_⟩
  rw [List.getElem?_take] at hx ht
  split at hx
  · next hi =>
    rw [if_pos hi] at ht
    exact h.2 i x t hx ht
  · cases hx
theorem NodesIn.drop {w : World} {S : Nat → Prop} {rows : List Nr} {ks : List Tr} (h : NodesIn w S rows ks) (j : Nat) : NodesIn w S (rows.drop j) (ks.drop j) := by
  refine ⟨by rw [List.length_drop, List.length_drop, h.1], fun i x t hx ht => ?_⟩
  rw [List.getElem?_drop] at hx ht
  exact h.2 (j + i) x t hx ht
theorem RowIn.drop {w : World} {S : Nat → Prop} {b o c : Nat} {rows : List Nr} {n : Nat} (h : RowIn w S (.slice (some ⟨b, o, none⟩) n c) rows) (j : Nat) (hj : j ≤ rows.length) : RowIn w S (.slice (some ⟨b, o + j * 5, none⟩) (n - j) (c - j)) (rows.drop j) := by
  obtain ⟨a, c2, e, hc, hm, hn, hr⟩ := h
  injection e with e1 e2 e3
  subst e1
  subst e3
  subst e2
  have hl : (rows.drop j).length = rows.length - j := by rw [List.length_drop]
  refine ⟨_, c - j, by rw [hl], by omega, by omega, fun h => (by cases h), ?_⟩
  rcases hr with h0 | ⟨b2, o2, e2, hS, hcell⟩
  · exact .inl (by rw [h0]; simp)
  · injection e2 with e2
    injection e2 with e2 e3
    subst e2
    subst e3
    refine .inr ⟨b, o + j * 5, rfl, hS, fun i x hx => ?_⟩
    rw [List.getElem?_drop] at hx
    have h5 := hcell (j + i) x hx
    rw [show o + j * 5 + i * 5 = o + (j + i) * 5 by omega]
    exact h5
theorem NodesIn.ones {w : World} {S : Nat → Prop} {rows : List Nr} {ks : List Tr} (h : NodesIn w S rows ks) : ∀ x ∈ rows, x.av.oneCell' = true ∧ x.kv.oneCell' = true := by
  intro x hx
  obtain ⟨i, hi⟩ := List.getElem?_of_mem hx
  obtain ⟨t, ht⟩ : ∃ t, ks[i]? = some t := ⟨_, List.getElem?_eq_getElem (by rw [← h.1]; exact (List.getElem?_eq_some_iff.1 hi).1)⟩
  obtain ⟨_, _, _, ⟨a, c, ha, _⟩, rows2, ⟨a2, c2, hk, _⟩, _⟩ := (h.2 i x t hi ht).kids
  rw [ha, hk]
  exact ⟨rfl, rfl⟩


/-- A block whose cells are those of an empty document. -/
def Blank (w : World) (b : Nat) : Prop := ∃ t, w.heap[b]? = some (.cells #[.slice none 0 0, .int .i64 0, .string ⟨#[]⟩, .string ⟨#[]⟩, .slice none 0 0, .slice none 0 0, .slice none 0 0] t (0, 0))
theorem Blank.row {w : World} {b : Nat} (h : Blank w b) {v : Value} {l : List Nr} (hr : RowIn w Any v l) (hl : ∀ x ∈ l, x.kind ≠ 0) : RowIn w (fun k => k ≠ b) v l := by
  obtain ⟨t, h⟩ := h
  obtain ⟨a, c, h1, h2, h3, h4, h5⟩ := hr
  refine ⟨a, c, h1, h2, h3, h4, ?_⟩
  rcases h5 with h5 | ⟨b2, o, h6, _, h7⟩
  · exact .inl h5
  · cases l with
    | nil => exact .inl rfl
    | cons x l =>
      refine .inr ⟨b2, o, h6, fun e => ?_, h7⟩
      subst e
      obtain ⟨y1, y2, _⟩ := h7 0 x rfl
      rw [cell_of_block h] at y1 y2
      match o, y1, y2 with
      | 0, y1, _ => cases y1
      | 1, y1, _ =>
        have e1 : (Value.int .i64 0) = .int .i64 x.kind := Option.some.inj y1
        injection e1 with _ e1
        exact hl x (List.mem_cons_self ..) e1.symm
      | 2, y1, _ => cases y1
      | 3, y1, _ => cases y1
      | 4, y1, _ => cases y1
      | 5, y1, _ => cases y1
      | 6, y1, _ => cases y1
      | o + 7, y1, _ => simp at y1
end Go.Proofs.YtocnedpclllbhaaGreatDoor
