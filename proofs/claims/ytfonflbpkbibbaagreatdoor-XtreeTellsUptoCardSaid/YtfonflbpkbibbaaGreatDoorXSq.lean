/-
  xtree's Same. Condition: both trees lie in memory; the first has no more than 2 to the 20 nodes.
-/
import Derived.Test.YtfonflbpkbibbaaGreatDoorXSp
namespace Go.Proofs.YtfonflbpkbibbaaGreatDoor
open Go.RowKit Go.Lib Go.Joins

theorem infoQ : (Tryz.prog.info? 75).map (fun i => (i.zero, i.size, i.bytes)) = some (some (.agg #[.pointer none, .pointer none]), 2, 16) := by kernel_rfl
def pairC : List Addr → List Addr → List Value
  | p :: ps, q :: qs => .pointer (some p) :: .pointer (some q) :: pairC ps qs
  | [], _ => []
  | _ :: _, [] => []
theorem pairC_len : ∀ {ps qs : List Addr}, ps.length = qs.length → (pairC ps qs).length = ps.length * 2
  | [], [], _ => rfl
  | p :: ps, q :: qs, h => by
    rw [pairC, List.length_cons, List.length_cons, pairC_len (ps := ps) (qs := qs) (by rw [List.length_cons, List.length_cons] at h; omega), List.length_cons]
    omega
  | [], _ :: _, h => by cases h
  | _ :: _, [], h => by cases h
theorem pairC_app : ∀ {ps qs : List Addr} (ps2 qs2 : List Addr), ps.length = qs.length → pairC (ps ++ ps2) (qs ++ qs2) = pairC ps qs ++ pairC ps2 qs2
  | [], [], _, _, _ => rfl
  | p :: ps, q :: qs, ps2, qs2, h => by
    rw [List.cons_append, List.cons_append, pairC, pairC, pairC_app ps2 qs2 (by rw [List.length_cons, List.length_cons] at h; omega), List.cons_append, List.cons_append]
  | [], _ :: _, _, _, h => by cases h
  | _ :: _, [], _, _, h => by cases h
theorem pairC_at : ∀ {ps qs : List Addr} {i : Nat} {p q : Addr}, ps[i]? = some p → qs[i]? = some q → (pairC ps qs)[i * 2]? = some (.pointer (some p)) ∧ (pairC ps qs)[i * 2 + 1]? = some (.pointer (some q))
  | [], _, i, p, q, h, _ => by simp at h
  | _ :: _, [], i, p, q, _, h => by simp at h
  | x :: ps, y :: qs, 0, p, q, h1, h2 => by
    rw [← Option.some.inj h1, ← Option.some.inj h2]
    exact ⟨rfl, rfl⟩
  | x :: ps, y :: qs, i + 1, p, q, h1, h2 => by
    obtain ⟨h3, h4⟩ := pairC_at (ps := ps) (qs := qs) (i := i) h1 h2
    rw [show (i + 1) * 2 = i * 2 + 1 + 1 by omega]
    exact ⟨h3, h4⟩
theorem row_drop {w : World} {e size n m g c : Nat} {xs : List Value} (h : w.ownsRow 0 e size (.slice (some ⟨g, 0, none⟩) n c) n xs) (hm : m ≤ n) : w.ownsRow 0 e size (.slice (some ⟨g, 0, none⟩) m c) m (xs.take (m * size)) := by
  have hms : m * size ≤ n * size := Nat.mul_le_mul_right _ hm
  refine ⟨by rw [List.length_take, h.1]; exact Nat.min_eq_left hms, ?_⟩
  rcases h.2 with ⟨h1, _⟩ | ⟨g2, cap, cur, h1, h2, h3, h4, h5, h6, h7⟩
  · cases h1
  · injection h1 with e1 _ e3
    injection e1 with e1
    injection e1 with e1
    subst e1 e3
    refine .inr ⟨g, c, cur, rfl, h2, h3, by omega, h5, h6, ?_⟩
    rw [← h7, List.take_take, Nat.min_eq_left hms]
/-- A slice of pairs of pointers that nobody else has. -/
structure QRow (w : World) (n0 : Nat) (v : Value) (ps qs : List Addr) : Prop where
  len : ps.length = qs.length
  row : w.ownsRow 0 75 2 v ps.length (pairC ps qs)
  new : ∀ k, v.ownBlock = some k → n0 ≤ k
theorem QRow.keep {w w' : World} {O : Nat → Prop} {n0 : Nat} {v : Value} {ps qs : List Addr} (h : QRow w n0 v ps qs) (hk : Keeps O w w') (hO : ∀ k, v.ownBlock = some k → ¬ O k) : QRow w' n0 v ps qs := ⟨h.len, ownsRow_keep h.row hk hO, h.new⟩
theorem QRow.below {w w' : World} {n0 : Nat} {v : Value} {ps qs : List Addr} (h : QRow w n0 v ps qs) (hb : Below w.heap.size w w') : QRow w' n0 v ps qs := h.keep (keeps_below hb Non) (fun _ _ h => h)
theorem QRow.form {w : World} {n0 : Nat} {v : Value} {ps qs : List Addr} (h : QRow w n0 v ps qs) : (v = .slice none 0 0 ∧ ps = []) ∨ ∃ g c, v = .slice (some ⟨g, 0, none⟩) ps.length c ∧ ps.length ≤ c ∧ c ≤ maxLen ∧ g < w.heap.size ∧ n0 ≤ g ∧ ∀ i p q, ps[i]? = some p → qs[i]? = some q → w.cell? ⟨g, i * 2, none⟩ = some (.pointer (some p)) ∧ w.cell? ⟨g, i * 2 + 1, none⟩ = some (.pointer (some q)) := by
  rcases h.row.2 with ⟨h1, h0⟩ | ⟨g, cap, cur, h1, hg, hgb, hcap, hcm, hcur, htk⟩
  · exact .inl ⟨h1, List.length_eq_zero_iff.1 h0⟩
  · refine .inr ⟨g, cap, h1, hcap, hcm, lt_of_block hgb, h.new g (by rw [h1]; rfl), fun i p q hp hq => ?_⟩
    obtain ⟨e1, e2⟩ := pairC_at hp hq
    have hc := h.row.cells (g := g) (by rw [h1]; rfl)
    have c1 := hc _ _ e1
    have c2 := hc _ _ e2
    rw [Addr.add_mid, Nat.zero_add] at c1 c2
    exact ⟨c1, c2⟩
theorem QRow.form0 {w : World} {n0 : Nat} {v : Value} {qs : List Addr} (h : QRow w n0 v [] qs) : ∃ a c, v = .slice a 0 c := by
  rcases h.form with ⟨h1, _⟩ | ⟨g, c, h1, _⟩
  · exact ⟨_, _, h1⟩
  · exact ⟨_, _, h1⟩
theorem QRow.formN {w : World} {n0 : Nat} {v : Value} {ps qs : List Addr} (h : QRow w n0 v ps qs) (hn : ps ≠ []) : ∃ g c, v = .slice (some ⟨g, 0, none⟩) ps.length c ∧ ps.length ≤ c ∧ c ≤ maxLen ∧ g < w.heap.size ∧ n0 ≤ g ∧ ∀ i p q, ps[i]? = some p → qs[i]? = some q → w.cell? ⟨g, i * 2, none⟩ = some (.pointer (some p)) ∧ w.cell? ⟨g, i * 2 + 1, none⟩ = some (.pointer (some q)) := by
  rcases h.form with ⟨_, h0⟩ | h
  · exact absurd h0 hn
  · exact h
theorem pairC_one : ∀ (ps qs : List Addr), ∀ u ∈ pairC ps qs, u.oneCell' = true
  | [], _, u, h => by cases h
  | _ :: _, [], u, h => by cases h
  | p :: ps, q :: qs, u, h => by
    have h2 : u ∈ Value.pointer (some p) :: .pointer (some q) :: pairC ps qs := h
    simp only [List.mem_cons] at h2
    rcases h2 with rfl | rfl | h2
    · rfl
    · rfl
    · exact pairC_one ps qs u h2
/-- A pair appended. -/
theorem QRow.append {w : World} {n0 : Nat} {v : Value} {ps qs : List Addr} (h : QRow w n0 v ps qs) (hn : n0 ≤ w.heap.size) {b : Nat} {c : Nat} {p q : Addr} (h1 : w.cell? ⟨b, 0, none⟩ = some (.pointer (some p))) (h2 : w.cell? ⟨b, 1, none⟩ = some (.pointer (some q))) (hmx : ps.length + 1 ≤ 1000000000) :
    ∃ v' w', (∀ ty, (Builtin.append_ #[76, 76] ty #[v, .slice (some ⟨b, 0, none⟩) 1 c]).run Tryz.prog w = .ok v' w') ∧ QRow w' n0 v' (ps ++ [p]) (qs ++ [q]) ∧ Keeps (fun k => v.ownBlock = some k) w w' := by
  obtain ⟨v', w', hrun, hrow, hgrown, hown⟩ := append_any (w := w) Tryz.underlying76 infoQ rfl (by decide) h.row (b := ⟨b, 0, none⟩) (m := 1) (c := c) (news := pairC [p] [q]) rfl (fun j u hj => by
    match j, hj with
    | 0, hj => rw [Addr.add_mid, ← Option.some.inj hj]; exact h1
    | 1, hj => rw [Addr.add_mid, ← Option.some.inj hj]; exact h2
    | j + 2, hj => simp [pairC] at hj) (pairC_one _ _) (by unfold maxLen; omega) (by omega)
  refine ⟨v', w', hrun, ⟨by rw [List.length_append, List.length_append, h.len]; rfl, ?_, fun k e => ?_⟩, (Keeps.refl _ w).grown hgrown (fun k e => .inl e)⟩
  · rw [List.length_append, pairC_app _ _ h.len]
    exact hrow
  · rcases hown k e with h1 | h1
    · exact h.new k h1
    · omega
theorem QRow.one {w : World} {p q : Addr} : QRow (w.alloc (.cells #[.pointer (some p), .pointer (some q)] 75)) w.heap.size (.slice (some ⟨w.heap.size, 0, none⟩) 1 1) [p] [q] :=
  ⟨rfl, ⟨rfl, .inr ⟨w.heap.size, 1, #[.pointer (some p), .pointer (some q)], rfl, Nat.zero_le _, heap_alloc_new w _, Nat.le_refl _, by unfold maxLen; decide, rfl, rfl⟩⟩, fun k e => Nat.le_of_eq (Option.some.inj e)⟩
theorem QRow.drop {w : World} {n0 g c l : Nat} {ps qs : List Addr} {p q : Addr} (h : QRow w n0 (.slice (some ⟨g, 0, none⟩) (l + 1) c) (ps ++ [p]) (qs ++ [q])) (hl : ps.length = l) : QRow w n0 (.slice (some ⟨g, 0, none⟩) l c) ps qs := by
  have hlen : ps.length = qs.length := by have := h.len; rw [List.length_append, List.length_append] at this; exact Nat.add_right_cancel this
  refine ⟨hlen, ?_, h.new⟩
  have h1 := h.row
  rw [List.length_append, hl] at h1
  have h2 := row_drop h1 (Nat.le_succ l)
  rw [pairC_app _ _ hlen, List.take_append_of_le_length (by rw [pairC_len hlen, hl]; exact Nat.le_refl _), List.take_of_length_le (by rw [pairC_len hlen, hl]; exact Nat.le_refl _)] at h2
  rw [hl]
  exact h2

end Go.Proofs.YtfonflbpkbibbaaGreatDoor
