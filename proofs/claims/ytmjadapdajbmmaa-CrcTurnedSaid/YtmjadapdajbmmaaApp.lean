/-
  A row of bytes appended to what the call itself made. Condition: both together are shorter than 2 to the 30.
-/
import Derived.Test.YtmjadapdajbmmaaAwake
import Derived.Laws.AppendOwnNone
namespace Go.Proofs.Ytmjadapdajbmmaa
open Go.RowKit Go.Lib

theorem info5 : (Try.prog.info? 5).map (fun i => (i.zero, i.size, i.bytes)) = some (some (.int .u8 0), 1, 1) := by kernel_rfl

/-- Bytes as cells. -/
def cellsN (l : List Nat) : List Value := l.map fun c : Nat => Value.int .u8 (c : Int)

theorem cellsN_app (l m : List Nat) : cellsN (l ++ m) = cellsN l ++ cellsN m := List.map_append
theorem cellsN_len (l : List Nat) : (cellsN l).length = l.length := List.length_map _

theorem row_cells {w : World} {b : Addr} {l : List Nat} (hr : Row w (some b) l) : ∀ j u, (cellsN l)[j]? = some u → w.cell? (b.add j) = some u := by
  intro j u hj
  rw [cellsN, List.getElem?_map] at hj
  obtain ⟨c, hc, rfl⟩ := Option.map_eq_some_iff.1 hj
  rcases hr.2 with h0 | ⟨b2, o2, he, hcell⟩
  · rw [h0] at hc; simp at hc
  · obtain rfl := Option.some.inj he
    rw [Addr.add_mid]
    exact hcell j c hc

/-- A slice of the call's own, as a row of bytes. -/
theorem row_of_own {w : World} {B : Nat} {v : Value} {n : Nat} {l : List Nat} (hb : ∀ c ∈ l, c < 256) (hn : l.length = n) (h : w.ownsRow B 5 1 v n (cellsN l)) :
    ∃ a c, v = .slice a n c ∧ Row w a l ∧ (a = none → c = 0) := by
  rcases h.2 with ⟨h1, h0⟩ | ⟨g, cap, cur, h1, hg, hgb, hcap, hcm, hcur, htk⟩
  · exact ⟨none, 0, by rw [h1, h0], ⟨hb, Or.inl (List.length_eq_zero_iff.1 (by omega))⟩, fun _ => rfl⟩
  · refine ⟨_, cap, h1, ⟨hb, Or.inr ⟨g, 0, rfl, fun i x hx => ?_⟩⟩, fun e => by cases e⟩
    have := h.cells (g := g) (by rw [h1]; rfl) i (.int .u8 (x : Int)) (by rw [cellsN, List.getElem?_map, hx]; rfl)
    rwa [Addr.add_mid] at this

theorem append_row {w : World} {ops : Array Oper} {rest : List Oper} {o : Oper} {a : Act} {Q : Exit → Act → World → Prop} (hgd : o.guard = none) (s x : Operand)
    (ho : o.op = .call { callee := .builtin .append, args := #[s, x], argTypes := #[22, 22] }) (base : Nat) (v : Value) (n : Nat) (xs : List Value) (hs : a.eval s = v) (hown : w.ownsRow base 5 1 v n xs)
    (ad : Option Addr) (m c : Nat) (l : List Nat) (hx : a.eval x = .slice ad m c) (hl : l.length = m) (hr : Row w ad l) (hc : ad = none → c = 0) (h63 : n + m ≤ 1073741824) (hbase : base ≤ w.heap.size)
    (h : ∀ v' w', w'.ownsRow base 5 1 v' (n + m) (xs ++ cellsN l) → Below base w w' → wpList Try.prog ops Q rest (a.put o.dst v') w') : wpList Try.prog ops Q (o :: rest) a w := by
  obtain ⟨i5, hi5, hj50, hj51, hj52⟩ := info_parts info5
  have hlt := hown.lt
  have low : ∀ {w' : World}, w.grownBy w' v.ownBlock → Below base w w' := fun hg => ⟨hg.os, hg.tape, hg.output, hg.size, fun k hk => hg.block k (by omega) (fun e => by have := (hlt k e.symm).1; omega)⟩
  cases ad with
  | some b =>
    refine wpList_append_own _ hgd s x 22 ho base 5 i5 (.int .u8 0) 1 1 Try.underlying22 hi5 hj50 hj51 hj52 rfl (by decide) v n xs hs hown b m c (cellsN l) hx (by rw [cellsN_len, hl, Nat.mul_one]) (row_cells hr) ?_ ?_ ?_ hbase (fun v' w' h1 h2 _ => h v' w' h1 (low h2))
    · intro u hu
      obtain ⟨z, _, rfl⟩ := List.mem_map.1 hu
      rfl
    · unfold maxLen; omega
    · omega
  | none =>
    have hl0 : l = [] := by
      rcases hr.2 with h0 | ⟨b, o, he, _⟩
      · exact h0
      · cases he
    obtain rfl : c = 0 := hc rfl
    subst hl0
    obtain rfl : m = 0 := by rw [← hl]; rfl
    refine wpList_append_own_none hgd s x 22 ho base 5 i5 1 Try.underlying22 hi5 v n xs hs hown hx (h v w ?_ (low ⟨rfl, rfl, rfl, Nat.le_refl _, fun _ _ _ => rfl⟩))
    simpa [cellsN] using hown

end Go.Proofs.Ytmjadapdajbmmaa
