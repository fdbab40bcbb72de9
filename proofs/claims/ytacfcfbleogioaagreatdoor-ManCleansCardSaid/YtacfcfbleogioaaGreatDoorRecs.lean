/-
  A slice of slices of bytes; whether two rows of bytes are the same, whether two slices of such rows are; how many bytes they have together. Conditions: slices lead to what they are said to; they are no longer than 2 to the 30.
-/
import Derived.Test.YtacfcfbleogioaaGreatDoorWordA
namespace Go.Proofs.YtacfcfbleogioaaGreatDoor
open Go.RowKit Go.Lib

/-- These cells are slices of bytes, one behind the other. -/
structure RCells (w : World) (S : Nat → Prop) (cells : List Value) (L : List (List Nat)) : Prop where
  len : cells.length = L.length
  at_ : ∀ (i : Nat) (l : List Nat), L[i]? = some l → ∃ v, cells[i]? = some v ∧ Byt w S v l

theorem RCells.nil (w : World) (S : Nat → Prop) : RCells w S [] [] := ⟨rfl, fun i f h => by simp at h⟩
theorem RCells.keep {w w' : World} {S O : Nat → Prop} {cells : List Value} {L : List (List Nat)} (h : RCells w S cells L) (hb : Keeps O w w') (hO : ∀ k, S k → ¬ O k) : RCells w' S cells L :=
  ⟨h.len, fun i f hi => by obtain ⟨v, h1, h2⟩ := h.at_ i f hi; exact ⟨v, h1, h2.keep hb hO⟩⟩
theorem RCells.mono {w : World} {S S' : Nat → Prop} {cells : List Value} {L : List (List Nat)} (h : RCells w S cells L) (hS : ∀ k, S k → S' k) : RCells w S' cells L :=
  ⟨h.len, fun i f hi => by obtain ⟨v, h1, h2⟩ := h.at_ i f hi; exact ⟨v, h1, h2.mono hS⟩⟩
theorem RCells.app {w : World} {S : Nat → Prop} {cells cells' : List Value} {L L' : List (List Nat)} (h : RCells w S cells L) (h' : RCells w S cells' L') : RCells w S (cells ++ cells') (L ++ L') := by
  have hl := h.len
  refine ⟨by rw [List.length_append, List.length_append, h.len, h'.len], fun i f hi => ?_⟩
  by_cases hlt : i < L.length
  · rw [List.getElem?_append_left hlt] at hi
    rw [List.getElem?_append_left (by omega)]
    exact h.at_ i f hi
  · rw [List.getElem?_append_right (by omega)] at hi
    rw [List.getElem?_append_right (by omega), hl]
    exact h'.at_ _ f hi
theorem RCells.one {w : World} {S : Nat → Prop} {v : Value} {l : List Nat} (h : Byt w S v l) : RCells w S [v] [l] := by
  refine ⟨rfl, fun i g hi => ?_⟩
  cases i with
  | zero =>
    obtain rfl : l = g := by simpa using hi
    exact ⟨v, rfl, h⟩
  | succ k => simp at hi

/-- A slice leads to these rows of bytes, in blocks of S. -/
def Recs (w : World) (S : Nat → Prop) (a : Option Addr) (L : List (List Nat)) : Prop :=
  ∃ cells, RCells w S cells L ∧ (L = [] ∨ ∃ b o, a = some ⟨b, o, none⟩ ∧ S b ∧ ∀ j u, cells[j]? = some u → w.cell? ⟨b, o + j, none⟩ = some u)

theorem Recs.keep {w w' : World} {S O : Nat → Prop} {a : Option Addr} {L : List (List Nat)} (h : Recs w S a L) (hb : Keeps O w w') (hO : ∀ k, S k → ¬ O k) : Recs w' S a L := by
  obtain ⟨cells, h1, h2⟩ := h
  refine ⟨cells, h1.keep hb hO, ?_⟩
  rcases h2 with h2 | ⟨b, o, h2, h3, h4⟩
  · exact .inl h2
  · exact .inr ⟨b, o, h2, h3, fun j u hu => (World.cell?_of_block (a := ⟨b, o + j, none⟩) (hb.block b (lt_of_cell (h4 j u hu)) (hO b h3))).trans (h4 j u hu)⟩
theorem Recs.mono {w : World} {S S' : Nat → Prop} {a : Option Addr} {L : List (List Nat)} (h : Recs w S a L) (hS : ∀ k, S k → S' k) : Recs w S' a L := by
  obtain ⟨cells, h1, h2⟩ := h
  refine ⟨cells, h1.mono hS, ?_⟩
  rcases h2 with h2 | ⟨b, o, h2, h3, h4⟩
  · exact .inl h2
  · exact .inr ⟨b, o, h2, hS b h3, h4⟩
theorem Recs.below {w w' : World} {S : Nat → Prop} {a : Option Addr} {L : List (List Nat)} (h : Recs w S a L) (hb : Below w.heap.size w w') : Recs w' S a L := h.keep (keeps_below hb Non) (fun _ _ h => h)
theorem Recs.draws {w : World} {S : Nat → Prop} {a : Option Addr} {L : List (List Nat)} (h : Recs w S a L) (n : Nat) : Recs (w.drewN n) S a L := h.keep ((Keeps.refl Non _).drewN _) (fun _ _ h => h)
theorem Byt.below {w w' : World} {S : Nat → Prop} {v : Value} {l : List Nat} (h : Byt w S v l) (hb : Below w.heap.size w w') : Byt w' S v l := h.keep (keeps_below hb Non) (fun _ _ h => h)
/-- A row that is there. -/
theorem recs_at {w : World} {S : Nat → Prop} {a : Option Addr} {L : List (List Nat)} (h : Recs w S a L) {i : Nat} {l : List Nat} (hi : L[i]? = some l) :
    ∃ b o da dc, a = some ⟨b, o, none⟩ ∧ S b ∧ w.cell? ⟨b, o + i, none⟩ = some (.slice da l.length dc) ∧ Row w S da l ∧ (da = none → dc = 0) ∧ l.length ≤ dc ∧ dc ≤ maxLen := by
  obtain ⟨cells, h1, h2⟩ := h
  rcases h2 with h2 | ⟨b, o, h2, h3, h4⟩
  · rw [h2] at hi; simp at hi
  · obtain ⟨v, h5, ⟨⟨da, dc, rfl, h6, h7, h8, h9⟩⟩⟩ := h1.at_ i l hi
    exact ⟨b, o, da, dc, h2, h3, h4 i _ h5, h6, h7, h8, h9⟩
theorem recs_of_owns {w : World} {S : Nat → Prop} {base : Nat} {v : Value} {L : List (List Nat)} {cells : List Value} (hc : RCells w S cells L) (ho : w.ownsRow base 61 1 v L.length cells) (hS : ∀ k, v.ownBlock = some k → S k) :
    ∃ a c, v = .slice a L.length c ∧ Recs w S a L ∧ (a = none → c = 0) ∧ L.length ≤ c ∧ c ≤ maxLen := by
  rcases ho.2 with ⟨h1, h0⟩ | ⟨g, cap, cur, h1, hg, hgb, hcap, hcm, hcur, htk⟩
  · exact ⟨none, 0, by rw [h1, h0], ⟨cells, hc, .inl (List.length_eq_zero_iff.1 h0)⟩, fun _ => rfl, by omega, Nat.zero_le _⟩
  · refine ⟨_, cap, h1, ⟨cells, hc, .inr ⟨g, 0, rfl, hS g (by rw [h1]; rfl), fun j u hu => ?_⟩⟩, (fun e => by cases e), hcap, hcm⟩
    have := ho.cells (g := g) (by rw [h1]; rfl) j u hu
    rwa [Addr.add_mid] at this

/-- The same rows from a place on. -/
def eqRecs (L M : List (List Nat)) (i : Nat) : Bool := decide (L.drop i = M.drop i)
theorem eqRecs_step {L M : List (List Nat)} {i : Nat} {x y : List Nat} (hx : L[i]? = some x) (hy : M[i]? = some y) : eqRecs L M i = (decide (x = y) && eqRecs L M (i + 1)) := by
  obtain ⟨h1, rfl⟩ := List.getElem?_eq_some_iff.1 hx
  obtain ⟨h2, rfl⟩ := List.getElem?_eq_some_iff.1 hy
  unfold eqRecs
  rw [List.drop_eq_getElem_cons h1, List.drop_eq_getElem_cons h2, Bool.eq_iff_iff]
  simp only [List.cons.injEq, decide_eq_true_eq, Bool.and_eq_true]

theorem tot_drop {L : List (List Nat)} {i : Nat} {f : List Nat} (hf : L[i]? = some f) : tot (L.drop i) = f.length + tot (L.drop (i + 1)) := by
  obtain ⟨h1, rfl⟩ := List.getElem?_eq_some_iff.1 hf
  rw [List.drop_eq_getElem_cons h1, tot_cons]

end Go.Proofs.YtacfcfbleogioaaGreatDoor
