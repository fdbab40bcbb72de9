/-
  Spans in a slice of the call's own, and append to it; the edges of a set, told by the program. Condition: the slices lead to what they are said to; the spans are a set.
-/
import Derived.Test.YtiolchdfjlffoaaDoorISm
import Derived.Laws.OwnMore
namespace Go.Proofs.YtiolchdfjlffoaaDoor
open Go.RowKit Go.Lib Go.Joins

/-- The cells of spans. -/
def flatP : List Sp → List Value
  | [] => []
  | x :: t => .int .i64 x.1 :: .int .i64 x.2 :: flatP t
theorem flatP_app : ∀ l m : List Sp, flatP (l ++ m) = flatP l ++ flatP m
  | [], _ => rfl
  | x :: t, m => by rw [List.cons_append, flatP, flatP, flatP_app t m]; rfl
theorem flatP_len : ∀ l : List Sp, (flatP l).length = l.length * 2
  | [] => rfl
  | x :: t => by rw [flatP, List.length_cons, List.length_cons, flatP_len t, List.length_cons]; omega
theorem flatP_at : ∀ {l : List Sp} {i : Nat} {x : Sp}, l[i]? = some x → (flatP l)[i * 2]? = some (.int .i64 x.1) ∧ (flatP l)[i * 2 + 1]? = some (.int .i64 x.2)
  | [], _, _, h => by simp at h
  | y :: t, 0, x, h => by
    obtain rfl : y = x := by simpa using h
    exact ⟨rfl, rfl⟩
  | y :: t, i + 1, x, h => by
    rw [List.getElem?_cons_succ] at h
    obtain ⟨h1, h2⟩ := flatP_at h
    rw [show (i + 1) * 2 = i * 2 + 1 + 1 by omega]
    exact ⟨h1, h2⟩
theorem flatP_one : ∀ {l : List Sp} {u : Value}, u ∈ flatP l → u.oneCell' = true
  | [], _, h => by cases h
  | x :: t, u, h => by
    rw [flatP] at h
    rcases List.mem_cons.1 h with rfl | h
    · rfl
    · rcases List.mem_cons.1 h with rfl | h
      · rfl
      · exact flatP_one h
theorem infoP : (Tryd.prog.info? 44).map (fun i => (i.zero, i.size, i.bytes)) = some (some (.agg #[.int .i64 0, .int .i64 0]), 2, 16) := by kernel_rfl

/-- Spans in a slice that was made since n0. -/
structure OwnP (n0 : Nat) (w : World) (v : Value) (l : List Sp) : Prop where
  row : w.ownsRow 0 44 2 v l.length (flatP l)
  new : ∀ k, v.ownBlock = some k → n0 ≤ k
theorem OwnP.nil (n0 : Nat) (w : World) : OwnP n0 w (.slice none 0 0) [] := ⟨World.ownsRow_nil _ _ _ _, (fun k e => by cases e)⟩
theorem OwnP.keep {n0 : Nat} {w w' : World} {O : Nat → Prop} {v : Value} {l : List Sp} (h : OwnP n0 w v l) (hk : Keeps O w w') (hO : ∀ k, n0 ≤ k → ¬ O k) : OwnP n0 w' v l :=
  ⟨ownsRow_keep h.row hk (fun k e => hO k (h.new k e)), h.new⟩
theorem OwnP.below {n0 : Nat} {w w' : World} {v : Value} {l : List Sp} (h : OwnP n0 w v l) (hb : Below w.heap.size w w') : OwnP n0 w' v l := h.keep (keeps_below hb Non) (fun _ _ e => e)
theorem OwnP.lt {n0 : Nat} {w : World} {v : Value} {l : List Sp} (h : OwnP n0 w v l) : ∀ k, v.ownBlock = some k → k < w.heap.size := fun k e => (h.row.lt k e).2
theorem OwnP.in {n0 : Nat} {w : World} {v : Value} {l : List Sp} (h : OwnP n0 w v l) : SpIn w v l := by
  rcases h.row.2 with ⟨h1, h0⟩ | ⟨g, cap, cur, h1, hg, hgb, hcap, hcm, hcur, htk⟩
  · exact ⟨none, 0, by rw [h1, h0], by rw [h0]; exact Nat.zero_le _, Nat.zero_le _, fun _ => rfl, .inl (List.length_eq_zero_iff.1 h0)⟩
  · refine ⟨_, cap, h1, hcap, hcm, fun e => (by cases e), .inr ⟨g, 0, rfl, fun i x hx => ?_⟩⟩
    have hc := h.row.cells (g := g) (by rw [h1]; rfl)
    obtain ⟨x1, x2⟩ := flatP_at hx
    have y1 := hc _ _ x1
    have y2 := hc _ _ x2
    rw [Addr.add_mid] at y1 y2
    exact ⟨y1, by rw [Nat.add_assoc]; exact y2⟩
/-- One more span, laid out in a literal. -/
theorem OwnP.append {n0 : Nat} {w : World} {v : Value} {l : List Sp} (h : OwnP n0 w v l) (f t : Int) (hn : n0 ≤ w.heap.size) (hs : l.length ≤ 1000000) :
    ∃ v' w', (∀ ty, (Builtin.append_ #[22, 22] ty #[v, .slice (some ⟨w.heap.size, 0, none⟩) 1 1]).run Tryd.prog (w.alloc (.cells #[.int .i64 f, .int .i64 t] 44)) = .ok v' w') ∧ OwnP n0 w' v' (l ++ [(f, t)]) ∧ Keeps (fun k => v.ownBlock = some k) w w' := by
  obtain ⟨v', w', h1, h2, h3, h4⟩ := append_any (w := w.alloc (.cells #[.int .i64 f, .int .i64 t] 44)) Tryd.underlying22 infoP rfl (by decide) (h.row.alloc _) (b := ⟨w.heap.size, 0, none⟩) (m := 1) (c := 1) (news := flatP [(f, t)]) rfl (newA_cells w (flatP [(f, t)]) _)
    (fun u hu => flatP_one hu) (by unfold maxLen; omega) (by omega)
  have hkk : Keeps (fun k => v.ownBlock = some k) w w' := ((Keeps.refl _ w).alloc _).grown h3 (fun k e => .inl e)
  refine ⟨v', w', h1, ⟨by rw [List.length_append, flatP_app]; exact h2, fun k e => ?_⟩, hkk⟩
  rcases h4 k e with h5 | h5
  · exact h.new k h5
  · simp at h5; omega
theorem OwnP.form {n0 : Nat} {w : World} {v : Value} {l : List Sp} (h : OwnP n0 w v l) : ∃ a c, v = .slice a l.length c := by
  obtain ⟨a, c, h1, _⟩ := h.in.form
  exact ⟨a, c, h1⟩

/-- A call that returns one value and leaves the world as it is. -/
def Says (v : Value) (w : World) (e : Ending) (w' : World) : Prop := e = .returned v ∧ w = w'

set_option maxRecDepth 100000 in
set_option maxHeartbeats 2000000 in
theorem edge_calls {w : World} {v : Value} {l : List Sp} (i : Nat) (h : SpIn w v l) (hm : mayS l = true) (hi : i ≤ 1000) : Calls Tryd.prog 49 #[v, .int .i64 (i : Int)] w (Says (.int .i64 (edge l i)) w) := by
  have hn := mayS_length hm
  obtain ⟨a, c, rfl, hc, hcm, _⟩ := h.form
  by_cases h1 : 2 * l.length ≤ i
  · rw [edge_end l i h1]
    obtain ⟨n, hl⟩ : ∃ n, l.length = n := ⟨_, rfl⟩
    rw [hl] at h1 hn hc ⊢
    have hw : IntKind.i64.wrap (2 * (n : Int)) = 2 * (n : Int) := IntWalk.i64_in _ (by omega)
    have hge : 2 * (n : Int) ≤ (i : Int) := by omega
    clear h hm hl hcm
    go_enter Tryd.func49, Tryd.ntmps49
    go_wp2_with fail
    go_ret
    exact ⟨rfl, rfl⟩
  · obtain ⟨⟨f, t⟩, hx, _⟩ := drop_at (l := l) (i := i / 2) (by omega)
    have hmem := mayF_mem hm (List.mem_of_getElem? hx)
    dsimp only at hmem
    obtain ⟨b, o, rfl, y1, y2⟩ := h.at hx
    dsimp only at y1 y2
    obtain ⟨k, hk⟩ : ∃ k, i / 2 = k := ⟨_, rfl⟩
    have e1 : edge l (2 * k) = f := by rw [← hk]; exact edge_even hx
    have e2 : edge l (2 * k + 1) = t + 1 := by rw [← hk]; exact edge_odd hx
    rw [hk] at y1 y2
    obtain ⟨n, hl⟩ : ∃ n, l.length = n := ⟨_, rfl⟩
    rw [hl] at h1 hn hc ⊢
    have hw : IntKind.i64.wrap (2 * (n : Int)) = 2 * (n : Int) := IntWalk.i64_in _ (by omega)
    have hw2 : IntKind.i64.wrap (t + 1) = t + 1 := IntWalk.i64_in _ (by omega)
    have hge : ¬ 2 * (n : Int) ≤ (i : Int) := by omega
    have hkn : k < n := by omega
    have hkc : k < c := by omega
    have hi0 : (0 : Int) ≤ (i : Int) := by omega
    have hdv : (i : Int) / 2 = (k : Int) := by omega
    by_cases hev : i % 2 = 0
    · have HE : Hid (edge l i = f) := Lib.hid (by rw [show i = 2 * k by omega]; exact e1)
      have hmod : (i : Int) % 2 = 0 := by omega
      clear h hm hl hcm hx e1 e2 hk hev hmem
      go_enter Tryd.func49, Tryd.ntmps49
      go_wp2_with fail
      go_ret
      exact ⟨by rw [HE.out]; rfl, rfl⟩
    · have HE : Hid (edge l i = t + 1) := Lib.hid (by rw [show i = 2 * k + 1 by omega]; exact e2)
      have hmod : (i : Int) % 2 = 1 := by omega
      clear h hm hl hcm hx e1 e2 hk hev hmem
      go_enter Tryd.func49, Tryd.ntmps49
      go_wp2_with fail
      go_ret
      exact ⟨by rw [HE.out]; rfl, rfl⟩
end Go.Proofs.YtiolchdfjlffoaaDoor
