/-
  Rules in a slice of the call's own, and append to it; the error of a code and a line. No condition.
-/
import Derived.Test.YtojpjhfafbdpcaaGreatDoorKB
import Derived.Test.YtojpjhfafbdpcaaGreatDoorMAt
namespace Go.Proofs.YtojpjhfafbdpcaaGreatDoor
open Go.RowKit Go.Lib Go.Joins

/-- The cells of rules, each with its two slices. -/
def rlC : List (Rl × Value × Value) → List Value
  | [] => []
  | x :: t => x.2.1 :: x.2.2 :: rlC t
theorem rlC_app : ∀ l m : List (Rl × Value × Value), rlC (l ++ m) = rlC l ++ rlC m
  | [], _ => rfl
  | x :: t, m => by rw [List.cons_append, rlC, rlC, rlC_app t m]; rfl
theorem rlC_len : ∀ l : List (Rl × Value × Value), (rlC l).length = l.length * 2
  | [] => rfl
  | x :: t => by rw [rlC, List.length_cons, List.length_cons, rlC_len t, List.length_cons]; omega
theorem rlC_at : ∀ {l : List (Rl × Value × Value)} {i : Nat} {x : Rl × Value × Value}, l[i]? = some x → (rlC l)[i * 2]? = some x.2.1 ∧ (rlC l)[i * 2 + 1]? = some x.2.2
  | [], _, _, h => by simp at h
  | y :: t, 0, x, h => by
    obtain rfl : y = x := by simpa using h
    exact ⟨rfl, rfl⟩
  | y :: t, i + 1, x, h => by
    rw [List.getElem?_cons_succ] at h
    obtain ⟨h1, h2⟩ := rlC_at h
    rw [show (i + 1) * 2 = i * 2 + 1 + 1 by omega]
    exact ⟨h1, h2⟩
theorem rlC_one : ∀ {l : List (Rl × Value × Value)} {u : Value}, (∀ p ∈ l, p.2.1.oneCell' = true ∧ p.2.2.oneCell' = true) → u ∈ rlC l → u.oneCell' = true
  | [], _, _, h => by cases h
  | x :: t, u, hx, h => by
    rw [rlC] at h
    rcases List.mem_cons.1 h with rfl | h
    · exact (hx x (List.mem_cons_self ..)).1
    · rcases List.mem_cons.1 h with rfl | h
      · exact (hx x (List.mem_cons_self ..)).2
      · exact rlC_one (fun p hp => hx p (List.mem_cons_of_mem _ hp)) h
theorem StrIn.one {w : World} {S : Nat → Prop} {v : Value} {l : List (List UInt8)} (h : StrIn w S v l) : v.oneCell' = true := by
  obtain ⟨a, c, rfl, _⟩ := h.form
  rfl
theorem infoR : (Tryz.prog.info? 38).map (fun i => (i.zero, i.size, i.bytes)) = some (some (.agg #[.slice none 0 0, .slice none 0 0]), 2, 48) := by kernel_rfl

/-- Rules in a slice that was made since n0, each with its texts in blocks that were, apart from it. -/
structure OwnR (n0 : Nat) (w : World) (v : Value) (ps : List (Rl × Value × Value)) : Prop where
  row : w.ownsRow 0 38 2 v ps.length (rlC ps)
  new : ∀ k, v.ownBlock = some k → n0 ≤ k
  strs : ∀ p ∈ ps, StrIn w (fun k => n0 ≤ k ∧ v.ownBlock ≠ some k) p.2.1 p.1.path ∧ StrIn w (fun k => n0 ≤ k ∧ v.ownBlock ≠ some k) p.2.2 p.1.keys
theorem OwnR.nil (n0 : Nat) (w : World) : OwnR n0 w (.slice none 0 0) [] := ⟨World.ownsRow_nil _ _ _ _, (fun k e => by cases e), (fun _ h => by cases h)⟩
theorem OwnR.keep {n0 : Nat} {w w' : World} {O : Nat → Prop} {v : Value} {ps : List (Rl × Value × Value)} (h : OwnR n0 w v ps) (hk : Keeps O w w') (hO : ∀ k, n0 ≤ k → ¬ O k) : OwnR n0 w' v ps :=
  ⟨ownsRow_keep h.row hk (fun k e => hO k (h.new k e)), h.new, fun p hp => ⟨(h.strs p hp).1.keep hk (fun k _ e => hO k e.1) (fun _ _ e => e), (h.strs p hp).2.keep hk (fun k _ e => hO k e.1) (fun _ _ e => e)⟩⟩
theorem OwnR.lt {n0 : Nat} {w : World} {v : Value} {ps : List (Rl × Value × Value)} (h : OwnR n0 w v ps) : ∀ k, v.ownBlock = some k → k < w.heap.size := fun k e => (h.row.lt k e).2
theorem OwnR.in {n0 : Nat} {w : World} {v : Value} {ps : List (Rl × Value × Value)} (h : OwnR n0 w v ps) : RlsIn w (fun k => n0 ≤ k) v (ps.map (fun p => p.1)) := by
  rcases h.row.2 with ⟨h1, h0⟩ | ⟨g, cap, cur, h1, hg, hgb, hcap, hcm, hcur, htk⟩
  · exact ⟨none, 0, by rw [h1, List.length_map, h0], by rw [List.length_map, h0]; exact Nat.zero_le _, Nat.zero_le _, fun _ => rfl, .inl (by rw [List.length_eq_zero_iff.1 h0]; rfl)⟩
  · refine ⟨_, cap, by rw [List.length_map]; exact h1, by rw [List.length_map]; exact hcap, hcm, fun e => (by cases e), .inr ⟨g, 0, rfl, h.new g (by rw [h1]; rfl), fun i x hx => ?_⟩⟩
    rw [List.getElem?_map] at hx
    obtain ⟨q, hq, rfl⟩ := Option.map_eq_some_iff.1 hx
    have hc := h.row.cells (g := g) (by rw [h1]; rfl)
    obtain ⟨x1, x2⟩ := rlC_at hq
    have y1 := hc _ _ x1
    have y2 := hc _ _ x2
    rw [Addr.add_mid] at y1 y2
    obtain ⟨z1, z2⟩ := h.strs q (List.mem_of_getElem? hq)
    exact ⟨q.2.1, q.2.2, y1, by rw [Nat.add_assoc]; exact y2, z1.mono (fun k _ e => e.1), z2.mono (fun k _ e => e.1)⟩
/-- One more rule, laid out in a literal. -/
theorem OwnR.append {n0 : Nat} {w : World} {v : Value} {ps : List (Rl × Value × Value)} (h : OwnR n0 w v ps) (x : Rl) (pv kv : Value) (hp : StrIn w (fun k => n0 ≤ k ∧ v.ownBlock ≠ some k) pv x.path) (hk : StrIn w (fun k => n0 ≤ k ∧ v.ownBlock ≠ some k) kv x.keys) (hn : n0 ≤ w.heap.size) (hs : ps.length ≤ 1000000) :
    ∃ v' w', (∀ ty, (Builtin.append_ #[23, 23] ty #[v, .slice (some ⟨w.heap.size, 0, none⟩) 1 1]).run Tryz.prog (w.alloc (.cells #[pv, kv] 38)) = .ok v' w') ∧ OwnR n0 w' v' (ps ++ [(x, pv, kv)]) ∧ Keeps (fun k => v.ownBlock = some k) w w' := by
  obtain ⟨v', w', h1, h2, h3, h4⟩ := append_any (w := w.alloc (.cells #[pv, kv] 38)) Tryz.underlying23 infoR rfl (by decide) (h.row.alloc _) (b := ⟨w.heap.size, 0, none⟩) (m := 1) (c := 1) (news := rlC [(x, pv, kv)]) rfl (newA_cells w (rlC [(x, pv, kv)]) _)
    (fun u hu => rlC_one (fun p hq => by rw [List.mem_singleton.1 hq]; exact ⟨hp.one, hk.one⟩) hu) (by unfold maxLen; omega) (by omega)
  have hkk : Keeps (fun k => v.ownBlock = some k) w w' := ((Keeps.refl _ w).alloc _).grown h3 (fun k e => .inl e)
  have hstr : ∀ {pv : Value} {l : List (List UInt8)}, StrIn w (fun k => n0 ≤ k ∧ v.ownBlock ≠ some k) pv l → StrIn w' (fun k => n0 ≤ k ∧ v'.ownBlock ≠ some k) pv l := fun hq =>
    hq.keep hkk (fun k _ e => e.2) (fun k hlt e => ⟨e.1, fun e2 => by
      rcases h4 k e2 with h5 | h5
      · exact e.2 h5
      · simp at h5; omega⟩)
  refine ⟨v', w', h1, ⟨by rw [List.length_append, rlC_app]; exact h2, fun k e => ?_, fun p hq => ?_⟩, hkk⟩
  · rcases h4 k e with h5 | h5
    · exact h.new k h5
    · simp at h5; omega
  · rcases List.mem_append.1 hq with h5 | h5
    · exact ⟨hstr (h.strs p h5).1, hstr (h.strs p h5).2⟩
    · rw [List.mem_singleton.1 h5]
      exact ⟨hstr hp, hstr hk⟩

/-- What fail leaves. -/
def FailOut (c n : Int) (w : World) (e : Ending) (w' : World) : Prop := ∃ v, e = .returned v ∧ ErrAt w.heap.size w' c n v ∧ Below w.heap.size w w'
set_option maxRecDepth 100000 in
set_option maxHeartbeats 2000000 in
theorem fail_calls (c n : Int) (w : World) (hc : (c == 0) = false) : Calls Tryz.prog 26 #[.int .i64 c, .int .i64 n] w (FailOut c n w) := by
  have h1 := Lib.hid (new_code c n w hc)
  have h2 := Lib.hid (wrap_some segS 55 (.agg #[.int .i64 c, .int .i64 n]) w)
  have hseg : segS = ⟨#[107, 101, 121, 115]⟩ := rfl
  have hne : c ≠ 0 := by intro e; rw [e] at hc; cases hc
  have HNE := Lib.hid hne
  rw [hseg] at h2
  clear hc hne hseg
  go_enter Tryz.func26, Tryz.ntmps26
  go_wp2_with fail
  with_reducible refine h1.out.mono ?_
  rintro e w1 ⟨rfl, rfl⟩
  unfold plainV
  go_wp2_with fail
  with_reducible refine h2.out.mono ?_
  rintro e w2 ⟨rfl, rfl⟩
  go_wp2
  go_ret
  exact ⟨_, rfl, .inr ⟨HNE.out, w.heap.size, rfl, (cell_of_block (heap_alloc_new _ _) 0).trans rfl, (cell_of_block (heap_alloc_new _ _) 1).trans rfl, Nat.le_refl _⟩, (Below.refl _ _).alloc (Nat.le_refl _) _⟩

end Go.Proofs.YtojpjhfafbdpcaaGreatDoor
