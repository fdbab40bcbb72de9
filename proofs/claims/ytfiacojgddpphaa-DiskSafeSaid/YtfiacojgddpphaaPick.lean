/-
  Files that are picked out of a list, and what an operation leaves alone. Of the law DiskAlone. No condition.
-/
import Derived.Test.YtfiacojgddpphaaDoSmall
namespace Go.Proofs.Ytfiacojgddpphaa
open Go.RowKit Go.Lib Go.Joins

/-- Those that an operation doesn't name. -/
def kp (k : Int) (s t nm : ByteArray) : Bool := !decide (nm = s) && (!decide (k = 5) || !decide (nm = t))

theorem filter_ins {p : Fil → Bool} {f : Fil} (hf : p f = false) : ∀ L : List Fil, (ins f L).filter p = L.filter p
  | [] => by simp [ins, hf]
  | g :: L => by
    unfold ins
    split
    · rw [List.filter_cons, List.filter_cons, filter_ins hf L]
    · rw [List.filter_cons, hf]; rfl
theorem filter_upd {p : ByteArray → Bool} {n : ByteArray} {h : Fil → Fil} (hh : ∀ f, (h f).name = f.name) (hp : p n = false) : ∀ L : List Fil, (upd n h L).filter (fun f => p f.name) = L.filter (fun f => p f.name)
  | [] => rfl
  | g :: L => by
    have ih := filter_upd hh hp L
    unfold upd at ih ⊢
    rw [List.map_cons, List.filter_cons, List.filter_cons, ih]
    by_cases hg : g.name = n
    · rw [if_pos hg, hh, hg, hp]
      rfl
    · rw [if_neg hg]
theorem filter_dro {p : ByteArray → Bool} {n : ByteArray} (hp : p n = false) (L : List Fil) : (dro n L).filter (fun f => p f.name) = L.filter (fun f => p f.name) := by
  unfold dro
  rw [List.filter_filter]
  refine List.filter_congr (fun f _ => ?_)
  by_cases hf : f.name = n
  · rw [hf, hp]; rfl
  · simp [hf]
/-- Other files stay as they are. -/
theorem alone_pure {d : Dsk} {m : Nat} (hn : New d m) (x : DoI) (h1 : 1 ≤ x.kind) (h6 : x.kind ≤ 6) :
    (actS d x).2.L.filter (fun f => kp x.kind x.name x.to f.name) = d.L.filter (fun f => kp x.kind x.name x.to f.name) := by
  have hk : kp x.kind x.name x.to x.name = false := by simp [kp]
  unfold actS
  rw [if_pos ⟨h1, h6⟩, step_calm hn.down hn.tr]
  split
  · show (whole (opn x) d.L).filter _ = _
    obtain ⟨k, s, t, n, b, ts, tl⟩ := x
    dsimp only at h1 h6 hk
    unfold opn
    dsimp only
    rcases (show k = 1 ∨ k = 2 ∨ k = 3 ∨ k = 4 ∨ k = 5 ∨ k = 6 by omega) with rfl | rfl | rfl | rfl | rfl | rfl
    · exact filter_ins hk _
    · exact filter_upd (p := kp 2 s t) (h := addB b) (fun _ => rfl) hk _
    · exact filter_upd (p := kp 3 s t) (h := cutB n.toNat) (fun _ => rfl) hk _
    · exact filter_upd (p := kp 4 s t) (h := synB) (fun _ => rfl) hk _
    · show (ren s t d.L).filter _ = _
      unfold ren
      cases hf : fnd s d.L with
      | none => rfl
      | some f =>
        have ht : kp 5 s t t = false := by simp [kp]
        show (ins _ _).filter _ = _
        rw [filter_ins (by exact ht), filter_dro (p := kp 5 s t) ht, filter_dro (p := kp 5 s t) hk]
    · exact filter_dro (p := kp 6 s t) hk _
  · rfl
theorem alone_pureI {d : Dsk} {m : Nat} (hn : New d m) (x : DoI) (h1 : 1 ≤ x.kind) (h6 : x.kind ≤ 6) :
    ((actS d x).2.L.map toI).filter (fun f => kp x.kind x.name x.to f.name) = (d.L.map toI).filter (fun f => kp x.kind x.name x.to f.name) := by
  rw [List.filter_map, List.filter_map]
  exact congrArg (List.map toI) (alone_pure hn x h1 h6)

/-- Files that have been picked. -/
structure Pick (wL wr : World) (Sb : Nat → Prop) (lst : Value) (M : List FilI) : Prop where
  ex : ∃ cells, wr.ownsRow 0 52 3 lst M.length cells ∧ FCells wr Sb cells M
  own : ∀ k, lst.ownBlock = some k → wL.heap.size ≤ k
  bel : Below wL.heap.size wL wr
theorem Pick.nil (w : World) (Sb : Nat → Prop) : Pick w w Sb (.slice none 0 0) [] := ⟨⟨[], World.ownsRow_nil _ _ _ _, FCells.nil _ _⟩, (fun k e => by cases e), Below.refl _ _⟩
theorem Pick.below {wL wr w' : World} {Sb : Nat → Prop} {lst : Value} {M : List FilI} (h : Pick wL wr Sb lst M) (hb : Below wr.heap.size wr w') : Pick wL w' Sb lst M := by
  obtain ⟨⟨cells, h1, h2⟩, h3, h4⟩ := h
  exact ⟨⟨cells, ownsRow_keep h1 (keeps_below hb Non) (fun _ _ h => h), h2.keep (keeps_below hb Non) (fun _ _ h => h)⟩, h3, h4.trans (hb.mono h4.size)⟩
theorem Pick.form {wL wr : World} {Sb : Nat → Prop} {lst : Value} {M : List FilI} (h : Pick wL wr Sb lst M) : ∃ a c, lst = .slice a M.length c := by
  obtain ⟨⟨cells, h1, _⟩, _, _⟩ := h
  exact dv_form2 h1
theorem Pick.step {wL wr : World} {Sb : Nat → Prop} {lst : Value} {M : List FilI} (h : Pick wL wr Sb lst M) (hS : ∀ k, Sb k → k < wL.heap.size) {f : FilI} {a : Option Addr} {c : Nat} (hf : Byt wL Sb (.slice a f.data.length c) f.data) (hM : M.length ≤ 1000) {N : Nat} (hN : wr.heap.size = N) :
    ∃ v' w', (∀ ty, (Builtin.append_ #[22, 22] ty #[lst, .slice (some ⟨N, 0, none⟩) 1 1]).run Try.prog (wr.alloc (.cells #[.string f.name, .slice a f.data.length c, .int .i64 f.safe] 52)) = .ok v' w') ∧ Pick wL w' Sb v' (M ++ [f]) := by
  subst hN
  obtain ⟨⟨cells, h1, h2⟩, h3, h4⟩ := h
  obtain ⟨v', w', hrun, ho, hg, hv⟩ := append_file h1 hM f.name a f.data.length c f.safe
  have hk : Keeps (fun k => lst.ownBlock = some k) wr w' := ((Keeps.refl _ wr).alloc _).grown hg (fun k e => .inl e)
  have hnot : ∀ k, Sb k → ¬ lst.ownBlock = some k := fun k hs e => by have := hS k hs; have := h3 k e; omega
  refine ⟨v', w', hrun, ⟨⟨_, by rw [List.length_append]; exact ho, (h2.keep hk hnot).app (FCells.one ((hf.keep (keeps_below h4 Non) (fun _ _ h => h)).keep hk hnot))⟩, fun k e => ?_, ?_⟩⟩
  · rcases hv k e with h5 | h5
    · exact h3 k h5
    · have := h4.size; omega
  · exact h4.trans (hk.toBelow h4.size (fun k e => h3 k e))
theorem Pick.fils {wL wr : World} {Sb : Nat → Prop} {lst : Value} {M : List FilI} (h : Pick wL wr Sb lst M) : ∃ a c S, lst = .slice a M.length c ∧ Fils wr S a M := by
  obtain ⟨⟨cells, h1, h2⟩, h3, h4⟩ := h
  obtain ⟨a, c, h5, h6, _⟩ := fils_of_owns (S := fun k => Sb k ∨ lst.ownBlock = some k) (h2.mono (fun k h => .inl h)) h1 (fun k e => .inr e)
  exact ⟨a, c, _, h5, h6⟩
theorem fils_byt {w : World} {S : Nat → Prop} {a : Option Addr} {L : List FilI} (h : Fils w S a L) {i : Nat} {f : FilI} (hi : L[i]? = some f) :
    ∃ b o da dc, a = some ⟨b, o, none⟩ ∧ w.cell? ⟨b, o + i * 3, none⟩ = some (.string f.name) ∧ w.cell? ⟨b, o + i * 3 + 1, none⟩ = some (.slice da f.data.length dc) ∧ w.cell? ⟨b, o + i * 3 + 2, none⟩ = some (.int .i64 f.safe) ∧ Byt w S (.slice da f.data.length dc) f.data := by
  obtain ⟨b, o, da, dc, rfl, _, h0, h1, h2, hr, hn, hl, hm⟩ := fils_at h hi
  exact ⟨b, o, da, dc, rfl, h0, h1, h2, ⟨da, dc, rfl, hr, hn, hl, hm⟩⟩
theorem filter_take {p : FilI → Bool} {L : List FilI} {i : Nat} {f : FilI} (hf : L[i]? = some f) : (L.take (i + 1)).filter p = (L.take i).filter p ++ if p f then [f] else [] := by
  rw [List.take_add_one, hf, List.filter_append]
  cases h : p f <;> simp [h]

end Go.Proofs.Ytfiacojgddpphaa
