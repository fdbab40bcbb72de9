/-
  Records that a law gathers while a segment of its own is appended to: where they lie, and what each step of the law makes of it. No condition.
-/
import Derived.Test.YtjhiekijbcjohaaGreatDoorSDo
import Derived.Test.YtjhiekijbcjohaaGreatDoorSKept
namespace Go.Proofs.YtjhiekijbcjohaaGreatDoor
open Go.RowKit Go.Lib Go.Joins

theorem Recs.take {w : World} {S : Nat → Prop} {a : Option Addr} {L : List (List Nat)} (h : Recs w S a L) (k : Nat) : Recs w S a (L.take k) := by
  obtain ⟨cells, h1, h2⟩ := h
  refine ⟨cells.take k, ⟨by rw [List.length_take, List.length_take, h1.len], fun i l hi => ?_⟩, ?_⟩
  · rw [List.getElem?_take] at hi
    split at hi
    · next hk =>
      obtain ⟨v, e1, e2⟩ := h1.at_ i l hi
      exact ⟨v, by rw [List.getElem?_take, if_pos hk]; exact e1, e2⟩
    · cases hi
  · rcases h2 with h2 | ⟨b, o, h2, h3, h4⟩
    · exact .inl (by rw [h2, List.take_nil])
    · refine .inr ⟨b, o, h2, h3, fun j u hu => ?_⟩
      rw [List.getElem?_take] at hu
      split at hu
      · exact h4 j u hu
      · cases hu
theorem Recs.drop {w : World} {S : Nat → Prop} {b o : Nat} {L : List (List Nat)} (h : Recs w S (some ⟨b, o, none⟩) L) (k : Nat) : Recs w S (some ⟨b, o + k, none⟩) (L.drop k) := by
  obtain ⟨cells, h1, h2⟩ := h
  refine ⟨cells.drop k, ⟨by rw [List.length_drop, List.length_drop, h1.len], fun i l hi => ?_⟩, ?_⟩
  · rw [List.getElem?_drop] at hi
    obtain ⟨v, e1, e2⟩ := h1.at_ _ l hi
    exact ⟨v, by rw [List.getElem?_drop]; exact e1, e2⟩
  · rcases h2 with h2 | ⟨b', o', h2, h3, h4⟩
    · exact .inl (by rw [h2, List.drop_nil])
    · obtain ⟨rfl, rfl⟩ : b = b' ∧ o = o' := by simpa using h2
      refine .inr ⟨b, o + k, rfl, h3, fun j u hu => ?_⟩
      rw [List.getElem?_drop] at hu
      rw [Nat.add_assoc]
      exact h4 _ u hu

/-- Blocks that were there when the law was called. -/
def Was0 (w0 : World) : Nat → Prop := fun k => k < w0.heap.size

/-- Rows of the argument's, in a slice of the law's own. -/
structure Gath (w0 w : World) (S : Nat → Prop) (b : Nat) (v : Value) (K : List (List Nat)) : Prop where
  ex : ∃ cells, w.ownsRow 0 27 1 v K.length cells ∧ RCells w (Was0 w0) cells K
  off : ∀ k, v.ownBlock = some k → w0.heap.size ≤ k ∧ ¬ S k ∧ k ≠ b

theorem Gath.nil (w0 w : World) (S : Nat → Prop) (b : Nat) : Gath w0 w S b (.slice none 0 0) [] := ⟨⟨[], World.ownsRow_nil _ _ _ _, RCells.nil _ _⟩, fun k e => by cases e⟩
theorem Gath.keep {w0 w w' : World} {S S' O : Nat → Prop} {b : Nat} {v : Value} {K : List (List Nat)} (h : Gath w0 w S b v K) (hk : Keeps O w w') (h0 : ∀ k, O k → w0.heap.size ≤ k) (hO : ∀ k, O k → S k ∨ k = b) (hf : Fresh S w.heap.size S') : Gath w0 w' S' b v K := by
  obtain ⟨⟨cells, h1, h2⟩, h3⟩ := h
  refine ⟨⟨cells, ownsRow_keep h1 hk (fun k e he => ?_), h2.keep hk (fun k e he => ?_)⟩, fun k e => ⟨(h3 k e).1, fun he => ?_, (h3 k e).2.2⟩⟩
  · rcases hO k he with h | h
    · exact (h3 k e).2.1 h
    · exact (h3 k e).2.2 h
  · have := h0 k he
    have : k < w0.heap.size := e
    omega
  · rcases hf k he with h | h
    · exact (h3 k e).2.1 h
    · have := (h1.lt k e).2
      omega
theorem Gath.form {w0 w : World} {S : Nat → Prop} {b : Nat} {v : Value} {K : List (List Nat)} (h : Gath w0 w S b v K) : ∃ a c S', v = .slice a K.length c ∧ Recs w S' a K ∧ (a = none → c = 0) ∧ K.length ≤ c ∧ c ≤ maxLen := by
  obtain ⟨⟨cells, h1, h2⟩, _⟩ := h
  obtain ⟨a, c, h3⟩ := recs_of_owns (S := fun k => Was0 w0 k ∨ v.ownBlock = some k) (h2.mono (fun k hk => .inl hk)) h1 (fun k e => .inr e)
  exact ⟨a, c, _, h3⟩
/-- More rows are gathered. -/
theorem Gath.append {w0 w : World} {S : Nat → Prop} {b B : Nat} {d : Dsk} {v : Value} {K : List (List Nat)} (h : Gath w0 w S b v K) (hl : Live w0 w S B d) (hbw : b < w.heap.size) {a : Option Addr} {m c : Nat} {L : List (List Nat)} (hr : Recs w (Was0 w0) a L) (hm : L.length = m) (hc : a = none → c = 0) (hs : K.length + m ≤ 1000000) :
    ∃ v' w', (∀ ty, (Builtin.append_ #[53, 53] ty #[v, .slice a m c]).run Tryz.prog w = .ok v' w') ∧ Gath w0 w' S b v' (K ++ L) ∧ ∃ O : Nat → Prop, Keeps O w w' ∧ ∀ k, O k → w0.heap.size ≤ k ∧ ¬ S k ∧ k ≠ b := by
  cases a with
  | none =>
    have hL : L = [] := by
      obtain ⟨_, _, h | ⟨_, _, h, _⟩⟩ := hr
      · exact h
      · cases h
    obtain rfl : c = 0 := hc rfl
    subst hL
    obtain rfl : m = 0 := hm.symm
    obtain ⟨⟨cells, h1, h2⟩, h3⟩ := h
    exact ⟨v, w, append_any_none Tryz.underlying53 info22 h1, ⟨⟨cells, by rw [List.append_nil]; exact h1, by rw [List.append_nil]; exact h2⟩, h3⟩, Non, Keeps.refl _ _, fun k e => e.elim⟩
  | some ad =>
    obtain ⟨⟨cells, h1, h2⟩, h3⟩ := h
    obtain ⟨news, hrc, hat⟩ := hr
    have hlen := hrc.len
    have hat2 : ∀ j u, news[j]? = some u → w.cell? (ad.add j) = some u := fun j u hj => by
      rcases hat with h | ⟨b1, o, h4, _, h5⟩
      · rw [h] at hlen
        rw [List.length_eq_zero_iff.1 hlen] at hj
        simp at hj
      · obtain rfl := Option.some.inj h4
        rw [Addr.add_mid]
        exact h5 j u hj
    have hone : ∀ u ∈ news, u.oneCell' = true := fun u hu => by
      obtain ⟨i, hi⟩ := List.mem_iff_getElem?.1 hu
      have hlt := (List.getElem?_eq_some_iff.1 hi).1
      obtain ⟨v2, e1, ⟨⟨a2, c2, e2, _⟩⟩⟩ := hrc.at_ i _ (List.getElem?_eq_getElem (by omega))
      rw [hi] at e1
      rw [Option.some.inj e1, e2]
      rfl
    obtain ⟨v', w', hrun, ho, hg, hv⟩ := append_any (w := w) Tryz.underlying53 info22 rfl (by decide) h1 (b := ad) (m := m) (c := c) (news := news) (by rw [hlen, hm, Nat.mul_one]) hat2 hone (by unfold maxLen; omega) (by omega)
    have hk : Keeps (fun k => v.ownBlock = some k) w w' := (Keeps.refl _ w).grown hg (fun k e => .inl e)
    refine ⟨v', w', hrun, ⟨⟨cells ++ news, by rw [List.length_append, hm]; exact ho, (h2.app hrc).keep hk (fun k e he => ?_)⟩, fun k e => ?_⟩, _, hk, h3⟩
    · have := (h3 k he).1
      have : k < w0.heap.size := e
      omega
    · rcases hv k e with h | h
      · exact h3 k h
      · refine ⟨Nat.le_trans hl.bel.size h, fun e => ?_, by omega⟩
        have := hl.disk.2.1 k e
        omega

/-- The law's state ahead of step i: K was gathered, K2 is in the segment; M are the rows of the append that failed last and left it sick. -/
structure SL (w0 w : World) (S : Nat → Prop) (b B i : Nat) (d : Dsk) (g : Sg) (K K2 M M2 : List (List Nat)) (kv : Value) (am : Option Addr) (cm : Nat) : Prop where
  live : Live w0 w S B d
  seg : SegAt w b B 3 g
  off : ¬ S b
  own : w0.heap.size ≤ b
  gath : Gath w0 w S b kv K
  may : Recs w (Was0 w0) am M
  mnil : am = none → cm = 0
  mcap : M.length ≤ cm
  mmax : cm ≤ maxLen
  kept : Kept d 3 g K2 M2
  few : Few d (12 + 2400 * i) (4 + 3 * i)
  mlen : M.length ≤ 50
  klen : K.length ≤ 50 * i

variable {w0 w w' : World} {S : Nat → Prop} {b B i : Nat} {d : Dsk} {g : Sg} {K K2 M M2 : List (List Nat)} {kv : Value} {am : Option Addr} {cm : Nat}

/-- The disk has turned, and with it the segment. -/
theorem SL.turn (h : SL w0 w S b B i d g K K2 M M2 kv am cm) {d' : Dsk} {g' : Sg} {K3 M3 : List (List Nat)} {j : Nat} (hw : WSt w0 w w' S b B 3 d' g') (hk : Kept d' 3 g' K3 M3) (hf : Few d' (12 + 2400 * j) (4 + 3 * j)) (hij : i ≤ j) :
    ∃ S', SL w0 w' S' b B j d' g' K K3 M M3 kv am cm ∧ Fresh S w.heap.size S' ∧ Keeps (fun k => S k ∨ k = b) w w' := by
  obtain ⟨S', h1, h2, h3, h4, h5⟩ := hw
  have h0 : ∀ k, (S k ∨ k = b) → w0.heap.size ≤ k := by
    rintro k (e | rfl)
    · exact h.live.own k e
    · exact h.own
  refine ⟨S', ⟨h1, h4, h3, h.own, h.gath.keep h5 h0 (fun _ e => e) h2, h.may.keep h5 (fun k e he => ?_), h.mnil, h.mcap, h.mmax, hk, hf, h.mlen, by have := h.klen; omega⟩, h2, h5⟩
  have := h0 k he
  have : k < w0.heap.size := e
  omega
theorem SL.below (h : SL w0 w S b B i d g K K2 M M2 kv am cm) (hb : Below w.heap.size w w') : SL w0 w' S b B i d g K K2 M M2 kv am cm :=
  ⟨h.live.quiet hb, h.seg.below hb, h.off, h.own, h.gath.keep (keeps_below hb Non) (fun _ e => e.elim) (fun _ e => e.elim) (fresh_refl _ _), h.may.below hb, h.mnil, h.mcap, h.mmax, h.kept, h.few, h.mlen, h.klen⟩
theorem SL.next (h : SL w0 w S b B i d g K K2 M M2 kv am cm) : SL w0 w S b B (i + 1) d g K K2 M M2 kv am cm :=
  ⟨h.live, h.seg, h.off, h.own, h.gath, h.may, h.mnil, h.mcap, h.mmax, h.kept, h.few.mono (by omega) (by omega), h.mlen, by have := h.klen; omega⟩
/-- More was gathered. -/
theorem SL.more (h : SL w0 w S b B i d g K K2 M M2 kv am cm) {v' : Value} {K' : List (List Nat)} {O : Nat → Prop} (hg : Gath w0 w' S b v' K') (hk : Keeps O w w') (hO : ∀ k, O k → w0.heap.size ≤ k ∧ ¬ S k ∧ k ≠ b) (hl : K'.length ≤ 50 * i) :
    SL w0 w' S b B i d g K' K2 M M2 v' am cm := by
  refine ⟨⟨h.live.disk.keep hk (fun k e he => (hO k he).2.1 e), h.live.own, h.live.bel.trans (hk.toBelow h.live.bel.size (fun k e => (hO k e).1))⟩, h.seg.keep hk (fun e => (hO b e).2.2 rfl), h.off, h.own, hg, h.may.keep hk (fun k e he => ?_), h.mnil, h.mcap, h.mmax, h.kept, h.few, h.mlen, hl⟩
  have := (hO k he).1
  have : k < w0.heap.size := e
  omega
theorem SL.maybe (h : SL w0 w S b B i d g K K2 M M2 kv am cm) {M' : List (List Nat)} {am' : Option Addr} {cm' : Nat} (hm : Recs w (Was0 w0) am' M') (h0 : am' = none → cm' = 0) (h1 : M'.length ≤ cm') (h2 : cm' ≤ maxLen) (h3 : M'.length ≤ 50) :
    SL w0 w S b B i d g K K2 M' M2 kv am' cm' := ⟨h.live, h.seg, h.off, h.own, h.gath, hm, h0, h1, h2, h.kept, h.few, h3, h.klen⟩
theorem SL.blt (h : SL w0 w S b B i d g K K2 M M2 kv am cm) : b < w.heap.size := lt_of_block h.seg
theorem SL.size (h : SL w0 w S b B i d g K K2 M M2 kv am cm) (hg : g.sick = false) (hi : i ≤ 30) : g.size ≤ 1099511627776 := by
  obtain ⟨f, t, h1, h2, _⟩ := h.kept.file
  have h3 := used_mem (fnd_some h1).1
  have h4 := h.few.used
  have h5 := h.kept.size hg
  have h6 : (headB 3).length = 12 := headB_len (by decide)
  rw [h2, List.length_append, List.length_append, h6] at h3
  omega
/-- A step of which the troubles are armed. -/
theorem SL.armed (h : SL w0 w S b B i d g K K2 M M2 kv am cm) (l : List Tro) (ht : Turns w S B (arm l d) w') : ∃ S', SL w0 w' S' b B i (arm l d) g K K2 M M2 kv am cm ∧ Fresh S w.heap.size S' ∧ Keeps (fun k => S k ∨ k = b) w w' :=
  h.turn (WSt.turned h.live (fresh_refl _ _) h.off h.seg (Keeps.refl _ _) ht) (h.kept.arm l) ⟨inv_arm h.few.inv l, h.few.used, Int.le_refl _, by show (0 : Int) ≤ _; omega⟩ (Nat.le_refl _)
/-- A step whose rows are appended. -/
theorem SL.appended (h : SL w0 w S b B i d g K K M M kv am cm) (hg : g.sick = false) {L : List (List Nat)} (hb : ∀ r ∈ L, Byts r) (h1 : L.length ≤ 50) (h2 : tot L ≤ 2000) (hw : WSt w0 w w' S b B 3 (appendB d 3 g L).2.2 (appendB d 3 g L).2.1) :
    ∃ S' K3 M3, SL w0 w' S' b B (i + 1) (appendB d 3 g L).2.2 (appendB d 3 g L).2.1 K K3 M M3 kv am cm ∧ Fresh S w.heap.size S' ∧ Keeps (fun k => S k ∨ k = b) w w' ∧
      ((appendB d 3 g L).1 = 0 → K3 = K ++ L ∧ M3 = M) ∧ ((appendB d 3 g L).1 ≠ 0 → (appendB d 3 g L).2.1.sick = false → K3 = K ∧ M3 = M) ∧ ((appendB d 3 g L).1 ≠ 0 → (appendB d 3 g L).2.1.sick = true → K3 = K ∧ M3 = L) := by
  obtain ⟨q1, q2, q3⟩ := h.kept.append (by decide) hg L
  have hl := frs_len L
  have hf : Few (appendB d 3 g L).2.2 (12 + 2400 * (i + 1)) (4 + 3 * (i + 1)) := (h.few.append 3 g hb).mono (by omega) (by omega)
  by_cases c0 : (appendB d 3 g L).1 = 0
  · obtain ⟨S', e1, e2, e3⟩ := h.turn hw (q1 c0) hf (by omega)
    exact ⟨S', _, _, e1, e2, e3, fun _ => ⟨rfl, rfl⟩, fun h => absurd c0 h, fun h => absurd c0 h⟩
  · cases hs : (appendB d 3 g L).2.1.sick with
    | false =>
      obtain ⟨S', e1, e2, e3⟩ := h.turn hw (q2 c0 hs) hf (by omega)
      exact ⟨S', _, _, e1, e2, e3, fun h => absurd h c0, fun _ _ => ⟨rfl, rfl⟩, fun _ h => (by cases h)⟩
    | true =>
      obtain ⟨S', e1, e2, e3⟩ := h.turn hw (q3 c0 hs) hf (by omega)
      exact ⟨S', _, _, e1, e2, e3, fun h => absurd h c0, fun _ h => (by cases h), fun _ _ => ⟨rfl, rfl⟩⟩

end Go.Proofs.YtjhiekijbcjohaaGreatDoor
