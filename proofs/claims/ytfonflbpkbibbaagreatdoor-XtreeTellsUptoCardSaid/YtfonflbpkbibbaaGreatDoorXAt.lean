/-
  A token has no more attributes than the document bytes, and one. Of no program. No condition. How a document's tree goes on by a token, and where its first element stands. Pure. No condition. Names of attributes aren't empty, in a tree and as it grows; so nothing of a tree lies in a block whose cells are those of an empty document. No condition.
-/
import Derived.Test.YtfonflbpkbibbaaGreatDoorXTr
import Derived.Test.YtfonflbpkbibbaaGreatDoorXTq
namespace Go.Proofs.YtfonflbpkbibbaaGreatDoor
open Go.RowKit Go.Lib Go.Joins

theorem Sx.then_inv {α β : Type} {s : Sx α} {f : α → Nat → List UInt8 → Sx β} {x : β} {j : Nat} {t : List UInt8} (h : s.then f = .ok x j t) : ∃ y k u, s = .ok y k u ∧ f y k u = .ok x j t := by
  cases s with
  | no c p => cases h
  | ok y k u => exact ⟨y, k, u, rfl, h⟩
theorem tagG_few : ∀ (g : Nat) (ats : List (List UInt8 × List UInt8)) (i : Nat) (r : List UInt8) (q : Nat × List (List UInt8 × List UInt8)) (j : Nat) (t : List UInt8), tagG g ats i r = .ok q j t → q.2.length ≤ ats.length + g
  | 0, _, _, _, _, _, _, h => by cases h
  | g + 1, ats, i, r, q, j, t, h => by
    rw [tagG] at h
    obtain ⟨b, k, u, _, h⟩ := Sx.then_inv h
    obtain ⟨x, k2, u2, _, h⟩ := Sx.then_inv h
    split at h
    · obtain ⟨_, _, _, _, h⟩ := Sx.then_inv h
      cases h
      exact Nat.le_add_right _ _
    · split at h
      · obtain ⟨_, _, _, _, h⟩ := Sx.then_inv h
        cases h
        exact Nat.le_add_right _ _
      · split at h
        · cases h
        · obtain ⟨a, k3, u3, _, h⟩ := Sx.then_inv h
          have := tagG_few g _ _ _ _ _ _ h
          rw [List.length_append, List.length_singleton] at this
          omega
theorem Sx.Fwd.short {α : Type} {i : Nat} {r : List UInt8} {s : Sx α} (h : s.Fwd i r) {x : α} {j : Nat} {t : List UInt8} (e : s = .ok x j t) : t.length ≤ r.length := by
  obtain ⟨p, h1, _⟩ := h x j t e
  rw [h1, List.length_append]
  omega
theorem opensS_short {m : List UInt8} {i : Nat} {r : List UInt8} {b : Bool} {k : Nat} {u : List UInt8} (h : opensS m i r = .ok b k u) : u.length ≤ r.length := by
  unfold opensS at h
  split at h
  · cases h
  · split at h
    · cases h; rw [List.length_drop]; omega
    · cases h; exact Nat.le_refl _
theorem declS_short {b : List UInt8} {x : Unit} {k : Nat} {u : List UInt8} (h : declS b = .ok x k u) : u.length ≤ b.length := by
  rw [declC_eq] at h
  split at h
  · obtain ⟨y, k2, u2, e, h⟩ := Sx.then_inv h
    split at h
    · cases h
      have h1 := (upToS_fwd [63, 62] 5 (b.drop 5)).short e
      rw [List.length_drop] at h1
      omega
    · cases h
  · cases h; exact Nat.le_refl _
theorem startS_few {i : Nat} {r : List UInt8} {q : Nat × List UInt8 × List (List UInt8 × List UInt8)} {j : Nat} {t : List UInt8} (h : startS i r = .ok q j t) : q.2.2.length ≤ r.length + 1 := by
  unfold startS at h
  obtain ⟨nm, k, u, e1, h⟩ := Sx.then_inv h
  obtain ⟨q2, k2, u2, e2, h⟩ := Sx.then_inv h
  cases h
  have h1 := tagG_few _ _ _ _ _ _ _ e2
  have h2 := (nameS_fwd1 i r).fwd.short e1
  have h3 : ([] : List (List UInt8 × List UInt8)).length = 0 := rfl
  show q2.2.length ≤ _
  omega
theorem tokS_few {i : Nat} {r : List UInt8} {tk : Tk} {j : Nat} {t : List UInt8} (h : tokS i r = .ok tk j t) : tk.attrs.length ≤ r.length + 1 := by
  have z : ([] : List (List UInt8 × List UInt8)).length ≤ r.length + 1 := Nat.zero_le _
  unfold tokS at h
  split at h
  · obtain ⟨_, _, _, _, h⟩ := Sx.then_inv h; cases h; exact z
  unfold lenS at h
  obtain ⟨b, k, u, _, h⟩ := Sx.then_inv h
  split at h
  · obtain ⟨_, _, _, _, h⟩ := Sx.then_inv h; cases h; exact z
  obtain ⟨b, k, u, _, h⟩ := Sx.then_inv h
  split at h
  · obtain ⟨_, _, _, _, h⟩ := Sx.then_inv h; cases h; exact z
  obtain ⟨b, k, u, _, h⟩ := Sx.then_inv h
  split at h
  · cases h
  obtain ⟨b, k, u, _, h⟩ := Sx.then_inv h
  split at h
  · obtain ⟨_, _, _, _, h⟩ := Sx.then_inv h; cases h; exact z
  obtain ⟨b, k, u, _, h⟩ := Sx.then_inv h
  split at h
  · obtain ⟨_, _, _, _, h⟩ := Sx.then_inv h; cases h; exact z
  obtain ⟨b, k, u, e5, h⟩ := Sx.then_inv h
  split at h
  · obtain ⟨q, k2, u2, e6, h⟩ := Sx.then_inv h
    cases h
    have h1 := startS_few e6
    have h2 := opensS_short e5
    show q.2.2.length ≤ _
    omega
  · cases h
    exact z
theorem toksG_few : ∀ (g i : Nat) (r : List UInt8) (ts : List Tk) (j : Nat) (t : List UInt8), toksG g i r = .ok ts j t → ∀ tk ∈ ts, tk.attrs.length ≤ r.length + 1
  | 0, _, _, _, _, _, h, tk, hm => by cases h; cases hm
  | g + 1, i, r, ts, j, t, h, tk, hm => by
    rw [toksG] at h
    split at h
    · cases h; cases hm
    · next hne =>
      obtain ⟨x, k, u, e1, h⟩ := Sx.then_inv h
      obtain ⟨l, k2, u2, e2, h⟩ := Sx.then_inv h
      cases h
      obtain ⟨c, r, rfl⟩ : ∃ c r2, r = c :: r2 := by
        cases r with
        | nil => exact absurd rfl hne
        | cons c r => exact ⟨c, r, rfl⟩
      rcases List.mem_cons.1 hm with h1 | h1
      · rw [h1]; exact tokS_few e1
      · have h2 := toksG_few g k u l _ _ e2 tk h1
        have h3 := (tokS_fwd1 i c r).fwd.short e1
        omega
theorem allS_few {b : List UInt8} {ts : List Tk} {j : Nat} {t : List UInt8} (h : allS b = .ok ts j t) : b.length ≤ 65536 ∧ ∀ tk ∈ ts, tk.attrs.length ≤ 65537 := by
  unfold allS at h
  split at h
  · cases h
  · next hl =>
    split at h
    · cases h
    · obtain ⟨_, k, u, e1, h⟩ := Sx.then_inv h
      refine ⟨by omega, fun tk hm => ?_⟩
      have h1 := toksG_few _ _ _ _ _ _ h tk hm
      have h2 := declS_short e1
      omega
theorem Seq9.ge {b : List UInt8} {lo : Nat} {pt : Bool} {ts : List Tk} (h : Seq9 b lo pt ts) : ∀ (k : Nat) (tk : Tk), ts[k]? = some tk → k ≤ tk.at_
  | 0, _, _ => Nat.zero_le _
  | k + 1, tk, hk => by
    have hlt : k < ts.length := Nat.lt_of_succ_lt (List.getElem?_eq_some_iff.1 hk).1
    have hx := List.getElem?_eq_getElem hlt
    have h1 := (h.pair k _ tk hx hk).1
    have h2 := Seq9.ge h k _ hx
    omega
theorem allS_count {b : List UInt8} {ts : List Tk} {j : Nat} {t : List UInt8} (h : allS b = .ok ts j t) : ts.length ≤ b.length := by
  rcases Nat.eq_zero_or_pos ts.length with h0 | h0
  · omega
  · have hx := List.getElem?_eq_getElem (l := ts) (i := ts.length - 1) (by omega)
    have h1 := (allS_seq h).ge _ _ hx
    have h2 := ((allS_seq h).at _ _ hx).2.1
    omega
/-- A token as the tree takes it. -/
theorem allS_fit {b : List UInt8} {ts : List Tk} {j : Nat} {t : List UInt8} (h : allS b = .ok ts j t) {k : Nat} {tk : Tk} (hk : ts[k]? = some tk) : tkFit (fun _ => true) tk ∧ tk.text.length ≤ 4 * 65536 ∧ tk.attrs.length ≤ 65537 := by
  obtain ⟨_, _, hg, _⟩ := (allS_seq h).at k tk hk
  obtain ⟨h1, h2⟩ := allS_few h
  refine ⟨⟨?_, ?_, fun _ => rfl⟩, ?_, h2 tk (List.mem_of_getElem? hk)⟩
  · rcases hg.name with ⟨_, h3⟩ | ⟨_, h3⟩ <;> omega
  · rcases hg.name with ⟨_, h3⟩ | ⟨_, h3⟩ <;> omega
  · have h3 : tk.text.length ≤ 4 * b.length := hg.text.2
    omega

end Go.Proofs.YtfonflbpkbibbaaGreatDoor
namespace Go.Proofs.YtfonflbpkbibbaaGreatDoor
open Go.RowKit Go.Lib Go.Joins

theorem mayS_err {g : Gr} {k : Int} {na c : Nat} (h : g.mayS k na = some c) : c ≠ 0 := by
  unfold Gr.mayS at h
  repeat' split at h
  · injection h with h; omega
  · injection h with h; omega
  · cases h
theorem takeS_err {g : Gr} {tk : Tk} {c : Nat} (h : g.takeS tk = .error c) : c ≠ 0 := by
  unfold Gr.takeS at h
  repeat' split at h
  all_goals first
    | (cases h; done)
    | (injection h with h; subst h; exact mayS_err (by assumption))
    | (injection h with h; omega)
theorem drop_at {α : Type} {l : List α} {i : Nat} {x : α} (h : l[i]? = some x) : l.drop i = x :: l.drop (i + 1) := by
  obtain ⟨hi, hx⟩ := List.getElem?_eq_some_iff.1 h
  rw [List.drop_eq_getElem_cons hi, hx]
theorem growS_step {g g2 : Gr} {ts : List Tk} {i : Nat} {tk : Tk} (hi : ts[i]? = some tk) (h : g.takeS tk = .ok g2) : growS g (ts.drop i) = growS g2 (ts.drop (i + 1)) := by
  rw [drop_at hi, growS, h]
theorem growS_stop {g : Gr} {ts : List Tk} {i c : Nat} {tk : Tk} (hi : ts[i]? = some tk) (h : g.takeS tk = .error c) : growS g (ts.drop i) = .error (c, tk.at_) := by
  rw [drop_at hi, growS, h]
theorem elemAt_cut : ∀ (l : List Tr) (i : Nat), (elemAt l i = -1 ∧ cutT l = none) ∨ ∃ (j : Nat) (t : Tr), elemAt l i = ((i + j : Nat) : Int) ∧ l[j]? = some t ∧ cutT l = some (l.take j, t, l.drop (j + 1))
  | [], _ => .inl ⟨rfl, rfl⟩
  | t :: l, i => by
    by_cases h : t.kind = 1
    · refine .inr ⟨0, t, ?_, rfl, ?_⟩
      · rw [elemAt, if_pos h]; rfl
      · rw [cutT, if_pos h]; rfl
    · rcases elemAt_cut l (i + 1) with ⟨h1, h2⟩ | ⟨j, x, h1, h2, h3⟩
      · exact .inl ⟨by rw [elemAt, if_neg h, h1], by rw [cutT, if_neg h, h2]; rfl⟩
      · refine .inr ⟨j + 1, x, ?_, h2, ?_⟩
        · rw [elemAt, if_neg h, h1, show i + 1 + j = i + (j + 1) by omega]
        · rw [cutT, if_neg h, h3]; rfl
theorem RowIn.take {w : World} {S : Nat → Prop} {b o c : Nat} {rows : List Nr} {n : Nat} (h : RowIn w S (.slice (some ⟨b, o, none⟩) n c) rows) (j : Nat) (hj : j ≤ rows.length) : RowIn w S (.slice (some ⟨b, o, none⟩) j c) (rows.take j) := by
  obtain ⟨a, c2, e, hc, hm, hn, hr⟩ := h
  injection e with e1 e2 e3
  subst e1
  subst e3
  have hl : (rows.take j).length = j := by rw [List.length_take]; omega
  refine ⟨_, c, by rw [hl], by omega, hm, fun h => (by cases h), ?_⟩
  rcases hr with h0 | ⟨b2, o2, e2, hS, hcell⟩
  · exact .inl (by rw [h0]; simp)
  · refine .inr ⟨b2, o2, e2, hS, fun i x hx => hcell i x ?_⟩
    rw [List.getElem?_take] at hx
    split at hx
    · exact hx
    · cases hx
theorem NodesIn.take {w : World} {S : Nat → Prop} {rows : List Nr} {ks : List Tr} (h : NodesIn w S rows ks) (j : Nat) : NodesIn w S (rows.take j) (ks.take j) := by
  refine ⟨by rw [List.length_take, List.length_take, h.1], fun i x t hx ht => ?_⟩
  rw [List.getElem?_take] at hx ht
  split at hx
  · next hi =>
    rw [if_pos hi] at ht
    exact h.2 i x t hx ht
  · cases hx
theorem NodesIn.drop {w : World} {S : Nat → Prop} {rows : List Nr} {ks : List Tr} (h : NodesIn w S rows ks) (j : Nat) : NodesIn w S (rows.drop j) (ks.drop j) := by
  refine ⟨by rw [List.length_drop, List.length_drop, h.1], fun i x t hx ht => ?_⟩
  rw [List.getElem?_drop] at hx ht
  exact h.2 (j + i) x t hx ht
theorem RowIn.drop {w : World} {S : Nat → Prop} {b o c : Nat} {rows : List Nr} {n : Nat} (h : RowIn w S (.slice (some ⟨b, o, none⟩) n c) rows) (j : Nat) (hj : j ≤ rows.length) : RowIn w S (.slice (some ⟨b, o + j * 5, none⟩) (n - j) (c - j)) (rows.drop j) := by
  obtain ⟨a, c2, e, hc, hm, hn, hr⟩ := h
  injection e with e1 e2 e3
  subst e1
  subst e3
  subst e2
  have hl : (rows.drop j).length = rows.length - j := by rw [List.length_drop]
  refine ⟨_, c - j, by rw [hl], by omega, by omega, fun h => (by cases h), ?_⟩
  rcases hr with h0 | ⟨b2, o2, e2, hS, hcell⟩
  · exact .inl (by rw [h0]; simp)
  · injection e2 with e2
    injection e2 with e2 e3
    subst e2
    subst e3
    refine .inr ⟨b, o + j * 5, rfl, hS, fun i x hx => ?_⟩
    rw [List.getElem?_drop] at hx
    have h5 := hcell (j + i) x hx
    rw [show o + j * 5 + i * 5 = o + (j + i) * 5 by omega]
    exact h5
/-- What stands in no element, as it lies in memory. -/
theorem GrW.topIn {w : World} {n0 gb nodes : Nat} {S : Nat → Prop} {ks : List Tr} {fs : List Fr} {v ov : Value} {ps : List Addr} {bs : List (Option Nat)} (h : GrW w n0 gb S ks fs nodes v ov ps bs) : ∃ rows, RowIn w (fun _ => True) v rows ∧ (fs = [] → NodesIn w (fun _ => True) rows ks) ∧ (rows ≠ [] → ∃ g c, v = .slice (some ⟨g, 0, none⟩) rows.length c ∧ rows.length ≤ c ∧ c ≤ maxLen ∧ n0 ≤ g) := by
  have hf : ∀ rows, Lv w n0 v rows → rows ≠ [] → ∃ g c, v = .slice (some ⟨g, 0, none⟩) rows.length c ∧ rows.length ≤ c ∧ c ≤ maxLen ∧ n0 ≤ g := fun rows h1 hn => by
    obtain ⟨a, c, e, h3, h4, h5⟩ := h1.form
    rcases h5 with ⟨_, h6, _⟩ | ⟨g, h6⟩
    · exact absurd h6 hn
    · subst h6
      exact ⟨g, c, e, h3, h4, h1.new g (by rw [e]; rfl)⟩
  have hs := h.spi
  cases fs with
  | nil =>
    obtain ⟨_, _, rows, h1, h2⟩ := hs
    exact ⟨rows, h1.rowIn _ (fun _ _ => trivial), fun _ => h2.keep (Keeps.refl Non w) (fun _ _ h => h) (fun _ _ => trivial), hf rows h1⟩
  | cons f fs =>
    obtain ⟨rows, r, g, c, ps', bs', _, _, _, h1, _⟩ := hs
    exact ⟨rows ++ [r], h1.rowIn _ (fun _ _ => trivial), fun e => (by cases e), hf _ h1⟩
theorem NodesIn.ones {w : World} {S : Nat → Prop} {rows : List Nr} {ks : List Tr} (h : NodesIn w S rows ks) : ∀ x ∈ rows, x.av.oneCell' = true ∧ x.kv.oneCell' = true := by
  intro x hx
  obtain ⟨i, hi⟩ := List.getElem?_of_mem hx
  obtain ⟨t, ht⟩ : ∃ t, ks[i]? = some t := ⟨_, List.getElem?_eq_getElem (by rw [← h.1]; exact (List.getElem?_eq_some_iff.1 hi).1)⟩
  obtain ⟨_, _, _, ⟨a, c, ha, _⟩, rows2, ⟨a2, c2, hk, _⟩, _⟩ := (h.2 i x t hi ht).kids
  rw [ha, hk]
  exact ⟨rfl, rfl⟩

end Go.Proofs.YtfonflbpkbibbaaGreatDoor
namespace Go.Proofs.YtfonflbpkbibbaaGreatDoor
open Go.RowKit Go.Lib Go.Joins

def atsB (l : List (List UInt8 × List UInt8)) : Bool := l.all fun a => !a.1.isEmpty
mutual
def Tr.atB : Tr → Bool
  | .mk _ _ _ a ks => atsB a && atL ks
def atL : List Tr → Bool
  | [] => true
  | t :: ts => t.atB && atL ts
end
theorem atB_mk (k : Int) (n x : List UInt8) (a : List (List UInt8 × List UInt8)) (ks : List Tr) : (Tr.mk k n x a ks).atB = (atsB a && atL ks) := by rw [Tr.atB]
theorem atL_app : ∀ l m : List Tr, atL (l ++ m) = (atL l && atL m)
  | [], _ => by rw [List.nil_append, atL, Bool.true_and]
  | t :: l, m => by rw [List.cons_append, atL, atL, atL_app l m, Bool.and_assoc]
theorem atL_mem : ∀ {l : List Tr}, atL l = true → ∀ t ∈ l, t.atB = true
  | [], _, t, h => by cases h
  | x :: l, e, t, h => by
    rw [atL, Bool.and_eq_true] at e
    rcases List.mem_cons.1 h with h | h
    · rw [h]; exact e.1
    · exact atL_mem e.2 t h
structure AtG (g : Gr) : Prop where
  top : atL g.top = true
  frs : ∀ f, f ∈ g.opens → atsB f.attrs = true ∧ atL f.kids = true
theorem AtG.start : AtG ⟨[], [], 0⟩ := ⟨by rw [atL], fun _ h => by cases h⟩
theorem atL_snoc {l : List Tr} {t : Tr} (h : atL l = true) (ht : t.atB = true) : atL (l ++ [t]) = true := by
  rw [atL_app, h, atL, ht, atL]; rfl
theorem AtG.inner {g : Gr} (h : AtG g) : atL g.inner = true := by
  obtain ⟨opens, top, nodes⟩ := g
  cases opens with
  | nil => exact h.top
  | cons f fs => exact (h.frs f (List.mem_cons_self ..)).2
theorem AtG.set {g : Gr} (h : AtG g) {ks : List Tr} (hk : atL ks = true) : AtG (g.setInner ks) := by
  obtain ⟨opens, top, nodes⟩ := g
  cases opens with
  | nil => exact ⟨hk, fun f hf => by cases hf⟩
  | cons f fs =>
    refine ⟨h.top, fun f' hf => ?_⟩
    rcases List.mem_cons.1 hf with h1 | h1
    · rw [h1]; exact ⟨(h.frs f (List.mem_cons_self ..)).1, hk⟩
    · exact h.frs f' (List.mem_cons_of_mem _ h1)
theorem AtG.put {g : Gr} (h : AtG g) {n : Tr} (hn : n.atB = true) : AtG (g.putS n) := by
  have h1 := h.set (atL_snoc h.inner hn)
  exact ⟨h1.top, h1.frs⟩
theorem onT_atts {u : List UInt8} : ∀ {l ks : List Tr}, atL l = true → onT u l = some ks → atL ks = true
  | [], _, _, e => by cases e
  | [n], ks, h, e => by
    rw [onT] at e
    split at e
    · cases e
      obtain ⟨k, nm, x, a, kk⟩ := n
      rw [atL, atB_mk] at h
      rw [atL]
      show ((Tr.mk k nm (x ++ u) a kk).atB && _) = true
      rw [atB_mk]
      exact h
    · cases e
  | n :: m :: l, ks, h, e => by
    rw [onT] at e
    cases hq : onT u (m :: l) with
    | none => rw [hq] at e; cases e
    | some q =>
      rw [hq] at e
      cases e
      rw [atL, Bool.and_eq_true] at h
      show (n.atB && atL q) = true
      rw [h.1, onT_atts h.2 hq]
      rfl
theorem takeS_atts {g g' : Gr} {tk : Tk} (h : AtG g) (ha : atsB tk.attrs = true) (e : g.takeS tk = .ok g') : AtG g' := by
  have hlf : ∀ k n x, (Tr.mk k n x [] []).atB = true := fun k n x => by rw [atB_mk, atL]; rfl
  unfold Gr.takeS at e
  split at e
  · split at e
    · cases e
    · split at e
      · cases e
      · split at e
        · cases e
          exact ⟨h.top, fun f hf => by
            rcases List.mem_cons.1 hf with h1 | h1
            · rw [h1]; exact ⟨ha, by rw [atL]⟩
            · exact h.frs f h1⟩
        · cases e
          exact h.put (by rw [atB_mk, ha, atL]; rfl)
  · split at e
    · split at e
      · cases e
      · next f fs ho =>
        split at e
        · cases e
          have hf := h.frs f (by rw [ho]; exact List.mem_cons_self ..)
          have h1 : AtG ⟨fs, g.top, g.nodes⟩ := ⟨h.top, fun f' hf => h.frs f' (by rw [ho]; exact List.mem_cons_of_mem _ hf)⟩
          exact h1.set (atL_snoc h1.inner (by rw [atB_mk, hf.1, hf.2]; rfl))
        · cases e
    · split at e
      · split at e
        · cases e
        · split at e
          · cases e; exact h
          · split at e
            · next ks hk =>
              cases e
              exact h.set (onT_atts h.inner hk)
            · split at e
              · cases e
              · cases e
                exact h.put (hlf _ _ _)
      · split at e
        · split at e
          · cases e
          · cases e
            exact h.put (hlf _ _ _)
        · split at e
          · cases e
          · cases e
            exact h.put (hlf _ _ _)
theorem allS_atts {b : List UInt8} {ts : List Tk} {j : Nat} {t : List UInt8} (h : allS b = .ok ts j t) {k : Nat} {tk : Tk} (hk : ts[k]? = some tk) : atsB tk.attrs = true := by
  obtain ⟨_, _, hg, _⟩ := (allS_seq h).at k tk hk
  refine List.all_eq_true.2 fun a ha => ?_
  have h1 := (hg.attrs a ha).1.1.1
  cases hx : a.1 with
  | nil => exact absurd hx h1
  | cons => rfl
/-- A block whose cells are those of an empty document. -/
def Blank (w : World) (b : Nat) : Prop := ∃ t, w.heap[b]? = some (.cells #[.slice none 0 0, .int .i64 0, .string ⟨#[]⟩, .string ⟨#[]⟩, .slice none 0 0, .slice none 0 0, .slice none 0 0] t (0, 0))
theorem Blank.att {w : World} {b : Nat} (h : Blank w b) {v : Value} {l : List (List UInt8 × List UInt8)} (ha : AttIn w Any v l) (hl : atsB l = true) : AttIn w (fun k => k ≠ b) v l := by
  obtain ⟨t, h⟩ := h
  obtain ⟨a, c, h1, h2, h3, h4, h5⟩ := ha
  refine ⟨a, c, h1, h2, h3, h4, ?_⟩
  rcases h5 with h5 | ⟨b2, o, h6, _, h7⟩
  · exact .inl h5
  · cases l with
    | nil => exact .inl rfl
    | cons x l =>
      refine .inr ⟨b2, o, h6, fun e => ?_, h7⟩
      subst e
      obtain ⟨y1, y2⟩ := h7 0 x rfl
      rw [cell_of_block h] at y1 y2
      have hx : x.1 ≠ [] := by
        unfold atsB at hl
        rw [List.all_cons, Bool.and_eq_true] at hl
        intro e
        rw [e] at hl
        exact absurd hl.1 (by decide)
      match o, y1, y2 with
      | 0, y1, _ => cases y1
      | 1, y1, _ => cases y1
      | 2, y1, _ =>
        have e1 : (Value.string ⟨#[]⟩) = .string (strB x.1) := Option.some.inj y1
        injection e1 with e1
        exact hx (strB_inj (a := x.1) (b := []) e1.symm)
      | 3, _, y2 => cases y2
      | 4, y1, _ => cases y1
      | 5, y1, _ => cases y1
      | 6, y1, _ => cases y1
      | o + 7, y1, _ => simp at y1
theorem Blank.row {w : World} {b : Nat} (h : Blank w b) {v : Value} {l : List Nr} (hr : RowIn w Any v l) (hl : ∀ x ∈ l, x.kind ≠ 0) : RowIn w (fun k => k ≠ b) v l := by
  obtain ⟨t, h⟩ := h
  obtain ⟨a, c, h1, h2, h3, h4, h5⟩ := hr
  refine ⟨a, c, h1, h2, h3, h4, ?_⟩
  rcases h5 with h5 | ⟨b2, o, h6, _, h7⟩
  · exact .inl h5
  · cases l with
    | nil => exact .inl rfl
    | cons x l =>
      refine .inr ⟨b2, o, h6, fun e => ?_, h7⟩
      subst e
      obtain ⟨y1, y2, _⟩ := h7 0 x rfl
      rw [cell_of_block h] at y1 y2
      match o, y1, y2 with
      | 0, y1, _ => cases y1
      | 1, y1, _ =>
        have e1 : (Value.int .i64 0) = .int .i64 x.kind := Option.some.inj y1
        injection e1 with _ e1
        exact hl x (List.mem_cons_self ..) e1.symm
      | 2, y1, _ => cases y1
      | 3, y1, _ => cases y1
      | 4, y1, _ => cases y1
      | 5, y1, _ => cases y1
      | 6, y1, _ => cases y1
      | o + 7, y1, _ => simp at y1
theorem snd_kind {nm : List UInt8 → Bool} {t : Tr} (h : t.snd nm = true) : t.kind ≠ 0 := by
  obtain ⟨k, n, x, a, ks⟩ := t
  rw [snd_mk, Bool.and_eq_true] at h
  have h1 := h.1
  unfold fitN at h1
  simp only [Bool.and_eq_true, Bool.not_eq_true', Bool.or_eq_false_iff, decide_eq_false_iff_not] at h1
  intro e
  have e2 : k = 0 := e
  omega
theorem Blank.nodes {w : World} {b : Nat} (h : Blank w b) {nm : List UInt8 → Bool} : ∀ {r : Nr} {t : Tr}, NodeIn w Any r t → t.snd nm = true → t.atB = true → NodeIn w (fun k => k ≠ b) r t := by
  intro r t hn
  induction hn with
  | mk r attrs kids rows ha hk hl hh ih =>
    intro hs hb
    rw [snd_mk, Bool.and_eq_true] at hs
    rw [atB_mk, Bool.and_eq_true] at hb
    refine .mk r attrs kids rows (h.att ha hb.1) (h.row hk fun x hx => ?_) hl fun i x t hx ht => ?_
    · obtain ⟨i, hi⟩ := List.getElem?_of_mem hx
      obtain ⟨u, hu⟩ : ∃ u, kids[i]? = some u := ⟨_, List.getElem?_eq_getElem (by rw [← hl]; exact (List.getElem?_eq_some_iff.1 hi).1)⟩
      rw [(hh i x u hi hu).kids.1]
      exact snd_kind (sndL_mem hs.2 u (List.mem_of_getElem? hu))
    · exact ih i x t hx ht (sndL_mem hs.2 t (List.mem_of_getElem? ht)) (atL_mem hb.2 t (List.mem_of_getElem? ht))

end Go.Proofs.YtfonflbpkbibbaaGreatDoor
