/-
 Names of attributes aren't empty, in a tree and as it grows; so nothing of a tree lies in a block whose cells are those of an empty document.
-/
import Derived.Test.YtjpkkflhcjjefaaGreatDoorXTy
namespace Go.Proofs.YtjpkkflhcjjefaaGreatDoor
open Go.RowKit Go.Lib Go.Joins
def atsB (l : List (List UInt8 × List UInt8)) : Bool := l.all fun a => !a.1.isEmpty
mutual
def Tr.atB : Tr → Bool
 | .mk _ _ _ a ks => atsB a && atL ks
def atL : List Tr → Bool
 | [] => true
 | t :: ts => t.atB && atL ts
end
theorem atB_mk (k : Int) (n x : List UInt8) (a : List (List UInt8 × List UInt8)) (ks : List Tr) : (Tr.mk k n x a ks).atB = (atsB a && atL ks) := by rw [Tr.atB]
theorem atL_app : ∀ l m : List Tr, atL (l ++ m) = (atL l && atL m)
 | [], _ => by rw [List.nil_append, atL, Bool.true_and]
 | t :: l, m => by rw [List.cons_append, atL, atL, atL_app l m, Bool.and_assoc]
theorem atL_mem : ∀ {l : List Tr}, atL l = true → ∀ t ∈ l, t.atB = true
 | [], _, t, h => by cases h
 | x :: l, e, t, h => by
  rw [atL, Bool.and_eq_true] at e
  rcases List.mem_cons.1 h with h | h
  ·rw [h]; exact e.1
  ·exact atL_mem e.2 t h
structure AtG (g : Gr) : Prop where
 top : atL g.top = true
 frs : ∀ f, f ∈ g.opens → atsB f.attrs = true ∧ atL f.kids = true
theorem AtG.start : AtG ⟨[], [], 0⟩ := ⟨by rw [atL], fun _ h => by cases h⟩
theorem atL_snoc {l : List Tr} {t : Tr} (h : atL l = true) (ht : t.atB = true) : atL (l ++ [t]) = true := by
 rw [atL_app, h, atL, ht, atL]; rfl
theorem AtG.inner {g : Gr} (h : AtG g) : atL g.inner = true := by
 obtain ⟨opens, top, nodes⟩ := g
 cases opens with
 | nil => exact h.top
 | cons f fs => exact (h.frs f (List.mem_cons_self ..)).2
theorem AtG.set {g : Gr} (h : AtG g) {ks : List Tr} (hk : atL ks = true) : AtG (g.setInner ks) := by
 obtain ⟨opens, top, nodes⟩ := g
 cases opens with
 | nil => exact ⟨hk, fun f hf => by cases hf⟩
 | cons f fs =>
  refine ⟨h.top, fun f' hf => ?_⟩
  rcases List.mem_cons.1 hf with h1 | h1
  ·rw [h1]; exact ⟨(h.frs f (List.mem_cons_self ..)).1, hk⟩
  ·exact h.frs f' (List.mem_cons_of_mem _ h1)
theorem AtG.put {g : Gr} (h : AtG g) {n : Tr} (hn : n.atB = true) : AtG (g.putS n) := by
 have h1 := h.set (atL_snoc h.inner hn)
 exact ⟨h1.top, h1.frs⟩
theorem onT_atts {u : List UInt8} : ∀ {l ks : List Tr}, atL l = true → onT u l = some ks → atL ks = true
 | [], _, _, e => by cases e
 | [n], ks, h, e => by
  rw [onT] at e
  split at e
  ·cases e
   obtain ⟨k, nm, x, a, kk⟩ := n
   rw [atL, atB_mk] at h
   rw [atL]
   show ((Tr.mk k nm (x ++ u) a kk).atB && _) = true
   rw [atB_mk]
   exact h
  ·cases e
 | n :: m :: l, ks, h, e => by
  rw [onT] at e
  cases hq : onT u (m :: l) with
  | none => rw [hq] at e; cases e
  | some q =>
   rw [hq] at e
   cases e
   rw [atL, Bool.and_eq_true] at h
   show (n.atB && atL q) = true
   rw [h.1, onT_atts h.2 hq]
   rfl
theorem takeS_atts {g g' : Gr} {tk : Tk} (h : AtG g) (ha : atsB tk.attrs = true) (e : g.takeS tk = .ok g') : AtG g' := by
 have hlf : ∀ k n x, (Tr.mk k n x [] []).atB = true := fun k n x => by rw [atB_mk, atL]; rfl
 unfold Gr.takeS at e
 split at e
 ·split at e
  ·cases e
  ·split at e
   ·cases e
   ·split at e
    ·cases e
     exact ⟨h.top, fun f hf => by
      rcases List.mem_cons.1 hf with h1 | h1
      ·rw [h1]; exact ⟨ha, by rw [atL]⟩
      ·exact h.frs f h1⟩
    ·cases e
     exact h.put (by rw [atB_mk, ha, atL]; rfl)
 ·split at e
  ·split at e
   ·cases e
   ·next f fs ho =>
    split at e
    ·cases e
     have hf := h.frs f (by rw [ho]; exact List.mem_cons_self ..)
     have h1 : AtG ⟨fs, g.top, g.nodes⟩ := ⟨h.top, fun f' hf => h.frs f' (by rw [ho]; exact List.mem_cons_of_mem _ hf)⟩
     exact h1.set (atL_snoc h1.inner (by rw [atB_mk, hf.1, hf.2]; rfl))
    ·cases e
  ·split at e
   ·split at e
    ·cases e
    ·split at e
     ·cases e; exact h
     ·split at e
      ·next ks hk =>
       cases e
       exact h.set (onT_atts h.inner hk)
      ·split at e
       ·cases e
       ·cases e
        exact h.put (hlf _ _ _)
   ·split at e
    ·split at e
     ·cases e
     ·cases e
      exact h.put (hlf _ _ _)
    ·split at e
     ·cases e
     ·cases e
      exact h.put (hlf _ _ _)
theorem allS_atts {b : List UInt8} {ts : List Tk} {j : Nat} {t : List UInt8} (h : allS b = .ok ts j t) {k : Nat} {tk : Tk} (hk : ts[k]? = some tk) : atsB tk.attrs = true := by
 obtain ⟨_, _, hg, _⟩ := (allS_seq h).at k tk hk
 refine List.all_eq_true.2 fun a ha => ?_
 have h1 := (hg.attrs a ha).1.1.1
 cases hx : a.1 with
 | nil => exact absurd hx h1
 | cons => rfl
def Blank (w : World) (b : Nat) : Prop := ∃ t, w.heap[b]? = some (.cells #[.slice none 0 0, .int .i64 0, .string ⟨#[]⟩, .string ⟨#[]⟩, .slice none 0 0, .slice none 0 0, .slice none 0 0] t (0, 0))
theorem Blank.att {w : World} {b : Nat} (h : Blank w b) {v : Value} {l : List (List UInt8 × List UInt8)} (ha : AttIn w Any v l) (hl : atsB l = true) : AttIn w (fun k => k ≠ b) v l := by
 obtain ⟨t, h⟩ := h
 obtain ⟨a, c, h1, h2, h3, h4, h5⟩ := ha
 refine ⟨a, c, h1, h2, h3, h4, ?_⟩
 rcases h5 with h5 | ⟨b2, o, h6, _, h7⟩
 ·exact .inl h5
 ·cases l with
  | nil => exact .inl rfl
  | cons x l =>
   refine .inr ⟨b2, o, h6, fun e => ?_, h7⟩
   subst e
   obtain ⟨y1, y2⟩ := h7 0 x rfl
   rw [cell_of_block h] at y1 y2
   have hx : x.1 ≠ [] := by
    unfold atsB at hl
    rw [List.all_cons, Bool.and_eq_true] at hl
    intro e
    rw [e] at hl
    exact absurd hl.1 (by decide)
   match o, y1, y2 with
   | 0, y1, _ => cases y1
   | 1, y1, _ => cases y1
   | 2, y1, _ =>
    have e1 : (Value.string ⟨#[]⟩) = .string (strB x.1) := Option.some.inj y1
    injection e1 with e1
    exact hx (strB_inj (a := x.1) (b := []) e1.symm)
   | 3, _, y2 => cases y2
   | 4, y1, _ => cases y1
   | 5, y1, _ => cases y1
   | 6, y1, _ => cases y1
   | o + 7, y1, _ => simp at y1
theorem Blank.row {w : World} {b : Nat} (h : Blank w b) {v : Value} {l : List Nr} (hr : RowIn w Any v l) (hl : ∀ x ∈ l, x.kind ≠ 0) : RowIn w (fun k => k ≠ b) v l := by
 obtain ⟨t, h⟩ := h
 obtain ⟨a, c, h1, h2, h3, h4, h5⟩ := hr
 refine ⟨a, c, h1, h2, h3, h4, ?_⟩
 rcases h5 with h5 | ⟨b2, o, h6, _, h7⟩
 ·exact .inl h5
 ·cases l with
  | nil => exact .inl rfl
  | cons x l =>
   refine .inr ⟨b2, o, h6, fun e => ?_, h7⟩
   subst e
   obtain ⟨y1, y2, _⟩ := h7 0 x rfl
   rw [cell_of_block h] at y1 y2
   match o, y1, y2 with
   | 0, y1, _ => cases y1
   | 1, y1, _ =>
    have e1 : (Value.int .i64 0) = .int .i64 x.kind := Option.some.inj y1
    injection e1 with _ e1
    exact hl x (List.mem_cons_self ..) e1.symm
   | 2, y1, _ => cases y1
   | 3, y1, _ => cases y1
   | 4, y1, _ => cases y1
   | 5, y1, _ => cases y1
   | 6, y1, _ => cases y1
   | o + 7, y1, _ => simp at y1
theorem snd_kind {nm : List UInt8 → Bool} {t : Tr} (h : t.snd nm = true) : t.kind ≠ 0 := by
 obtain ⟨k, n, x, a, ks⟩ := t
 rw [snd_mk, Bool.and_eq_true] at h
 have h1 := h.1
 unfold fitN at h1
 simp only [Bool.and_eq_true, Bool.not_eq_true', Bool.or_eq_false_iff, decide_eq_false_iff_not] at h1
 intro e
 have e2 : k = 0 := e
 omega
theorem Blank.nodes {w : World} {b : Nat} (h : Blank w b) {nm : List UInt8 → Bool} : ∀ {r : Nr} {t : Tr}, NodeIn w Any r t → t.snd nm = true → t.atB = true → NodeIn w (fun k => k ≠ b) r t := by
 intro r t hn
 induction hn with
 | mk r attrs kids rows ha hk hl hh ih =>
  intro hs hb
  rw [snd_mk, Bool.and_eq_true] at hs
  rw [atB_mk, Bool.and_eq_true] at hb
  refine .mk r attrs kids rows (h.att ha hb.1) (h.row hk fun x hx => ?_) hl fun i x t hx ht => ?_
  ·obtain ⟨i, hi⟩ := List.getElem?_of_mem hx
   obtain ⟨u, hu⟩ : ∃ u, kids[i]? = some u := ⟨_, List.getElem?_eq_getElem (by rw [← hl]; exact (List.getElem?_eq_some_iff.1 hi).1)⟩
   rw [(hh i x u hi hu).kids.1]
   exact snd_kind (sndL_mem hs.2 u (List.mem_of_getElem? hu))
  ·exact ih i x t hx ht (sndL_mem hs.2 t (List.mem_of_getElem? ht)) (atL_mem hb.2 t (List.mem_of_getElem? ht))
end Go.Proofs.YtjpkkflhcjjefaaGreatDoor
