/-
 How long the texts of a growing tree are.
-/
import Derived.Test.YtjpkkflhcjjefaaGreatDoorXGd
namespace Go.Proofs.YtjpkkflhcjjefaaGreatDoor
open Go.RowKit Go.Lib Go.Joins
inductive Tr where
 | mk (kind : Int) (name text : List UInt8) (attrs : List (List UInt8 × List UInt8)) (kids : List Tr)
def Tr.kind : Tr → Int
 | .mk k _ _ _ _ => k
def Tr.name : Tr → List UInt8
 | .mk _ n _ _ _ => n
def Tr.text : Tr → List UInt8
 | .mk _ _ t _ _ => t
def Tr.attrs : Tr → List (List UInt8 × List UInt8)
 | .mk _ _ _ a _ => a
def Tr.kids : Tr → List Tr
 | .mk _ _ _ _ k => k
mutual
def Tr.count : Tr → Nat
 | .mk _ _ _ ats ks => 1 + ats.length + cntL ks
def cntL : List Tr → Nat
 | [] => 0
 | t :: ts => t.count + cntL ts
end
mutual
def Tr.depth : Tr → Nat
 | .mk k _ _ _ ks => if k = 1 then depL ks + 1 else 0
def depL : List Tr → Nat
 | [] => 0
 | t :: ts => max t.depth (depL ts)
end
def fitN (nm : List UInt8 → Bool) (k : Int) (n t : List UInt8) (ats : List (List UInt8 × List UInt8)) (ks : List Tr) : Bool :=
 !(k == 1 && (!nm n || !(t == [])) || k == 2 && t == [] || decide (k < 1) || decide (4 < k)) && !(!(k == 1) && (decide (0 < ks.length) || decide (0 < ats.length)))
mutual
def Tr.snd (nm : List UInt8 → Bool) : Tr → Bool
 | .mk k n t ats ks => fitN nm k n t ats ks && sndL nm false ks
def sndL (nm : List UInt8 → Bool) : Bool → List Tr → Bool
 | _, [] => true
 | p, t :: ts => t.snd nm && !(t.kind == 2 && p) && sndL nm (t.kind == 2) ts
end
structure Fr where
 name : List UInt8
 attrs : List (List UInt8 × List UInt8)
 kids : List Tr
structure Gr where
 opens : List Fr
 top : List Tr
 nodes : Nat
def Gr.inner (g : Gr) : List Tr :=
 match g.opens with
 | [] => g.top
 | f :: _ => f.kids
def Gr.setInner (g : Gr) (ks : List Tr) : Gr :=
 match g.opens with
 | [] => ⟨[], ks, g.nodes⟩
 | f :: fs => ⟨⟨f.name, f.attrs, ks⟩ :: fs, g.top, g.nodes⟩
def Gr.mayS (g : Gr) (kind : Int) (na : Nat) : Option Nat :=
 if 4096 < g.nodes + (1 + na) then some 8
 else if kind = 1 ∧ g.opens = [] ∧ (g.top.any fun t => t.kind == 1) = true then some 2
 else none
def Gr.putS (g : Gr) (n : Tr) : Gr := let h := g.setInner (g.inner ++ [n]); ⟨h.opens, h.top, g.nodes + (1 + n.attrs.length)⟩
def Gr.openS (g : Gr) (name : List UInt8) (attrs : List (List UInt8 × List UInt8)) : Gr := ⟨⟨name, attrs, []⟩ :: g.opens, g.top, g.nodes + (1 + attrs.length)⟩
def Gr.closeS (g : Gr) (f : Fr) (fs : List Fr) : Gr := let h : Gr := ⟨fs, g.top, g.nodes⟩; h.setInner (h.inner ++ [.mk 1 f.name [] f.attrs f.kids])
def onT (t : List UInt8) : List Tr → Option (List Tr)
 | [] => none
 | [n] => if n.kind = 2 then some [.mk n.kind n.name (n.text ++ t) n.attrs n.kids] else none
 | n :: m :: l => (onT t (m :: l)).map (n :: ·)
def Gr.takeS (g : Gr) (tk : Tk) : Except Nat Gr :=
 if tk.kind = 1 ∨ tk.kind = 2 then
  if 32 ≤ g.opens.length then .error 7
  else match g.mayS 1 tk.attrs.length with
   | some c => .error c
   | none => if tk.kind = 1 then .ok (g.openS tk.name tk.attrs) else .ok (g.putS (.mk 1 tk.name [] tk.attrs []))
 else if tk.kind = 3 then
  match g.opens with
  | [] => .error 3
  | f :: fs => if f.name = tk.name then .ok (g.closeS f fs) else .error 3
 else if tk.kind = 4 ∨ tk.kind = 5 then
  if g.opens = [] ∧ (tk.kind = 5 ∨ trimL tk.text ≠ []) then .error 2
  else if g.opens = [] ∨ tk.text = [] then .ok g
  else match onT tk.text g.inner with
   | some ks => .ok (g.setInner ks)
   | none => match g.mayS 2 0 with
    | some c => .error c
    | none => .ok (g.putS (.mk 2 [] tk.text [] []))
 else if tk.kind = 6 then
  match g.mayS 3 0 with
  | some c => .error c
  | none => .ok (g.putS (.mk 3 [] tk.text [] []))
 else
  match g.mayS 4 0 with
  | some c => .error c
  | none => .ok (g.putS (.mk 4 tk.name tk.text [] []))
def growS : Gr → List Tk → Except (Nat × Nat) Gr
 | g, [] => .ok g
 | g, tk :: ts => match g.takeS tk with
  | .error c => .error (c, tk.at_)
  | .ok g' => growS g' ts
def cutT : List Tr → Option (List Tr × Tr × List Tr)
 | [] => none
 | t :: ts => if t.kind = 1 then some ([], t, ts) else (cutT ts).map fun q => (t :: q.1, q.2.1, q.2.2)
def endS9 (n : Nat) (g : Gr) : Except (Nat × Nat) (List Tr × Tr × List Tr) :=
 if g.opens ≠ [] then .error (6, n)
 else match cutT g.top with
  | none => .error (6, n)
  | some q => .ok q
def parseS (b : List UInt8) : Except (Nat × Nat) (List Tr × Tr × List Tr) :=
 match allS b with
 | .no c p => .error (c, p)
 | .ok ts _ _ => match growS ⟨[], [], 0⟩ ts with
  | .error e => .error e
  | .ok g => endS9 b.length g
theorem cntL_app : ∀ a b : List Tr, cntL (a ++ b) = cntL a + cntL b
 | [], b => by rw [List.nil_append, cntL]; omega
 | t :: a, b => by rw [List.cons_append, cntL, cntL, cntL_app a b]; omega
theorem cntL_one (t : Tr) : cntL [t] = t.count := by rw [cntL, cntL]; omega
theorem depL_app : ∀ a b : List Tr, depL (a ++ b) = max (depL a) (depL b)
 | [], b => by rw [List.nil_append, depL]; omega
 | t :: a, b => by rw [List.cons_append, depL, depL, depL_app a b]; omega
theorem depL_one (t : Tr) : depL [t] = t.depth := by rw [depL, depL]; omega
theorem count_mk (k : Int) (n t : List UInt8) (a : List (List UInt8 × List UInt8)) (ks : List Tr) : (Tr.mk k n t a ks).count = 1 + a.length + cntL ks := by rw [Tr.count]
theorem depth_mk (k : Int) (n t : List UInt8) (a : List (List UInt8 × List UInt8)) (ks : List Tr) : (Tr.mk k n t a ks).depth = if k = 1 then depL ks + 1 else 0 := by rw [Tr.depth]
theorem snd_mk (nm : List UInt8 → Bool) (k : Int) (n t : List UInt8) (a : List (List UInt8 × List UInt8)) (ks : List Tr) : (Tr.mk k n t a ks).snd nm = (fitN nm k n t a ks && sndL nm false ks) := by rw [Tr.snd]
def lastText : Bool → List Tr → Bool
 | p, [] => p
 | _, t :: ts => lastText (t.kind == 2) ts
variable {nm : List UInt8 → Bool}
theorem sndL_app : ∀ (p : Bool) (a b : List Tr), sndL nm p (a ++ b) = (sndL nm p a && sndL nm (lastText p a) b)
 | p, [], b => by rw [List.nil_append, sndL, lastText]; rfl
 | p, t :: a, b => by rw [List.cons_append, sndL, sndL, sndL_app _ a b, lastText]; simp only [Bool.and_assoc]
theorem onT_none {t : List UInt8} : ∀ {p : Bool} {ks : List Tr}, onT t ks = none → lastText p ks = true → ks = [] ∧ p = true
 | p, [], _, h => ⟨rfl, h⟩
 | p, [n], e, h => by
  rw [onT] at e
  rw [lastText, lastText] at h
  rw [if_pos (beq_iff_eq.1 h)] at e
  cases e
 | p, n :: m :: l, e, h => by
  rw [onT] at e
  rw [lastText] at h
  cases hq : onT t (m :: l) with
  | some q => rw [hq] at e; cases e
  | none =>
   have := (onT_none hq h).1
   cases this
theorem onT_some {t : List UInt8} (ht : t ≠ []) : ∀ {p : Bool} {ks ks' : List Tr}, onT t ks = some ks' → sndL nm p ks = true → sndL nm p ks' = true ∧ cntL ks' = cntL ks ∧ depL ks' = depL ks
 | p, [], _, e, _ => by cases e
 | p, [.mk k n tx a kd], ks', e, h => by
  rw [onT] at e
  split at e
  ·next hk =>
   cases e
   have hk2 : k = 2 := hk
   subst hk2
   rw [sndL, sndL, snd_mk] at h ⊢
   rw [cntL_one, cntL_one, depL_one, depL_one]
   simp only [Tr.kind, Tr.name, Tr.text, Tr.attrs, Tr.kids, count_mk, depth_mk] at h ⊢
   refine ⟨?_, trivial, trivial⟩
   have hne : ((tx ++ t) == []) = false := by
    rw [beq_eq_false_iff_ne]
    exact fun h0 => ht (List.append_eq_nil_iff.1 h0).2
   unfold fitN at h ⊢
   rw [hne]
   rw [Bool.and_eq_true, Bool.and_eq_true, Bool.and_eq_true] at h ⊢
   obtain ⟨⟨⟨h1, h2⟩, h3⟩, h4⟩ := h
   refine ⟨⟨⟨?_, h2⟩, h3⟩, h4⟩
   rw [Bool.and_eq_true] at h1 ⊢
   exact ⟨rfl, h1.2⟩
  ·cases e
 | p, n :: m :: l, ks', e, h => by
  rw [onT] at e
  cases hq : onT t (m :: l) with
  | none => rw [hq] at e; cases e
  | some q =>
   rw [hq] at e
   cases e
   rw [sndL, Bool.and_eq_true] at h
   obtain ⟨h1, h2, h3⟩ := onT_some ht hq h.2
   refine ⟨?_, ?_, ?_⟩
   ·show sndL nm p (n :: q) = true
    rw [sndL, Bool.and_eq_true]
    exact ⟨h.1, h1⟩
   ·show cntL (n :: q) = _
    rw [cntL, cntL, h2]
   ·show depL (n :: q) = _
    rw [depL, depL, h3]
structure KidsOk (nm : List UInt8 → Bool) (lvl : Nat) (ks : List Tr) : Prop where
 snd : sndL nm false ks = true
 dep : depL ks + lvl ≤ 32
def FrsOk (nm : List UInt8 → Bool) : List Fr → Prop
 | [] => True
 | f :: fs => KidsOk nm (fs.length + 1) f.kids ∧ nm f.name = true ∧ FrsOk nm fs
def cntF : List Fr → Nat
 | [] => 0
 | f :: fs => 1 + f.attrs.length + cntL f.kids + cntF fs
def elems (l : List Tr) : Nat := l.countP fun t => t.kind == 1
structure GrOk (nm : List UInt8 → Bool) (g : Gr) : Prop where
 top : KidsOk nm 0 g.top
 kinds : ∀ t ∈ g.top, t.kind = 1 ∨ t.kind = 3 ∨ t.kind = 4
 frs : FrsOk nm g.opens
 deep : g.opens.length ≤ 32
 cnt : cntL g.top + cntF g.opens = g.nodes
 most : g.nodes ≤ 4096
 one : elems g.top + (if g.opens = [] then 0 else 1) ≤ 1
theorem GrOk.start : GrOk nm ⟨[], [], 0⟩ := ⟨⟨rfl, (by show depL [] + 0 ≤ 32; rw [depL]; omega)⟩, (fun _ h => by cases h), trivial, Nat.zero_le _, rfl, Nat.zero_le _, (by show 0 + 0 ≤ 1; omega)⟩
theorem KidsOk.snoc {lvl : Nat} {ks : List Tr} {n : Tr} (h : KidsOk nm lvl ks) (h1 : n.snd nm = true) (h2 : n.kind = 2 → lastText false ks = false) (h3 : n.depth + lvl ≤ 32) : KidsOk nm lvl (ks ++ [n]) where
 snd := by
  rw [sndL_app, h.snd, sndL, sndL, h1]
  by_cases hk : n.kind = 2
  ·rw [h2 hk]; simp
  ·have : (n.kind == 2) = false := beq_eq_false_iff_ne.2 hk
   rw [this]; rfl
 dep := by have := h.dep; rw [depL_app, depL_one]; omega
theorem mayS_none {g : Gr} {kind : Int} {na : Nat} (h : g.mayS kind na = none) : g.nodes + (1 + na) ≤ 4096 ∧ (kind = 1 → g.opens = [] → elems g.top = 0) := by
 unfold Gr.mayS at h
 split at h
 ·cases h
 ·next h1 =>
  split at h
  ·cases h
  ·next h2 =>
   refine ⟨by omega, fun hk ho => ?_⟩
   unfold elems
   rw [List.countP_eq_zero]
   intro t ht hk2
   exact h2 ⟨hk, ho, List.any_eq_true.2 ⟨t, ht, hk2⟩⟩
theorem elems_snoc (l : List Tr) (n : Tr) : elems (l ++ [n]) = elems l + if n.kind = 1 then 1 else 0 := by
 unfold elems
 rw [List.countP_append, List.countP_singleton]
 by_cases h : n.kind = 1 <;> simp [h]
theorem GrOk.put {g : Gr} (h : GrOk nm g) {n : Tr} (hk : n.kids = []) (hm : g.nodes + (1 + n.attrs.length) ≤ 4096) (h1 : n.snd nm = true) (h2 : n.kind = 2 → lastText false g.inner = false ∧ g.opens ≠ []) (h3 : n.kind = 1 → g.opens.length < 32 ∧ (g.opens = [] → elems g.top = 0)) : GrOk nm (g.putS n) := by
 obtain ⟨k, nme, tx, ats, kd⟩ := n
 have hkd : kd = [] := hk
 subst hkd
 have hsnd := h1
 rw [snd_mk, Bool.and_eq_true] at h1
 have hkind : k = 1 ∨ k = 2 ∨ k = 3 ∨ k = 4 := by
  have := h1.1
  unfold fitN at this
  simp only [Bool.and_eq_true, Bool.not_eq_true', Bool.or_eq_false_iff, decide_eq_false_iff_not] at this
  omega
 have hdep : (Tr.mk k nme tx ats []).depth ≤ 1 := by
  rw [depth_mk, depL]
  split <;> omega
 have hdep0 : k ≠ 1 → (Tr.mk k nme tx ats []).depth = 0 := fun hk1 => by rw [depth_mk, if_neg hk1]
 have hcnt : (Tr.mk k nme tx ats []).count = 1 + ats.length := by rw [count_mk, cntL]; omega
 obtain ⟨opens, top, nodes⟩ := g
 cases opens with
 | nil =>
  have ht := h.top
  refine ⟨ht.snoc hsnd (fun hk2 => (h2 hk2).1) (by omega), fun t htm => ?_, trivial, Nat.zero_le _, ?_, hm, ?_⟩
  ·rcases List.mem_append.1 htm with h5 | h5
   ·exact h.kinds t h5
   ·rw [List.mem_singleton.1 h5]
    rcases hkind with e | e | e | e
    ·exact .inl e
    ·exact absurd rfl (h2 e).2
    ·exact .inr (.inl e)
    ·exact .inr (.inr e)
  ·have := h.cnt
   show cntL (top ++ [Tr.mk k nme tx ats []]) + cntF [] = nodes + (1 + ats.length)
   rw [cntL_app, cntL_one, hcnt]
   have h6 : cntL top + cntF [] = nodes := h.cnt
   omega
  ·show elems (top ++ [Tr.mk k nme tx ats []]) + 0 ≤ 1
   rw [elems_snoc]
   have h6 : elems top + 0 ≤ 1 := h.one
   by_cases hk1 : k = 1
   ·have := (h3 hk1).2 rfl
    have h7 : elems top = 0 := this
    rw [h7]; split <;> omega
   ·rw [if_neg (show ¬ (Tr.mk k nme tx ats []).kind = 1 from hk1)]; omega
 | cons f fs =>
  obtain ⟨hf1, hf2, hf3⟩ := h.frs
  have hlen : fs.length + 1 ≤ 32 := h.deep
  refine ⟨h.top, h.kinds, ⟨hf1.snoc hsnd (fun hk2 => (h2 hk2).1) ?_, hf2, hf3⟩, h.deep, ?_, hm, h.one⟩
  ·by_cases hk1 : k = 1
   ·have : fs.length + 1 < 32 := (h3 hk1).1
    omega
   ·rw [hdep0 hk1]; omega
  ·have h6 : cntL top + (1 + f.attrs.length + cntL f.kids + cntF fs) = nodes := h.cnt
   show cntL top + (1 + f.attrs.length + cntL (f.kids ++ [Tr.mk k nme tx ats []]) + cntF fs) = nodes + (1 + ats.length)
   rw [cntL_app, cntL_one, hcnt]
   omega
theorem fit_elem {n : List UInt8} (h : nm n = true) (ats : List (List UInt8 × List UInt8)) (ks : List Tr) : fitN nm 1 n [] ats ks = true := by
 unfold fitN
 rw [h]
 rfl
theorem GrOk.close {g : Gr} (h : GrOk nm g) {f : Fr} {fs : List Fr} (ho : g.opens = f :: fs) : GrOk nm (g.closeS f fs) := by
 obtain ⟨opens, top, nodes⟩ := g
 have ho2 : opens = f :: fs := ho
 subst ho2
 obtain ⟨hf1, hf2, hf3⟩ := h.frs
 have hlen : fs.length + 1 ≤ 32 := h.deep
 have hsnd : (Tr.mk 1 f.name [] f.attrs f.kids).snd nm = true := by rw [snd_mk, fit_elem hf2, hf1.snd]; rfl
 have hdep : (Tr.mk 1 f.name [] f.attrs f.kids).depth = depL f.kids + 1 := by rw [depth_mk, if_pos rfl]
 have hd := hf1.dep
 have hc : cntL top + (1 + f.attrs.length + cntL f.kids + cntF fs) = nodes := h.cnt
 have hone : elems top + 1 ≤ 1 := h.one
 cases fs with
 | nil =>
  refine ⟨h.top.snoc hsnd (fun e => by cases e) (by rw [hdep]; simpa using hd), fun t htm => ?_, trivial, Nat.zero_le _, ?_, h.most, ?_⟩
  ·rcases List.mem_append.1 htm with h5 | h5
   ·exact h.kinds t h5
   ·rw [List.mem_singleton.1 h5]; exact .inl rfl
  ·show cntL (top ++ [Tr.mk 1 f.name [] f.attrs f.kids]) + cntF [] = nodes
   rw [cntL_app, cntL_one, count_mk]
   have : cntF [] = 0 := rfl
   omega
  ·show elems (top ++ [Tr.mk 1 f.name [] f.attrs f.kids]) + 0 ≤ 1
   rw [elems_snoc, if_pos (show (Tr.mk 1 f.name [] f.attrs f.kids).kind = 1 from rfl)]
   omega
 | cons f2 fs2 =>
  obtain ⟨hg1, hg2, hg3⟩ := hf3
  refine ⟨h.top, h.kinds, ⟨hg1.snoc hsnd (fun e => by cases e) ?_, hg2, hg3⟩, ?_, ?_, h.most, ?_⟩
  ·rw [hdep]
   have : depL f.kids + (fs2.length + 1 + 1) ≤ 32 := hd
   omega
  ·have : fs2.length + 1 + 1 ≤ 32 := hlen
   show fs2.length + 1 ≤ 32
   omega
  ·show cntL top + (1 + f2.attrs.length + cntL (f2.kids ++ [Tr.mk 1 f.name [] f.attrs f.kids]) + cntF fs2) = nodes
   rw [cntL_app, cntL_one, count_mk]
   have : cntF (f2 :: fs2) = 1 + f2.attrs.length + cntL f2.kids + cntF fs2 := rfl
   omega
  ·show elems top + 1 ≤ 1
   exact hone
theorem GrOk.opened {g : Gr} (h : GrOk nm g) {n : List UInt8} {ats : List (List UInt8 × List UInt8)} (hn : nm n = true) (hd : g.opens.length < 32) (hm : g.mayS 1 ats.length = none) : GrOk nm (g.openS n ats) := by
 obtain ⟨h1, h2⟩ := mayS_none hm
 refine ⟨h.top, h.kinds, ⟨⟨rfl, ?_⟩, hn, h.frs⟩, hd, ?_, h1, ?_⟩
 ·show depL [] + (g.opens.length + 1) ≤ 32
  rw [depL]; omega
 ·have := h.cnt
  show cntL g.top + (1 + ats.length + cntL [] + cntF g.opens) = g.nodes + (1 + ats.length)
  rw [cntL]
  omega
 ·show elems g.top + 1 ≤ 1
  have h3 := h.one
  by_cases ho : g.opens = []
  ·have := h2 rfl ho; omega
  ·rw [if_neg ho] at h3; exact h3
def tkFit (nm : List UInt8 → Bool) (tk : Tk) : Prop := 1 ≤ tk.kind ∧ tk.kind ≤ 7 ∧ ((tk.kind = 1 ∨ tk.kind = 2) → nm tk.name = true)
theorem GrOk.take {g g' : Gr} (h : GrOk nm g) {tk : Tk} (ht : tkFit nm tk) (e : g.takeS tk = .ok g') : GrOk nm g' := by
 unfold Gr.takeS at e
 split at e
 ·next hk =>
  split at e
  ·cases e
  ·next hd =>
   cases hm : g.mayS 1 tk.attrs.length with
   | some c => rw [hm] at e; cases e
   | none =>
    rw [hm] at e
    dsimp only at e
    have hn := ht.2.2 hk
    split at e
    ·cases e
     exact h.opened hn (by omega) hm
    ·cases e
     obtain ⟨h1, h2⟩ := mayS_none hm
     exact h.put rfl h1 (by rw [snd_mk, fit_elem hn]; rfl) (fun e2 => by cases e2) (fun _ => ⟨by omega, h2 rfl⟩)
 ·next hk =>
  split at e
  ·next hk3 =>
   cases ho : g.opens with
   | nil => rw [ho] at e; cases e
   | cons f fs =>
    rw [ho] at e
    dsimp only at e
    split at e
    ·cases e; exact h.close ho
    ·cases e
  ·next hk3 =>
   split at e
   ·next hk4 =>
    split at e
    ·cases e
    ·next ho =>
     split at e
     ·cases e; exact h
     ·next ho2 =>
      have hne : g.opens ≠ [] := fun e2 => ho2 (.inl e2)
      have htx : tk.text ≠ [] := fun e2 => ho2 (.inr e2)
      cases hon : onT tk.text g.inner with
      | some ks =>
       rw [hon] at e
       cases e
       obtain ⟨opens, top, nodes⟩ := g
       cases opens with
       | nil => exact absurd rfl hne
       | cons f fs =>
        obtain ⟨hf1, hf2, hf3⟩ := h.frs
        have hon2 : onT tk.text f.kids = some ks := hon
        obtain ⟨h1, h2, h3⟩ := onT_some (nm := nm) htx hon2 hf1.snd
        refine ⟨h.top, h.kinds, ⟨⟨h1, by rw [h3]; exact hf1.dep⟩, hf2, hf3⟩, h.deep, ?_, h.most, h.one⟩
        have h6 : cntL top + (1 + f.attrs.length + cntL f.kids + cntF fs) = nodes := h.cnt
        show cntL top + (1 + f.attrs.length + cntL ks + cntF fs) = nodes
        rw [h2]
        exact h6
      | none =>
       rw [hon] at e
       dsimp only at e
       cases hm : g.mayS 2 0 with
       | some c => rw [hm] at e; cases e
       | none =>
        rw [hm] at e
        cases e
        obtain ⟨h1, _⟩ := mayS_none hm
        refine h.put rfl h1 ?_ (fun _ => ⟨?_, hne⟩) (fun e2 => by cases e2)
        ·rw [snd_mk]
         have : (tk.text == []) = false := beq_eq_false_iff_ne.2 htx
         unfold fitN
         rw [this]
         rfl
        ·cases hl : lastText false g.inner with
         | false => rfl
         | true => exact absurd (onT_none hon hl).2 Bool.false_ne_true
   ·next hk4 =>
    split at e
    ·cases hm : g.mayS 3 0 with
     | some c => rw [hm] at e; cases e
     | none =>
      rw [hm] at e
      cases e
      exact h.put rfl (mayS_none hm).1 (by rw [snd_mk]; rfl) (fun e2 => by cases e2) (fun e2 => by cases e2)
    ·cases hm : g.mayS 4 0 with
     | some c => rw [hm] at e; cases e
     | none =>
      rw [hm] at e
      cases e
      exact h.put rfl (mayS_none hm).1 (by rw [snd_mk]; rfl) (fun e2 => by cases e2) (fun e2 => by cases e2)
theorem GrOk.grow : ∀ {ts : List Tk} {g g' : Gr}, GrOk nm g → (∀ tk ∈ ts, tkFit nm tk) → growS g ts = .ok g' → GrOk nm g'
 | [], g, g', h, _, e => by cases e; exact h
 | tk :: ts, g, g', h, ht, e => by
  rw [growS] at e
  cases hk : g.takeS tk with
  | error c => rw [hk] at e; cases e
  | ok g2 =>
   rw [hk] at e
   exact GrOk.grow (h.take (ht tk (List.mem_cons_self ..)) hk) (fun x hx => ht x (List.mem_cons_of_mem _ hx)) e
theorem cutT_some : ∀ {l : List Tr} {q : List Tr × Tr × List Tr}, cutT l = some q → l = q.1 ++ q.2.1 :: q.2.2 ∧ q.2.1.kind = 1 ∧ ∀ t ∈ q.1, t.kind ≠ 1
 | [], q, e => by cases e
 | t :: l, q, e => by
  rw [cutT] at e
  split at e
  ·next hk => cases e; exact ⟨rfl, hk, fun _ h => by cases h⟩
  ·next hk =>
   cases hq : cutT l with
   | none => rw [hq] at e; cases e
   | some q2 =>
    rw [hq] at e
    cases e
    obtain ⟨h1, h2, h3⟩ := cutT_some hq
    exact ⟨by rw [h1]; rfl, h2, fun x hx => by
     rcases List.mem_cons.1 hx with h | h
     ·rw [h]; exact hk
     ·exact h3 x h⟩
theorem cntL_len : ∀ l : List Tr, l.length ≤ cntL l
 | [] => Nat.zero_le _
 | t :: l => by
  have := cntL_len l
  obtain ⟨k, n, x, a, ks⟩ := t
  rw [cntL, count_mk, List.length_cons]
  omega
theorem sndL_mem : ∀ {p : Bool} {l : List Tr}, sndL nm p l = true → ∀ t ∈ l, t.snd nm = true
 | p, [], _, t, h => by cases h
 | p, x :: l, e, t, h => by
  rw [sndL, Bool.and_eq_true, Bool.and_eq_true] at e
  rcases List.mem_cons.1 h with h | h
  ·rw [h]; exact e.1.1
  ·exact sndL_mem e.2 t h
theorem depL_mem : ∀ {l : List Tr}, ∀ t ∈ l, t.depth ≤ depL l
 | [], t, h => by cases h
 | x :: l, t, h => by
  rw [depL]
  rcases List.mem_cons.1 h with h | h
  ·rw [h]; omega
  ·have := depL_mem t h; omega
theorem GrOk.bounds {g : Gr} (h : GrOk nm g) {n : Nat} {q : List Tr × Tr × List Tr} (e : endS9 n g = .ok q) : q.2.1.kind = 1 ∧ q.2.1.snd nm = true ∧ q.2.1.depth ≤ 32 ∧ q.2.1.count + q.1.length + q.2.2.length ≤ 4096 ∧ (∀ t ∈ q.1, t.kind = 3 ∨ t.kind = 4) ∧ ∀ t ∈ q.2.2, t.kind = 3 ∨ t.kind = 4 := by
 unfold endS9 at e
 split at e
 ·cases e
 ·next ho =>
  cases hq : cutT g.top with
  | none => rw [hq] at e; cases e
  | some q2 =>
   rw [hq] at e
   cases e
   obtain ⟨h1, h2, h3⟩ := cutT_some hq
   have hmem : q.2.1 ∈ g.top := by rw [h1]; simp
   have hc := h.cnt
   rw [h1, cntL_app, cntL] at hc
   have hl1 := cntL_len q.1
   have hl2 := cntL_len q.2.2
   have hm := h.most
   refine ⟨h2, sndL_mem h.top.snd _ hmem, ?_, by omega, fun t ht => ?_, fun t ht => ?_⟩
   ·have := depL_mem _ hmem
    have := h.top.dep
    omega
   ·have h4 := h.kinds t (by rw [h1]; simp [ht])
    have h5 := h3 t ht
    omega
   ·have h4 := h.kinds t (by rw [h1]; simp [ht])
    have h6 : t.kind ≠ 1 := fun hk => by
     have h7 := h.one
     rw [h1] at h7
     unfold elems at h7
     rw [List.countP_append, List.countP_cons, beq_iff_eq.2 h2, if_pos rfl] at h7
     have h8 : 0 < List.countP (fun t : Tr => t.kind == 1) q.2.2 := List.countP_pos_iff.2 ⟨t, ht, beq_iff_eq.2 hk⟩
     omega
    omega
end Go.Proofs.YtjpkkflhcjjefaaGreatDoor
namespace Go.Proofs.YtjpkkflhcjjefaaGreatDoor
open Go.RowKit Go.Lib Go.Joins
theorem Sx.then_inv {α β : Type} {s : Sx α} {f : α → Nat → List UInt8 → Sx β} {x : β} {j : Nat} {t : List UInt8} (h : s.then f = .ok x j t) : ∃ y k u, s = .ok y k u ∧ f y k u = .ok x j t := by
 cases s with
 | no c p => cases h
 | ok y k u => exact ⟨y, k, u, rfl, h⟩
theorem tagG_few : ∀ (g : Nat) (ats : List (List UInt8 × List UInt8)) (i : Nat) (r : List UInt8) (q : Nat × List (List UInt8 × List UInt8)) (j : Nat) (t : List UInt8), tagG g ats i r = .ok q j t → q.2.length ≤ ats.length + g
 | 0, _, _, _, _, _, _, h => by cases h
 | g + 1, ats, i, r, q, j, t, h => by
  rw [tagG] at h
  obtain ⟨b, k, u, _, h⟩ := Sx.then_inv h
  obtain ⟨x, k2, u2, _, h⟩ := Sx.then_inv h
  split at h
  ·obtain ⟨_, _, _, _, h⟩ := Sx.then_inv h
   cases h
   exact Nat.le_add_right _ _
  ·split at h
   ·obtain ⟨_, _, _, _, h⟩ := Sx.then_inv h
    cases h
    exact Nat.le_add_right _ _
   ·split at h
    ·cases h
    ·obtain ⟨a, k3, u3, _, h⟩ := Sx.then_inv h
     have := tagG_few g _ _ _ _ _ _ h
     rw [List.length_append, List.length_singleton] at this
     omega
theorem Sx.Fwd.short {α : Type} {i : Nat} {r : List UInt8} {s : Sx α} (h : s.Fwd i r) {x : α} {j : Nat} {t : List UInt8} (e : s = .ok x j t) : t.length ≤ r.length := by
 obtain ⟨p, h1, _⟩ := h x j t e
 rw [h1, List.length_append]
 omega
theorem opensS_short {m : List UInt8} {i : Nat} {r : List UInt8} {b : Bool} {k : Nat} {u : List UInt8} (h : opensS m i r = .ok b k u) : u.length ≤ r.length := by
 unfold opensS at h
 split at h
 ·cases h
 ·split at h
  ·cases h; rw [List.length_drop]; omega
  ·cases h; exact Nat.le_refl _
theorem declS_short {b : List UInt8} {x : Unit} {k : Nat} {u : List UInt8} (h : declS b = .ok x k u) : u.length ≤ b.length := by
 rw [declC_eq] at h
 split at h
 ·obtain ⟨y, k2, u2, e, h⟩ := Sx.then_inv h
  split at h
  ·cases h
   have h1 := (upToS_fwd [63, 62] 5 (b.drop 5)).short e
   rw [List.length_drop] at h1
   omega
  ·cases h
 ·cases h; exact Nat.le_refl _
theorem startS_few {i : Nat} {r : List UInt8} {q : Nat × List UInt8 × List (List UInt8 × List UInt8)} {j : Nat} {t : List UInt8} (h : startS i r = .ok q j t) : q.2.2.length ≤ r.length + 1 := by
 unfold startS at h
 obtain ⟨nm, k, u, e1, h⟩ := Sx.then_inv h
 obtain ⟨q2, k2, u2, e2, h⟩ := Sx.then_inv h
 cases h
 have h1 := tagG_few _ _ _ _ _ _ _ e2
 have h2 := (nameS_fwd1 i r).fwd.short e1
 have h3 : ([] : List (List UInt8 × List UInt8)).length = 0 := rfl
 show q2.2.length ≤ _
 omega
theorem tokS_few {i : Nat} {r : List UInt8} {tk : Tk} {j : Nat} {t : List UInt8} (h : tokS i r = .ok tk j t) : tk.attrs.length ≤ r.length + 1 := by
 have z : ([] : List (List UInt8 × List UInt8)).length ≤ r.length + 1 := Nat.zero_le _
 unfold tokS at h
 split at h
 ·obtain ⟨_, _, _, _, h⟩ := Sx.then_inv h; cases h; exact z
 unfold lenS at h
 obtain ⟨b, k, u, _, h⟩ := Sx.then_inv h
 split at h
 ·obtain ⟨_, _, _, _, h⟩ := Sx.then_inv h; cases h; exact z
 obtain ⟨b, k, u, _, h⟩ := Sx.then_inv h
 split at h
 ·obtain ⟨_, _, _, _, h⟩ := Sx.then_inv h; cases h; exact z
 obtain ⟨b, k, u, _, h⟩ := Sx.then_inv h
 split at h
 ·cases h
 obtain ⟨b, k, u, _, h⟩ := Sx.then_inv h
 split at h
 ·obtain ⟨_, _, _, _, h⟩ := Sx.then_inv h; cases h; exact z
 obtain ⟨b, k, u, _, h⟩ := Sx.then_inv h
 split at h
 ·obtain ⟨_, _, _, _, h⟩ := Sx.then_inv h; cases h; exact z
 obtain ⟨b, k, u, e5, h⟩ := Sx.then_inv h
 split at h
 ·obtain ⟨q, k2, u2, e6, h⟩ := Sx.then_inv h
  cases h
  have h1 := startS_few e6
  have h2 := opensS_short e5
  show q.2.2.length ≤ _
  omega
 ·cases h
  exact z
theorem toksG_few : ∀ (g i : Nat) (r : List UInt8) (ts : List Tk) (j : Nat) (t : List UInt8), toksG g i r = .ok ts j t → ∀ tk ∈ ts, tk.attrs.length ≤ r.length + 1
 | 0, _, _, _, _, _, h, tk, hm => by cases h; cases hm
 | g + 1, i, r, ts, j, t, h, tk, hm => by
  rw [toksG] at h
  split at h
  ·cases h; cases hm
  ·next hne =>
   obtain ⟨x, k, u, e1, h⟩ := Sx.then_inv h
   obtain ⟨l, k2, u2, e2, h⟩ := Sx.then_inv h
   cases h
   obtain ⟨c, r, rfl⟩ : ∃ c r2, r = c :: r2 := by
    cases r with
    | nil => exact absurd rfl hne
    | cons c r => exact ⟨c, r, rfl⟩
   rcases List.mem_cons.1 hm with h1 | h1
   ·rw [h1]; exact tokS_few e1
   ·have h2 := toksG_few g k u l _ _ e2 tk h1
    have h3 := (tokS_fwd1 i c r).fwd.short e1
    omega
theorem allS_few {b : List UInt8} {ts : List Tk} {j : Nat} {t : List UInt8} (h : allS b = .ok ts j t) : b.length ≤ 65536 ∧ ∀ tk ∈ ts, tk.attrs.length ≤ 65537 := by
 unfold allS at h
 split at h
 ·cases h
 ·next hl =>
  split at h
  ·cases h
  ·obtain ⟨_, k, u, e1, h⟩ := Sx.then_inv h
   refine ⟨by omega, fun tk hm => ?_⟩
   have h1 := toksG_few _ _ _ _ _ _ h tk hm
   have h2 := declS_short e1
   omega
theorem Seq9.ge {b : List UInt8} {lo : Nat} {pt : Bool} {ts : List Tk} (h : Seq9 b lo pt ts) : ∀ (k : Nat) (tk : Tk), ts[k]? = some tk → k ≤ tk.at_
 | 0, _, _ => Nat.zero_le _
 | k + 1, tk, hk => by
  have hlt : k < ts.length := Nat.lt_of_succ_lt (List.getElem?_eq_some_iff.1 hk).1
  have hx := List.getElem?_eq_getElem hlt
  have h1 := (h.pair k _ tk hx hk).1
  have h2 := Seq9.ge h k _ hx
  omega
theorem allS_count {b : List UInt8} {ts : List Tk} {j : Nat} {t : List UInt8} (h : allS b = .ok ts j t) : ts.length ≤ b.length := by
 rcases Nat.eq_zero_or_pos ts.length with h0 | h0
 ·omega
 ·have hx := List.getElem?_eq_getElem (l := ts) (i := ts.length - 1) (by omega)
  have h1 := (allS_seq h).ge _ _ hx
  have h2 := ((allS_seq h).at _ _ hx).2.1
  omega
theorem allS_fit {b : List UInt8} {ts : List Tk} {j : Nat} {t : List UInt8} (h : allS b = .ok ts j t) {k : Nat} {tk : Tk} (hk : ts[k]? = some tk) : tkFit (fun _ => true) tk ∧ tk.text.length ≤ 4 * 65536 ∧ tk.attrs.length ≤ 65537 := by
 obtain ⟨_, _, hg, _⟩ := (allS_seq h).at k tk hk
 obtain ⟨h1, h2⟩ := allS_few h
 refine ⟨⟨?_, ?_, fun _ => rfl⟩, ?_, h2 tk (List.mem_of_getElem? hk)⟩
 ·rcases hg.name with ⟨_, h3⟩ | ⟨_, h3⟩ <;> omega
 ·rcases hg.name with ⟨_, h3⟩ | ⟨_, h3⟩ <;> omega
 ·have h3 : tk.text.length ≤ 4 * b.length := hg.text.2
  omega
def TxL (M : Nat) (l : List Tr) : Prop := ∀ t, t ∈ l → t.text.length ≤ M
structure TxB (M : Nat) (g : Gr) : Prop where
 top : TxL M g.top
 frs : ∀ f, f ∈ g.opens → TxL M f.kids
theorem TxL.mono {M M' : Nat} {l : List Tr} (h : TxL M l) (hm : M ≤ M') : TxL M' l := fun t ht => Nat.le_trans (h t ht) hm
theorem TxB.mono {M M' : Nat} {g : Gr} (h : TxB M g) (hm : M ≤ M') : TxB M' g := ⟨h.top.mono hm, fun f hf => (h.frs f hf).mono hm⟩
theorem TxL.snoc {M : Nat} {l : List Tr} {t : Tr} (h : TxL M l) (ht : t.text.length ≤ M) : TxL M (l ++ [t]) := fun x hx => by
 rcases List.mem_append.1 hx with h1 | h1
 ·exact h x h1
 ·rw [List.mem_singleton.1 h1]; exact ht
theorem TxB.inner {M : Nat} {g : Gr} (h : TxB M g) : TxL M g.inner := by
 obtain ⟨opens, top, nodes⟩ := g
 cases opens with
 | nil => exact h.top
 | cons f fs => exact h.frs f (List.mem_cons_self ..)
theorem TxB.set {M : Nat} {g : Gr} (h : TxB M g) {ks : List Tr} (hk : TxL M ks) : TxB M (g.setInner ks) := by
 obtain ⟨opens, top, nodes⟩ := g
 cases opens with
 | nil => exact ⟨hk, fun f hf => by cases hf⟩
 | cons f fs =>
  refine ⟨h.top, fun f' hf => ?_⟩
  rcases List.mem_cons.1 hf with h1 | h1
  ·rw [h1]; exact hk
  ·exact h.frs f' (List.mem_cons_of_mem _ h1)
theorem TxB.put {M : Nat} {g : Gr} (h : TxB M g) {n : Tr} (hn : n.text.length ≤ M) : TxB M (g.putS n) := by
 have h1 := h.set (h.inner.snoc hn)
 exact ⟨h1.top, h1.frs⟩
theorem onT_texts {M : Nat} {u : List UInt8} : ∀ {l ks : List Tr}, TxL M l → onT u l = some ks → TxL (M + u.length) ks
 | [], _, _, e => by cases e
 | [n], ks, h, e => by
  rw [onT] at e
  split at e
  ·cases e
   intro t ht
   rw [List.mem_singleton.1 ht]
   have := h n (List.mem_cons_self ..)
   show (n.text ++ u).length ≤ _
   rw [List.length_append]
   omega
  ·cases e
 | n :: m :: l, ks, h, e => by
  rw [onT] at e
  cases hq : onT u (m :: l) with
  | none => rw [hq] at e; cases e
  | some q =>
   rw [hq] at e
   cases e
   have h2 := onT_texts (fun t ht => h t (List.mem_cons_of_mem _ ht)) hq
   intro t ht
   rcases List.mem_cons.1 ht with h1 | h1
   ·rw [h1]; exact Nat.le_trans (h n (List.mem_cons_self ..)) (Nat.le_add_right _ _)
   ·exact h2 t h1
theorem takeS_texts {M : Nat} {g g' : Gr} {tk : Tk} (h : TxB M g) (e : g.takeS tk = .ok g') : TxB (M + tk.text.length) g' := by
 have hm := h.mono (Nat.le_add_right M tk.text.length)
 unfold Gr.takeS at e
 split at e
 ·split at e
  ·cases e
  ·split at e
   ·cases e
   ·split at e
    ·cases e
     exact ⟨hm.top, fun f hf => by
      rcases List.mem_cons.1 hf with h1 | h1
      ·rw [h1]; intro t ht; cases ht
      ·exact hm.frs f h1⟩
    ·cases e
     exact hm.put (Nat.zero_le _)
 ·split at e
  ·split at e
   ·cases e
   ·next f fs ho =>
    split at e
    ·cases e
     have h1 : TxB (M + tk.text.length) ⟨fs, g.top, g.nodes⟩ := ⟨hm.top, fun f' hf => hm.frs f' (by rw [ho]; exact List.mem_cons_of_mem _ hf)⟩
     exact h1.set (h1.inner.snoc (Nat.zero_le _))
    ·cases e
  ·split at e
   ·split at e
    ·cases e
    ·split at e
     ·cases e; exact hm
     ·split at e
      ·next ks hk =>
       cases e
       exact hm.set (onT_texts h.inner hk)
      ·split at e
       ·cases e
       ·cases e
        exact hm.put (Nat.le_add_left _ _)
   ·split at e
    ·split at e
     ·cases e
     ·cases e
      exact hm.put (Nat.le_add_left _ _)
    ·split at e
     ·cases e
     ·cases e
      exact hm.put (Nat.le_add_left _ _)
end Go.Proofs.YtjpkkflhcjjefaaGreatDoor
