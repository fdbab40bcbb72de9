/-
 What Parse answers where something is wrong. No condition.
-/
import Derived.Test.YtocnedpclllbhaaGreatDoorXTa
import Derived.Test.YtocnedpclllbhaaGreatDoorXTk
import Derived.Lib.QuietBelow
import Derived.BigQuiet
import Derived.Laws.ResultCell
import Derived.Laws.NewBlocks
namespace Go.Proofs.YtocnedpclllbhaaGreatDoor
open Go.RowKit Go.Lib Go.Joins

theorem NodesIn.kinds {w : World} {S : Nat → Prop} {rows : List Nr} {ks : List Tr} (h : NodesIn w S rows ks) : rows.map (fun r => r.kind) = ks.map Tr.kind := by
  apply List.ext_getElem?
  intro i
  rw [List.getElem?_map, List.getElem?_map]
  by_cases hi : i < rows.length
  · have hi2 : i < ks.length := by rw [← h.1]; exact hi
    rw [List.getElem?_eq_getElem hi, List.getElem?_eq_getElem hi2]
    have := (h.2 i _ _ (List.getElem?_eq_getElem hi) (List.getElem?_eq_getElem hi2)).kids.1
    simpa using this
  · rw [List.getElem?_eq_none (by omega), List.getElem?_eq_none (by rw [← h.1]; omega)]
    rfl

/-- A pointer to a node that lies in memory. -/
def PtrIn (w : World) (S : Nat → Prop) (p : Addr) (t : Tr) : Prop := ∃ b o r, p = ⟨b, o, none⟩ ∧ S b ∧ NrIn w b o r ∧ NodeIn w S r t
theorem PtrIn.keep {w w' : World} {S S' O : Nat → Prop} {p : Addr} {t : Tr} (h : PtrIn w S p t) (hk : Keeps O w w') (hS : ∀ k, S k → ¬ O k) (hs : ∀ k, S k → S' k) : PtrIn w' S' p t := by
  obtain ⟨b, o, r, h1, h2, h3, h4⟩ := h
  exact ⟨b, o, r, h1, hs b h2, h3.keep hk (hS b h2), h4.keep hk hS hs⟩
/-- A list of them. -/
def PtrsIn (w : World) (S : Nat → Prop) : List Addr → List Tr → Prop
  | [], [] => True
  | p :: ps, t :: ts => PtrIn w S p t ∧ PtrsIn w S ps ts
  | [], _ :: _ => False
  | _ :: _, [] => False
theorem PtrsIn.len {w : World} {S : Nat → Prop} : ∀ {ps : List Addr} {ts : List Tr}, PtrsIn w S ps ts → ps.length = ts.length
  | [], [], _ => rfl
  | _ :: _, _ :: _, h => by rw [List.length_cons, List.length_cons, PtrsIn.len h.2]
  | [], _ :: _, h => h.elim
  | _ :: _, [], h => h.elim
theorem PtrsIn.keep {w w' : World} {S S' O : Nat → Prop} (hk : Keeps O w w') (hS : ∀ k, S k → ¬ O k) (hs : ∀ k, S k → S' k) : ∀ {ps : List Addr} {ts : List Tr}, PtrsIn w S ps ts → PtrsIn w' S' ps ts
  | [], [], _ => trivial
  | _ :: _, _ :: _, h => ⟨h.1.keep hk hS hs, PtrsIn.keep hk hS hs h.2⟩
  | [], _ :: _, h => h.elim
  | _ :: _, [], h => h.elim
theorem PtrsIn.app {w : World} {S : Nat → Prop} : ∀ {ps qs : List Addr} {ts us : List Tr}, PtrsIn w S ps ts → PtrsIn w S qs us → PtrsIn w S (ps ++ qs) (ts ++ us)
  | [], _, [], _, _, h => h
  | _ :: _, _, _ :: _, _, h, h2 => ⟨h.1, PtrsIn.app h.2 h2⟩
  | [], _, _ :: _, _, h, _ => h.elim
  | _ :: _, _, [], _, h, _ => h.elim
theorem PtrsIn.last {w : World} {S : Nat → Prop} : ∀ {ps : List Addr} {ts : List Tr}, PtrsIn w S ps ts → ps ≠ [] → ∃ ps' p ts' t, ps = ps' ++ [p] ∧ ts = ts' ++ [t] ∧ PtrsIn w S ps' ts' ∧ PtrIn w S p t
  | [], _, _, hn => absurd rfl hn
  | _ :: _, [], h, _ => h.elim
  | [p], [t], h, _ => ⟨[], p, [], t, rfl, rfl, trivial, h.1⟩
  | [_], _ :: _ :: _, h, _ => h.2.elim
  | _ :: _ :: _, [_], h, _ => h.2.elim
  | p :: q :: ps, t :: u :: ts, h, _ => by
    obtain ⟨ps', x, ts', y, e1, e2, h3, h4⟩ := PtrsIn.last (ps := q :: ps) (ts := u :: ts) h.2 (by simp)
    exact ⟨p :: ps', x, t :: ts', y, by rw [e1]; rfl, by rw [e2]; rfl, ⟨h.1, h3⟩, h4⟩
theorem PtrsIn.at {w : World} {S : Nat → Prop} : ∀ {ps : List Addr} {ts : List Tr}, PtrsIn w S ps ts → ∀ {i : Nat} {p : Addr}, ps[i]? = some p → ∃ t, ts[i]? = some t ∧ PtrIn w S p t
  | [], _, _, i, p, e => by simp at e
  | _ :: _, [], h, _, _, _ => h.elim
  | x :: ps, t :: ts, h, 0, p, e => ⟨t, rfl, by rw [← Option.some.inj e]; exact h.1⟩
  | x :: ps, t :: ts, h, i + 1, p, e => by
    obtain ⟨y, h1, h2⟩ := PtrsIn.at h.2 (i := i) (p := p) e
    exact ⟨y, h1, h2⟩
/-- The addresses of a slice's nodes. -/
def kidPs (b : Nat) : Nat → Nat → List Addr
  | _, 0 => []
  | o, n + 1 => ⟨b, o, none⟩ :: kidPs b (o + 5) n
theorem kidPs_len (b : Nat) : ∀ o n, (kidPs b o n).length = n
  | _, 0 => rfl
  | o, n + 1 => by rw [kidPs, List.length_cons, kidPs_len b (o + 5) n]
theorem kidPs_snoc (b : Nat) : ∀ o n, kidPs b o (n + 1) = kidPs b o n ++ [⟨b, o + n * 5, none⟩]
  | o, 0 => rfl
  | o, n + 1 => by
    rw [kidPs, kidPs_snoc b (o + 5) n, kidPs, List.cons_append, show o + 5 + n * 5 = o + (n + 1) * 5 by omega]
/-- The addresses of the elements among them. -/
def elemPs (b : Nat) : Nat → List Nr → List Addr
  | _, [] => []
  | o, r :: l => if r.kind = 1 then ⟨b, o, none⟩ :: elemPs b (o + 5) l else elemPs b (o + 5) l
theorem elemPs_snoc (b : Nat) (r : Nr) : ∀ (l : List Nr) (o : Nat), elemPs b o (l ++ [r]) = elemPs b o l ++ if r.kind = 1 then [⟨b, o + l.length * 5, none⟩] else []
  | [], o => by
    show elemPs b o [r] = [] ++ _
    rw [elemPs, elemPs, List.nil_append]
    by_cases h : r.kind = 1
    · rw [if_pos h, if_pos h]; rfl
    · rw [if_neg h, if_neg h]
  | x :: l, o => by
    rw [List.cons_append, elemPs, elemPs, elemPs_snoc b r l (o + 5), List.length_cons, show o + 5 + l.length * 5 = o + (l.length + 1) * 5 by omega]
    by_cases h : x.kind = 1
    · rw [if_pos h, if_pos h]; rfl
    · rw [if_neg h, if_neg h]
theorem elemPs_len (b : Nat) : ∀ (l : List Nr) (o : Nat), (elemPs b o l).length ≤ l.length
  | [], _ => Nat.le_refl _
  | x :: l, o => by
    have h1 := elemPs_len b l (o + 5)
    rw [elemPs, List.length_cons]
    split
    · rw [List.length_cons]; omega
    · omega
def elemL (l : List Tr) : List Tr := l.filter fun t => t.kind == 1
theorem elemL_cons (t : Tr) (l : List Tr) : elemL (t :: l) = if t.kind = 1 then t :: elemL l else elemL l := by
  unfold elemL
  rw [List.filter_cons]
  by_cases h : t.kind = 1
  · rw [if_pos h, h]; rfl
  · rw [if_neg h, beq_eq_false_iff_ne.2 h]; rfl
theorem elemL_kind {l : List Tr} {t : Tr} (h : t ∈ elemL l) : t.kind = 1 := by
  have := (List.mem_filter.1 h).2
  exact beq_iff_eq.1 this
theorem depL_elem : ∀ l : List Tr, depL (elemL l) = depL l
  | [] => rfl
  | t :: l => by
    rw [elemL_cons, depL]
    by_cases h : t.kind = 1
    · rw [if_pos h, depL, depL_elem l]
    · obtain ⟨k, n, x, a, ks⟩ := t
      rw [if_neg h, depL_elem l, depth_mk, if_neg (show ¬ k = 1 from h)]; omega
theorem cntL_elem : ∀ l : List Tr, cntL (elemL l) ≤ cntL l
  | [] => Nat.le_refl _
  | t :: l => by
    have := cntL_elem l
    rw [elemL_cons, cntL]
    split
    · rw [cntL]; omega
    · omega
/-- The elements within elements. -/
def nextL : List Tr → List Tr
  | [] => []
  | t :: l => elemL t.kids ++ nextL l
theorem nextL_app : ∀ l m : List Tr, nextL (l ++ m) = nextL l ++ nextL m
  | [], _ => rfl
  | t :: l, m => by rw [List.cons_append, nextL, nextL, nextL_app l m, List.append_assoc]
theorem nextL_kind : ∀ {l : List Tr} {t : Tr}, t ∈ nextL l → t.kind = 1
  | [], t, h => by cases h
  | x :: l, t, h => by
    rcases List.mem_append.1 h with h | h
    · exact elemL_kind h
    · exact nextL_kind h
theorem nextL_cnt : ∀ l : List Tr, cntL (nextL l) + l.length ≤ cntL l
  | [] => Nat.le_refl _
  | t :: l => by
    have h1 := nextL_cnt l
    obtain ⟨k, n, x, a, ks⟩ := t
    have h2 := cntL_elem ks
    have h3 : cntL (elemL (Tr.mk k n x a ks).kids) = cntL (elemL ks) := rfl
    rw [nextL, cntL_app, cntL, count_mk, List.length_cons, h3]
    omega
theorem nextL_dep : ∀ {l : List Tr}, (∀ t ∈ l, t.kind = 1) → l ≠ [] → depL l = depL (nextL l) + 1
  | [], _, h => absurd rfl h
  | [t], hk, _ => by
    obtain ⟨k, n, x, a, ks⟩ := t
    have h1 : k = 1 := hk _ (List.mem_cons_self ..)
    have h2 : depL (elemL (Tr.mk k n x a ks).kids) = depL ks := depL_elem ks
    rw [depL, depL, nextL, nextL, List.append_nil, h2, depth_mk, if_pos h1]
    omega
  | t :: u :: l, hk, _ => by
    have h3 := nextL_dep (l := u :: l) (fun t h => hk t (List.mem_cons_of_mem _ h)) (by simp)
    obtain ⟨k, n, x, a, ks⟩ := t
    have h1 : k = 1 := hk _ (List.mem_cons_self ..)
    have h2 : depL (elemL (Tr.mk k n x a ks).kids) = depL ks := depL_elem ks
    have e : nextL (Tr.mk k n x a ks :: u :: l) = elemL (Tr.mk k n x a ks).kids ++ nextL (u :: l) := rfl
    rw [depL, h3, e, depL_app, h2, depth_mk, if_pos h1]
    omega
theorem elemPs_in {w : World} {S : Nat → Prop} {b : Nat} (hb : S b) : ∀ {rows : List Nr} {ks : List Tr} {o : Nat}, NodesIn w S rows ks → (∀ (i : Nat) (x : Nr), rows[i]? = some x → NrIn w b (o + i * 5) x) → PtrsIn w S (elemPs b o rows) (elemL ks)
  | [], [], _, _, _ => trivial
  | [], _ :: _, _, h, _ => by cases h.1
  | _ :: _, [], _, h, _ => by cases h.1
  | r :: rows, t :: ks, o, h, hc => by
    have hn := h.2 0 r t rfl rfl
    have hl : rows.length = ks.length := by have := h.1; rw [List.length_cons, List.length_cons] at this; omega
    have ih := elemPs_in hb (rows := rows) (ks := ks) (o := o + 5) ⟨hl, fun i x y e1 e2 => h.2 (i + 1) x y e1 e2⟩ (fun i x e => by
      rw [show o + 5 + i * 5 = o + (i + 1) * 5 by omega]
      exact hc (i + 1) x e)
    rw [elemPs, elemL_cons, hn.kids.1]
    split
    · exact ⟨⟨b, o, r, rfl, hb, by have := hc 0 r rfl; simpa using this, hn⟩, ih⟩
    · exact ih
theorem kidPs_in {w : World} {S : Nat → Prop} {b : Nat} (hb : S b) : ∀ {rows : List Nr} {ks : List Tr} {o : Nat}, NodesIn w S rows ks → (∀ (i : Nat) (x : Nr), rows[i]? = some x → NrIn w b (o + i * 5) x) → PtrsIn w S (kidPs b o ks.length) ks
  | [], [], _, _, _ => trivial
  | [], _ :: _, _, h, _ => by cases h.1
  | _ :: _, [], _, h, _ => by cases h.1
  | r :: rows, t :: ks, o, h, hc => by
    have hn := h.2 0 r t rfl rfl
    have hl : rows.length = ks.length := by have := h.1; rw [List.length_cons, List.length_cons] at this; omega
    have ih := kidPs_in hb (rows := rows) (ks := ks) (o := o + 5) ⟨hl, fun i x y e1 e2 => h.2 (i + 1) x y e1 e2⟩ (fun i x e => by
      rw [show o + 5 + i * 5 = o + (i + 1) * 5 by omega]
      exact hc (i + 1) x e)
    exact ⟨⟨b, o, r, rfl, hb, by have := hc 0 r rfl; simpa using this, hn⟩, ih⟩
theorem kids_cnt (t : Tr) : cntL t.kids + 1 ≤ t.count := by
  obtain ⟨z0, z1, z2, z3, z4⟩ := t
  show cntL z4 + 1 ≤ _
  rw [count_mk]
  omega
theorem cnt_in : ∀ {l : List Tr} {i : Nat} {t : Tr}, l[i]? = some t → t.count ≤ cntL l
  | [], i, t, h => by simp at h
  | x :: l, 0, t, h => by
    rw [cntL, ← Option.some.inj h]
    omega
  | x :: l, i + 1, t, h => by
    have := cnt_in (l := l) (i := i) h
    rw [cntL]
    omega
mutual
theorem depth_le_count : ∀ t : Tr, t.depth ≤ t.count
  | .mk k n x a ks => by
    have := depL_le_cntL ks
    rw [depth_mk, count_mk]
    split <;> omega
theorem depL_le_cntL : ∀ l : List Tr, depL l ≤ cntL l
  | [] => Nat.le_refl _
  | t :: l => by
    have h1 := depth_le_count t
    have h2 := depL_le_cntL l
    rw [depL, cntL]
    omega
end


/-- A row of pointers, one shorter. -/
theorem ptr_drop {w : World} {ob oc : Nat} {front : List Addr} {pl : Addr} (h : w.ownsRow 0 49 1 (.slice (some ⟨ob, 0, none⟩) (front.length + 1) oc) (front.length + 1) (ptrC (front ++ [pl]))) : w.ownsRow 0 49 1 (.slice (some ⟨ob, 0, none⟩) front.length oc) front.length (ptrC front) := by
  refine ⟨by rw [ptrC, List.length_map, Nat.mul_one], ?_⟩
  rcases h.2 with ⟨h1, _⟩ | ⟨g, cap, cur, h1, h2, h3, h4, h5, h6, h7⟩
  · cases h1
  · injection h1 with e1 _ e3
    injection e1 with e1
    injection e1 with e1
    subst e1 e3
    refine .inr ⟨ob, oc, cur, rfl, h2, h3, by omega, h5, h6, ?_⟩
    have h8 := congrArg (List.take (front.length * 1)) h7
    rw [List.take_take, Nat.min_eq_left (by omega)] at h8
    rw [h8, ptrC, List.map_append, List.take_append_of_le_length (by rw [List.length_map]; omega), List.take_of_length_le (by rw [List.length_map]; omega)]
    rfl

theorem NodesIn.split {w : World} {S : Nat → Prop} {rs : List Nr} {r : Nr} {K : List Tr} {t : Tr} (h : NodesIn w S (rs ++ [r]) (K ++ [t])) : NodesIn w S rs K ∧ NodeIn w S r t := by
  have hl : rs.length = K.length := by have := h.1; simpa using this
  refine ⟨⟨hl, fun i x y hx hy => h.2 i x y (by rw [List.getElem?_append_left (List.getElem?_eq_some_iff.1 hx).1]; exact hx) (by rw [List.getElem?_append_left (List.getElem?_eq_some_iff.1 hy).1]; exact hy)⟩, ?_⟩
  exact h.2 rs.length r t (by simp) (by rw [hl]; simp)

def docV (b k n t at_ kv a : Value) : Value := .agg #[b, k, n, t, at_, kv, a]
end Go.Proofs.YtocnedpclllbhaaGreatDoor
