/-
  Pointers to nodes in memory, and the nodes of a tree, level by level and one by one. Of no program but for the types' names. No condition. xtree's elements: the addresses of a slice's elements, in a slice of its own. Condition: the nodes lie in memory; there are no more than 2 to the 20 of them. The fixed answers of layer 10's law. Conditions: the laid variables hold what their initialisers lay.
-/
import Derived.Test.YtfonflbpkbibbaaGreatDoorXTi
import Derived.Test.YtfonflbpkbibbaaGreatDoorXTz
import Derived.Test.YtfonflbpkbibbaaGreatDoorXTh
namespace Go.Proofs.YtfonflbpkbibbaaGreatDoor
open Go.RowKit Go.Lib Go.Joins

/-- A pointer to a node that lies in memory. -/
def PtrIn (w : World) (S : Nat → Prop) (p : Addr) (t : Tr) : Prop := ∃ b o r, p = ⟨b, o, none⟩ ∧ S b ∧ NrIn w b o r ∧ NodeIn w S r t
theorem PtrIn.keep {w w' : World} {S S' O : Nat → Prop} {p : Addr} {t : Tr} (h : PtrIn w S p t) (hk : Keeps O w w') (hS : ∀ k, S k → ¬ O k) (hs : ∀ k, S k → S' k) : PtrIn w' S' p t := by
  obtain ⟨b, o, r, h1, h2, h3, h4⟩ := h
  exact ⟨b, o, r, h1, hs b h2, h3.keep hk (hS b h2), h4.keep hk hS hs⟩
/-- A list of them. -/
def PtrsIn (w : World) (S : Nat → Prop) : List Addr → List Tr → Prop
  | [], [] => True
  | p :: ps, t :: ts => PtrIn w S p t ∧ PtrsIn w S ps ts
  | [], _ :: _ => False
  | _ :: _, [] => False
theorem PtrsIn.len {w : World} {S : Nat → Prop} : ∀ {ps : List Addr} {ts : List Tr}, PtrsIn w S ps ts → ps.length = ts.length
  | [], [], _ => rfl
  | _ :: _, _ :: _, h => by rw [List.length_cons, List.length_cons, PtrsIn.len h.2]
  | [], _ :: _, h => h.elim
  | _ :: _, [], h => h.elim
theorem PtrsIn.keep {w w' : World} {S S' O : Nat → Prop} (hk : Keeps O w w') (hS : ∀ k, S k → ¬ O k) (hs : ∀ k, S k → S' k) : ∀ {ps : List Addr} {ts : List Tr}, PtrsIn w S ps ts → PtrsIn w' S' ps ts
  | [], [], _ => trivial
  | _ :: _, _ :: _, h => ⟨h.1.keep hk hS hs, PtrsIn.keep hk hS hs h.2⟩
  | [], _ :: _, h => h.elim
  | _ :: _, [], h => h.elim
theorem PtrsIn.app {w : World} {S : Nat → Prop} : ∀ {ps qs : List Addr} {ts us : List Tr}, PtrsIn w S ps ts → PtrsIn w S qs us → PtrsIn w S (ps ++ qs) (ts ++ us)
  | [], _, [], _, _, h => h
  | _ :: _, _, _ :: _, _, h, h2 => ⟨h.1, PtrsIn.app h.2 h2⟩
  | [], _, _ :: _, _, h, _ => h.elim
  | _ :: _, _, [], _, h, _ => h.elim
theorem PtrsIn.last {w : World} {S : Nat → Prop} : ∀ {ps : List Addr} {ts : List Tr}, PtrsIn w S ps ts → ps ≠ [] → ∃ ps' p ts' t, ps = ps' ++ [p] ∧ ts = ts' ++ [t] ∧ PtrsIn w S ps' ts' ∧ PtrIn w S p t
  | [], _, _, hn => absurd rfl hn
  | _ :: _, [], h, _ => h.elim
  | [p], [t], h, _ => ⟨[], p, [], t, rfl, rfl, trivial, h.1⟩
  | [_], _ :: _ :: _, h, _ => h.2.elim
  | _ :: _ :: _, [_], h, _ => h.2.elim
  | p :: q :: ps, t :: u :: ts, h, _ => by
    obtain ⟨ps', x, ts', y, e1, e2, h3, h4⟩ := PtrsIn.last (ps := q :: ps) (ts := u :: ts) h.2 (by simp)
    exact ⟨p :: ps', x, t :: ts', y, by rw [e1]; rfl, by rw [e2]; rfl, ⟨h.1, h3⟩, h4⟩
theorem PtrsIn.at {w : World} {S : Nat → Prop} : ∀ {ps : List Addr} {ts : List Tr}, PtrsIn w S ps ts → ∀ {i : Nat} {p : Addr}, ps[i]? = some p → ∃ t, ts[i]? = some t ∧ PtrIn w S p t
  | [], _, _, i, p, e => by simp at e
  | _ :: _, [], h, _, _, _ => h.elim
  | x :: ps, t :: ts, h, 0, p, e => ⟨t, rfl, by rw [← Option.some.inj e]; exact h.1⟩
  | x :: ps, t :: ts, h, i + 1, p, e => by
    obtain ⟨y, h1, h2⟩ := PtrsIn.at h.2 (i := i) (p := p) e
    exact ⟨y, h1, h2⟩
/-- The addresses of a slice's nodes. -/
def kidPs (b : Nat) : Nat → Nat → List Addr
  | _, 0 => []
  | o, n + 1 => ⟨b, o, none⟩ :: kidPs b (o + 5) n
theorem kidPs_len (b : Nat) : ∀ o n, (kidPs b o n).length = n
  | _, 0 => rfl
  | o, n + 1 => by rw [kidPs, List.length_cons, kidPs_len b (o + 5) n]
theorem kidPs_snoc (b : Nat) : ∀ o n, kidPs b o (n + 1) = kidPs b o n ++ [⟨b, o + n * 5, none⟩]
  | o, 0 => rfl
  | o, n + 1 => by
    rw [kidPs, kidPs_snoc b (o + 5) n, kidPs, List.cons_append, show o + 5 + n * 5 = o + (n + 1) * 5 by omega]
/-- The addresses of the elements among them. -/
def elemPs (b : Nat) : Nat → List Nr → List Addr
  | _, [] => []
  | o, r :: l => if r.kind = 1 then ⟨b, o, none⟩ :: elemPs b (o + 5) l else elemPs b (o + 5) l
theorem elemPs_snoc (b : Nat) (r : Nr) : ∀ (l : List Nr) (o : Nat), elemPs b o (l ++ [r]) = elemPs b o l ++ if r.kind = 1 then [⟨b, o + l.length * 5, none⟩] else []
  | [], o => by
    show elemPs b o [r] = [] ++ _
    rw [elemPs, elemPs, List.nil_append]
    by_cases h : r.kind = 1
    · rw [if_pos h, if_pos h]; rfl
    · rw [if_neg h, if_neg h]
  | x :: l, o => by
    rw [List.cons_append, elemPs, elemPs, elemPs_snoc b r l (o + 5), List.length_cons, show o + 5 + l.length * 5 = o + (l.length + 1) * 5 by omega]
    by_cases h : x.kind = 1
    · rw [if_pos h, if_pos h]; rfl
    · rw [if_neg h, if_neg h]
theorem elemPs_len (b : Nat) : ∀ (l : List Nr) (o : Nat), (elemPs b o l).length ≤ l.length
  | [], _ => Nat.le_refl _
  | x :: l, o => by
    have h1 := elemPs_len b l (o + 5)
    rw [elemPs, List.length_cons]
    split
    · rw [List.length_cons]; omega
    · omega
def elemL (l : List Tr) : List Tr := l.filter fun t => t.kind == 1
theorem elemL_cons (t : Tr) (l : List Tr) : elemL (t :: l) = if t.kind = 1 then t :: elemL l else elemL l := by
  unfold elemL
  rw [List.filter_cons]
  by_cases h : t.kind = 1
  · rw [if_pos h, h]; rfl
  · rw [if_neg h, beq_eq_false_iff_ne.2 h]; rfl
theorem elemL_app (l m : List Tr) : elemL (l ++ m) = elemL l ++ elemL m := List.filter_append ..
theorem elemL_kind {l : List Tr} {t : Tr} (h : t ∈ elemL l) : t.kind = 1 := by
  have := (List.mem_filter.1 h).2
  exact beq_iff_eq.1 this
theorem depL_elem : ∀ l : List Tr, depL (elemL l) = depL l
  | [] => rfl
  | t :: l => by
    rw [elemL_cons, depL]
    by_cases h : t.kind = 1
    · rw [if_pos h, depL, depL_elem l]
    · obtain ⟨k, n, x, a, ks⟩ := t
      rw [if_neg h, depL_elem l, depth_mk, if_neg (show ¬ k = 1 from h)]; omega
theorem cntL_elem : ∀ l : List Tr, cntL (elemL l) ≤ cntL l
  | [] => Nat.le_refl _
  | t :: l => by
    have := cntL_elem l
    rw [elemL_cons, cntL]
    split
    · rw [cntL]; omega
    · omega
/-- The elements within elements. -/
def nextL : List Tr → List Tr
  | [] => []
  | t :: l => elemL t.kids ++ nextL l
theorem nextL_app : ∀ l m : List Tr, nextL (l ++ m) = nextL l ++ nextL m
  | [], _ => rfl
  | t :: l, m => by rw [List.cons_append, nextL, nextL, nextL_app l m, List.append_assoc]
theorem nextL_kind : ∀ {l : List Tr} {t : Tr}, t ∈ nextL l → t.kind = 1
  | [], t, h => by cases h
  | x :: l, t, h => by
    rcases List.mem_append.1 h with h | h
    · exact elemL_kind h
    · exact nextL_kind h
theorem nextL_cnt : ∀ l : List Tr, cntL (nextL l) + l.length ≤ cntL l
  | [] => Nat.le_refl _
  | t :: l => by
    have h1 := nextL_cnt l
    obtain ⟨k, n, x, a, ks⟩ := t
    have h2 := cntL_elem ks
    have h3 : cntL (elemL (Tr.mk k n x a ks).kids) = cntL (elemL ks) := rfl
    rw [nextL, cntL_app, cntL, count_mk, List.length_cons, h3]
    omega
theorem nextL_dep : ∀ {l : List Tr}, (∀ t ∈ l, t.kind = 1) → l ≠ [] → depL l = depL (nextL l) + 1
  | [], _, h => absurd rfl h
  | [t], hk, _ => by
    obtain ⟨k, n, x, a, ks⟩ := t
    have h1 : k = 1 := hk _ (List.mem_cons_self ..)
    have h2 : depL (elemL (Tr.mk k n x a ks).kids) = depL ks := depL_elem ks
    rw [depL, depL, nextL, nextL, List.append_nil, h2, depth_mk, if_pos h1]
    omega
  | t :: u :: l, hk, _ => by
    have h3 := nextL_dep (l := u :: l) (fun t h => hk t (List.mem_cons_of_mem _ h)) (by simp)
    obtain ⟨k, n, x, a, ks⟩ := t
    have h1 : k = 1 := hk _ (List.mem_cons_self ..)
    have h2 : depL (elemL (Tr.mk k n x a ks).kids) = depL ks := depL_elem ks
    have e : nextL (Tr.mk k n x a ks :: u :: l) = elemL (Tr.mk k n x a ks).kids ++ nextL (u :: l) := rfl
    rw [depL, h3, e, depL_app, h2, depth_mk, if_pos h1]
    omega
theorem depL_pos {l : List Tr} (hk : ∀ t ∈ l, t.kind = 1) : l = [] ∨ 0 < depL l := by
  cases l with
  | nil => exact .inl rfl
  | cons t l => exact .inr (by rw [nextL_dep hk (by simp)]; omega)
theorem elemPs_in {w : World} {S : Nat → Prop} {b : Nat} (hb : S b) : ∀ {rows : List Nr} {ks : List Tr} {o : Nat}, NodesIn w S rows ks → (∀ (i : Nat) (x : Nr), rows[i]? = some x → NrIn w b (o + i * 5) x) → PtrsIn w S (elemPs b o rows) (elemL ks)
  | [], [], _, _, _ => trivial
  | [], _ :: _, _, h, _ => by cases h.1
  | _ :: _, [], _, h, _ => by cases h.1
  | r :: rows, t :: ks, o, h, hc => by
    have hn := h.2 0 r t rfl rfl
    have hl : rows.length = ks.length := by have := h.1; rw [List.length_cons, List.length_cons] at this; omega
    have ih := elemPs_in hb (rows := rows) (ks := ks) (o := o + 5) ⟨hl, fun i x y e1 e2 => h.2 (i + 1) x y e1 e2⟩ (fun i x e => by
      rw [show o + 5 + i * 5 = o + (i + 1) * 5 by omega]
      exact hc (i + 1) x e)
    rw [elemPs, elemL_cons, hn.kids.1]
    split
    · exact ⟨⟨b, o, r, rfl, hb, by have := hc 0 r rfl; simpa using this, hn⟩, ih⟩
    · exact ih
theorem kidPs_in {w : World} {S : Nat → Prop} {b : Nat} (hb : S b) : ∀ {rows : List Nr} {ks : List Tr} {o : Nat}, NodesIn w S rows ks → (∀ (i : Nat) (x : Nr), rows[i]? = some x → NrIn w b (o + i * 5) x) → PtrsIn w S (kidPs b o ks.length) ks
  | [], [], _, _, _ => trivial
  | [], _ :: _, _, h, _ => by cases h.1
  | _ :: _, [], _, h, _ => by cases h.1
  | r :: rows, t :: ks, o, h, hc => by
    have hn := h.2 0 r t rfl rfl
    have hl : rows.length = ks.length := by have := h.1; rw [List.length_cons, List.length_cons] at this; omega
    have ih := kidPs_in hb (rows := rows) (ks := ks) (o := o + 5) ⟨hl, fun i x y e1 e2 => h.2 (i + 1) x y e1 e2⟩ (fun i x e => by
      rw [show o + 5 + i * 5 = o + (i + 1) * 5 by omega]
      exact hc (i + 1) x e)
    exact ⟨⟨b, o, r, rfl, hb, by have := hc 0 r rfl; simpa using this, hn⟩, ih⟩
theorem kids_cnt (t : Tr) : cntL t.kids + 1 ≤ t.count := by
  obtain ⟨z0, z1, z2, z3, z4⟩ := t
  show cntL z4 + 1 ≤ _
  rw [count_mk]
  omega
theorem cnt_in : ∀ {l : List Tr} {i : Nat} {t : Tr}, l[i]? = some t → t.count ≤ cntL l
  | [], i, t, h => by simp at h
  | x :: l, 0, t, h => by
    rw [cntL, ← Option.some.inj h]
    omega
  | x :: l, i + 1, t, h => by
    have := cnt_in (l := l) (i := i) h
    rw [cntL]
    omega
mutual
theorem depth_le_count : ∀ t : Tr, t.depth ≤ t.count
  | .mk k n x a ks => by
    have := depL_le_cntL ks
    rw [depth_mk, count_mk]
    split <;> omega
theorem depL_le_cntL : ∀ l : List Tr, depL l ≤ cntL l
  | [] => Nat.le_refl _
  | t :: l => by
    have h1 := depth_le_count t
    have h2 := depL_le_cntL l
    rw [depL, cntL]
    omega
end

end Go.Proofs.YtfonflbpkbibbaaGreatDoor
namespace Go.Proofs.YtfonflbpkbibbaaGreatDoor
open Go.RowKit Go.Lib Go.Joins

/-- A slice of pointers that nobody else has. -/
structure PRow (w : World) (n0 : Nat) (v : Value) (ps : List Addr) : Prop where
  row : w.ownsRow 0 61 1 v ps.length (ptrC ps)
  new : ∀ k, v.ownBlock = some k → n0 ≤ k
theorem PRow.nil (w : World) (n0 : Nat) : PRow w n0 (.slice none 0 0) [] := ⟨World.ownsRow_nil _ _ _ _, fun _ e => by cases e⟩
theorem PRow.keep {w w' : World} {O : Nat → Prop} {n0 : Nat} {v : Value} {ps : List Addr} (h : PRow w n0 v ps) (hk : Keeps O w w') (hO : ∀ k, v.ownBlock = some k → ¬ O k) : PRow w' n0 v ps := ⟨ownsRow_keep h.row hk hO, h.new⟩
theorem PRow.below {w w' : World} {n0 : Nat} {v : Value} {ps : List Addr} (h : PRow w n0 v ps) (hb : Below w.heap.size w w') : PRow w' n0 v ps := h.keep (keeps_below hb Non) (fun _ _ h => h)
theorem PRow.mono {w : World} {n0 n1 : Nat} {v : Value} {ps : List Addr} (h : PRow w n0 v ps) (hn : n1 ≤ n0) : PRow w n1 v ps := ⟨h.row, fun k e => Nat.le_trans hn (h.new k e)⟩
theorem PRow.form {w : World} {n0 : Nat} {v : Value} {ps : List Addr} (h : PRow w n0 v ps) : (v = .slice none 0 0 ∧ ps = []) ∨ ∃ g c, v = .slice (some ⟨g, 0, none⟩) ps.length c ∧ ps.length ≤ c ∧ c ≤ maxLen ∧ g < w.heap.size ∧ n0 ≤ g ∧ ∀ i p, ps[i]? = some p → w.cell? ⟨g, i, none⟩ = some (.pointer (some p)) := by
  rcases h.row.2 with ⟨h1, h0⟩ | ⟨g, cap, cur, h1, hg, hgb, hcap, hcm, hcur, htk⟩
  · exact .inl ⟨h1, List.length_eq_zero_iff.1 h0⟩
  · refine .inr ⟨g, cap, h1, hcap, hcm, lt_of_block hgb, h.new g (by rw [h1]; rfl), fun i p hp => ?_⟩
    have hc := h.row.cells (g := g) (by rw [h1]; rfl) i (.pointer (some p)) (by unfold ptrC; rw [List.getElem?_map, hp]; rfl)
    rw [Addr.add_mid, Nat.zero_add] at hc
    exact hc
theorem PRow.form0 {w : World} {n0 : Nat} {v : Value} (h : PRow w n0 v []) : ∃ a c, v = .slice a 0 c := by
  rcases h.form with ⟨h1, _⟩ | ⟨g, c, h1, _⟩
  · exact ⟨_, _, h1⟩
  · exact ⟨_, _, h1⟩
theorem PRow.formN {w : World} {n0 : Nat} {v : Value} {ps : List Addr} (h : PRow w n0 v ps) (hn : ps ≠ []) : ∃ g c, v = .slice (some ⟨g, 0, none⟩) ps.length c ∧ ps.length ≤ c ∧ c ≤ maxLen ∧ g < w.heap.size ∧ n0 ≤ g ∧ ∀ i p, ps[i]? = some p → w.cell? ⟨g, i, none⟩ = some (.pointer (some p)) := by
  rcases h.form with ⟨_, h0⟩ | h
  · exact absurd h0 hn
  · exact h
theorem ptrC_len (ps : List Addr) : (ptrC ps).length = ps.length := by unfold ptrC; rw [List.length_map]
theorem ptrC_app (ps qs : List Addr) : ptrC (ps ++ qs) = ptrC ps ++ ptrC qs := by unfold ptrC; rw [List.map_append]
theorem ptrC_one (ps : List Addr) : ∀ u ∈ ptrC ps, u.oneCell' = true := by
  intro u hu
  obtain ⟨p, _, rfl⟩ := List.mem_map.1 hu
  rfl
/-- Pointers appended. -/
theorem PRow.append {w : World} {n0 : Nat} {v : Value} {ps : List Addr} (h : PRow w n0 v ps) (hn : n0 ≤ w.heap.size) {b : Addr} {c : Nat} {qs : List Addr} (hq : ∀ i q, qs[i]? = some q → w.cell? (b.add i) = some (.pointer (some q))) (hmx : ps.length + qs.length ≤ 1000000000) :
    ∃ v' w', (∀ ty, (Builtin.append_ #[58, 58] ty #[v, .slice (some b) qs.length c]).run Tryz.prog w = .ok v' w') ∧ PRow w' n0 v' (ps ++ qs) ∧ Keeps (fun k => v.ownBlock = some k) w w' := by
  obtain ⟨v', w', hrun, hrow, hgrown, hown⟩ := append_any (w := w) Tryz.underlying58 infoP rfl (by decide) h.row (b := b) (m := qs.length) (c := c) (news := ptrC qs) (by rw [ptrC_len]; omega) (fun j u hj => by
    unfold ptrC at hj
    rw [List.getElem?_map] at hj
    cases hx : qs[j]? with
    | none => rw [hx] at hj; cases hj
    | some q =>
      rw [hx] at hj
      rw [hq j q hx]
      exact hj) (ptrC_one qs) (by unfold maxLen; omega) (by omega)
  refine ⟨v', w', hrun, ⟨?_, fun k e => ?_⟩, (Keeps.refl _ w).grown hgrown (fun k e => .inl e)⟩
  · rw [List.length_append, ptrC_app]
    exact hrow
  · rcases hown k e with h1 | h1
    · exact h.new k h1
    · omega
/-- What elements answers. -/
def ElemsOut (w : World) (ps : List Addr) (e : Ending) (w' : World) : Prop := ∃ v, e = .returned v ∧ PRow w' w.heap.size v ps ∧ Below w.heap.size w w'
set_option maxRecDepth 100000 in
set_option maxHeartbeats 4000000 in
theorem elements_calls {w : World} {S : Nat → Prop} {b o c : Nat} {rows : List Nr} (h : RowIn w S (.slice (some ⟨b, o, none⟩) rows.length c) rows) (hmx : rows.length ≤ 1000000) : Calls Tryz.prog 46 #[.slice (some ⟨b, o, none⟩) rows.length c] w (ElemsOut w (elemPs b o rows)) := by
  obtain ⟨a2, c2, e2, hc, hm, _, hr⟩ := h
  injection e2 with e3 e4 e5
  subst e3
  subst e5
  obtain ⟨n, hl⟩ : ∃ n, rows.length = n := ⟨_, rfl⟩
  obtain ⟨Q, hQ⟩ : ∃ Q, elemPs b o rows = Q := ⟨_, rfl⟩
  have HQ := Lib.hid hQ
  have HL := Lib.hid hl
  have HMX : Hid (n ≤ 1000000) := Lib.hid (by omega)
  have HR : Hid (∀ (i : Nat) (x : Nr), rows[i]? = some x → NrIn w b (o + i * 5) x) := Lib.hid (fun i x hx => by
    rcases hr with h0 | ⟨b2, o2, e6, _, hcell⟩
    · rw [h0] at hx; simp at hx
    · injection e6 with e6
      injection e6 with e6 e7
      subst e6
      subst e7
      exact hcell i x hx)
  rw [hl, hQ]
  clear hQ hr hl hc hm hmx e4
  go_enter Tryz.func46, Tryz.ntmps46
  go_wp2_with fail
  go_loopg [3, 7] n (fun g s3 s7 wr => ∃ i : Nat, i + g = n ∧ s7 = .int .i64 (i : Int) ∧ PRow wr w.heap.size s3 (elemPs b o (rows.take i)) ∧ Below w.heap.size w wr)
  case atStart => exact ⟨0, by omega, rfl, PRow.nil w _, Below.refl _ _⟩
  case round =>
    obtain ⟨i, hig, rfl, hp, hb⟩ := hrel
    have HP := Lib.hid hp
    have HB := Lib.hid hb
    clear hp hb
    cases gk with
    | zero =>
      obtain rfl : i = n := by omega
      have hge : ¬ ((i : Int) < (i : Int)) := by omega
      rw [List.take_of_length_le (by have := HL.out; omega), HQ.out] at HP
      go_wp2_with fail
      go_ret
      exact ⟨_, rfl, HP.out, HB.out⟩
    | succ g =>
      have hlt : (i : Int) < (n : Int) := by omega
      have hi0 : (0 : Int) ≤ (i : Int) := by omega
      have hadd : IntKind.i64.wrap ((i : Int) + 1) = ((i + 1 : Nat) : Int) := IntWalk.i64_in _ (by have := HMX.out; omega)
      obtain ⟨x, hx⟩ : ∃ x, rows[i]? = some x := ⟨_, List.getElem?_eq_getElem (by have := HL.out; omega)⟩
      have HNX : Hid (elemPs b o (rows.take (i + 1)) = elemPs b o (rows.take i) ++ if x.kind = 1 then [⟨b, o + i * 5, none⟩] else []) := Lib.hid (by
        rw [List.take_add_one, hx]
        show elemPs b o (rows.take i ++ [x]) = _
        rw [elemPs_snoc, List.length_take, Nat.min_eq_left (by have := HL.out; omega)])
      have HPL : Hid ((elemPs b o (rows.take i)).length ≤ n) := Lib.hid (Nat.le_trans (elemPs_len b _ o) (by rw [List.length_take]; omega))
      obtain ⟨y0, y1, y2, y3, y4⟩ := (HR.out i x hx).keep (keeps_below HB.out Non) (fun e => e)
      obtain ⟨xk, xn, xt, xa, xv⟩ := x
      dsimp only at y0 y1 y2 y3 y4 HNX
      have HE := Lib.hid (isElem_calls ⟨xk, xn, xt, xa, xv⟩ wr)
      unfold nodeV at HE
      dsimp only at HE
      obtain ⟨sn, hsn⟩ : ∃ s, strB xn = s := ⟨_, rfl⟩
      obtain ⟨st, hst⟩ : ∃ s, strB xt = s := ⟨_, rfl⟩
      rw [hsn] at y1 HE
      rw [hst] at y2 HE
      clear hx hsn hst
      by_cases h1 : xk = 1
      · have hb1 : (xk == 1) = true := by rw [h1]; rfl
        rw [hb1] at HE
        rw [if_pos h1] at HNX
        clear h1 hb1
        go_wp2_with fail
        with_reducible refine HE.out.mono ?_
        rintro e w2 ⟨rfl, hb⟩
        have HB2 := Lib.hid (below_then HB.out hb)
        have HP2 := Lib.hid (HP.out.below hb)
        clear hb HE
        obtain ⟨x1, hx1⟩ : ∃ W, w2.alloc (.cells #[.pointer (some ⟨b, o + i * 5, none⟩)] 61) = W := ⟨_, rfl⟩
        have hb1 : Below w2.heap.size w2 x1 := by rw [← hx1]; exact (Below.refl _ _).alloc (Nat.le_refl _) _
        have hp1 : x1.heap[w2.heap.size]? = some (.cells #[.pointer (some ⟨b, o + i * 5, none⟩)] 61 (0, 0)) := by rw [← hx1]; exact heap_alloc_new w2 _
        obtain ⟨v3, x2, hrun, hp3, hk3⟩ := (HP2.out.below hb1).append (Nat.le_trans HB2.out.size hb1.size) (b := ⟨w2.heap.size, 0, none⟩) (c := 1) (qs := [⟨b, o + i * 5, none⟩]) (fun j q hj => by
          match j, hj with
          | 0, hj =>
            rw [Addr.add_mid, cell_of_block hp1 0, ← Option.some.inj hj]
            rfl
          | j + 1, hj => simp at hj) (by have := HPL.out; have := HMX.out; show _ + 1 ≤ _; omega)
        have HRUN := Lib.hid hrun
        have HP3 := Lib.hid hp3
        have HB3 := Lib.hid ((below_then HB2.out hb1).trans (hk3.toBelow (Nat.le_trans HB2.out.size hb1.size) (fun k e => HP2.out.new k e)))
        clear hb1 hp1 hrun hp3 hk3
        go_wp2_with (at_builtin; (try rw [hx1]); refine wpList_step (fun K hK => step_append rfl (.tmp 15) (.tmp 19) _ _ rfl _ _ _ rfl rfl HRUN.out (hK _ _ ?_)))
        go_roundg g
        case measure => omega
        case rel => exact ⟨i + 1, by omega, rfl, by rw [HNX.out]; exact HP3.out, HB3.out⟩
      · have hb1 : (xk == 1) = false := beq_eq_false_iff_ne.2 h1
        rw [hb1] at HE
        rw [if_neg h1, List.append_nil] at HNX
        clear h1 hb1
        go_wp2_with fail
        with_reducible refine HE.out.mono ?_
        rintro e w2 ⟨rfl, hb⟩
        have HB2 := Lib.hid (below_then HB.out hb)
        have HP2 := Lib.hid (HP.out.below hb)
        clear hb HE
        go_wp2_with fail
        go_roundg g
        case measure => omega
        case rel => exact ⟨i + 1, by omega, rfl, by rw [HNX.out]; exact HP2.out, HB2.out⟩
set_option maxRecDepth 100000 in
theorem elements_nil (w : World) (a : Option Addr) (c : Nat) : Calls Tryz.prog 46 #[.slice a 0 c] w (ElemsOut w []) := by
  go_enter Tryz.func46, Tryz.ntmps46
  go_wp2_with fail
  go_loopg [3, 7] 0 (fun g s3 s7 wr => s7 = .int .i64 (0 : Int) ∧ s3 = .slice none 0 0 ∧ wr = w)
  case atStart => exact ⟨rfl, rfl, rfl⟩
  case round =>
    obtain ⟨rfl, rfl, rfl⟩ := hrel
    go_wp2_with fail
    go_ret
    exact ⟨_, rfl, PRow.nil wr _, Below.refl _ _⟩
theorem NodeIn.any {w : World} {S : Nat → Prop} {r : Nr} {t : Tr} (h : NodeIn w S r t) : NodeIn w Any r t := h.keep (Keeps.refl Non w) (fun _ _ h => h) (fun _ _ => trivial)
theorem RowIn.slice {w : World} {S : Nat → Prop} {v : Value} {rows : List Nr} (h : RowIn w S v rows) : ∃ a n c, v = .slice a n c := by
  obtain ⟨a, c, h1, _⟩ := h
  exact ⟨a, _, c, h1⟩
theorem AttIn.slice {w : World} {S : Nat → Prop} {v : Value} {l : List (List UInt8 × List UInt8)} (h : AttIn w S v l) : ∃ a n c, v = .slice a n c := by
  obtain ⟨a, c, h1, _⟩ := h
  exact ⟨a, _, c, h1⟩
theorem RowIn.any {w : World} {S : Nat → Prop} {v : Value} {rows : List Nr} (h : RowIn w S v rows) : RowIn w Any v rows := h.keep (Keeps.refl Non w) (fun _ _ h => h) (fun _ _ => trivial)
theorem NodesIn.any {w : World} {S : Nat → Prop} {rows : List Nr} {ks : List Tr} (h : NodesIn w S rows ks) : NodesIn w Any rows ks := h.keep (Keeps.refl Non w) (fun _ _ h => h) (fun _ _ => trivial)
theorem elements_any {w0 w : World} (hb : Below w0.heap.size w0 w) {v : Value} {rows : List Nr} {ks : List Tr} (h : RowIn w0 Any v rows) (hn : NodesIn w0 Any rows ks) (hmx : ks.length ≤ 1000000) : Calls Tryz.prog 46 #[v] w (fun e w' => ∃ ps, PtrsIn w0 Any ps (elemL ks) ∧ ElemsOut w ps e w') := by
  have hk := h.keep (S' := Any) (keeps_below hb Non) (fun _ _ h => h) (fun _ h => h)
  obtain ⟨a, c, rfl, hc, hm, hz, hr⟩ := h
  rcases hr with h0 | ⟨b, o, rfl, hS, hcell⟩
  · subst h0
    have h1 : ks = [] := List.length_eq_zero_iff.1 hn.1.symm
    subst h1
    exact (elements_nil w a c).mono (fun e w' h => ⟨[], trivial, h⟩)
  · exact (elements_calls (S := Any) hk (by rw [hn.1]; exact hmx)).mono (fun e w' h => ⟨_, elemPs_in hS hn hcell, h⟩)
theorem PRow.append_nil {w : World} {n0 : Nat} {v : Value} {ps : List Addr} (h : PRow w n0 v ps) : ∀ ty, (Builtin.append_ #[58, 58] ty #[v, .slice none 0 0]).run Tryz.prog w = .ok v w := append_any_none (w := w) Tryz.underlying58 infoP h.row

end Go.Proofs.YtfonflbpkbibbaaGreatDoor
namespace Go.Proofs.YtfonflbpkbibbaaGreatDoor
open Go.RowKit Go.Lib Go.Joins

def d10a : List UInt8 := [60, 97, 62, 120, 60, 33, 91, 67, 68, 65, 84, 65, 91, 121, 93, 93, 62, 60, 98, 47, 62, 60, 47, 97, 62]
def d10b : List UInt8 := [60, 97, 62, 60, 47, 98, 62]
theorem parse_d10a : parseS d10a = .ok ([], .mk 1 [97] [] [] [.mk 2 [] [120, 121] [] [], .mk 1 [98] [] [] []], []) := by kernel_rfl
theorem parse_d10b : parseS d10b = .error (3, 3) := by kernel_rfl
set_option maxRecDepth 100000 in
set_option maxHeartbeats 8000000 in
theorem awake10_calls (w : World) (hE : EnvAt w) (hg : Handle w) (h15 : 15 ≤ w.heap.size) : Calls Tryz.prog 10 #[] w (Leaves (.bool true) w) := by
  have kc := fun (w : World) (C : Array Value) (n c : Nat) => Lib.run_convert_bytes_const (P := Tryz.prog) w 22 5 C n c Tryz.underlying22 Tryz.underlying5
  have HE := Lib.hid hE
  have HG := Lib.hid hg
  have H15 := Lib.hid h15
  obtain ⟨wa, hwa⟩ : ∃ W, w.alloc (.cells #[.int .u8 60, .int .u8 97, .int .u8 62, .int .u8 120, .int .u8 60, .int .u8 33, .int .u8 91, .int .u8 67, .int .u8 68, .int .u8 65, .int .u8 84, .int .u8 65, .int .u8 91, .int .u8 121, .int .u8 93, .int .u8 93, .int .u8 62, .int .u8 60, .int .u8 98, .int .u8 47, .int .u8 62, .int .u8 60, .int .u8 47, .int .u8 97, .int .u8 62] 5 (25, 26)) = W := ⟨_, rfl⟩
  have hba : Below w.heap.size w wa := by rw [← hwa]; exact (Below.refl _ _).alloc (Nat.le_refl _) _
  have HA1 : Hid (Calls Tryz.prog 11 #[.slice (some ⟨w.heap.size, 0, none⟩) 25 25] wa (ParseOut wa (parseS d10a))) := Lib.hid (parse_calls (l := d10a) (by rw [← hwa]; exact doc_new w d10a 25 26 25 (by decide) (by decide)) (hE.below hba) (hg.below hba) (Nat.le_trans h15 hba.size))
  rw [parse_d10a] at HA1
  have HBA := Lib.hid hba
  have HWA := Lib.hid hwa
  clear hE hg h15 hba hwa
  go_enter Tryz.func10, Tryz.ntmps10
  go_wp2_with fail
  rw [HWA.out]
  with_reducible refine HA1.out.mono ?_
  rintro e w1 ⟨dv, rfl, hdoc, hb⟩
  have HB1 := Lib.hid (below_then HBA.out hb)
  obtain ⟨bv, av, r, rb, ra, rfl, hn, hrb, _, hra, _⟩ := hdoc.ex
  obtain ⟨hk, hnm, htx, hat, rows, hri, hni⟩ := hn.kids
  obtain ⟨g4, o4, c4, hkv, hcell⟩ : ∃ g4 o4 c4, r.kv = .slice (some ⟨g4, o4, none⟩) 2 c4 ∧ w1.cell? ⟨g4, o4 + 2, none⟩ = some (.string (strB [120, 121])) := by
    obtain ⟨a, c, h1, _, _, _, h2⟩ := hri
    have hl : rows.length = 2 := hni.1
    rcases h2 with h0 | ⟨b, o, h3, _, h4⟩
    · rw [h0] at hl; cases hl
    · obtain ⟨x, hx⟩ : ∃ x, rows[0]? = some x := ⟨_, List.getElem?_eq_getElem (by omega)⟩
      have h5 := (h4 0 x hx).2.2.1
      rw [(hni.2 0 x _ hx rfl).kids.2.2.1] at h5
      have h6 : w1.cell? ⟨b, o + 0 * 5 + 2, none⟩ = some (.string (strB [120, 121])) := h5
      rw [Nat.zero_mul, Nat.add_zero] at h6
      exact ⟨b, o, c, by rw [h1, hl, h3], h6⟩
  obtain ⟨z1, z2, z3, rfl⟩ := hrb.slice
  obtain ⟨z4, z5, z6, rfl⟩ := hra.slice
  obtain ⟨z7, z8, z9, hav⟩ := hat.slice
  obtain ⟨rk, rn, rx, rav, rkv⟩ := r
  dsimp only at hk hnm htx hkv hav
  subst hkv
  subst hav
  obtain ⟨sn, hsn⟩ : ∃ z, strB rn = z := ⟨_, rfl⟩
  obtain ⟨st, hst⟩ : ∃ z, strB rx = z := ⟨_, rfl⟩
  obtain ⟨sx, hsx⟩ : ∃ z, strB [120, 121] = z := ⟨_, rfl⟩
  have hse : (sx.toList == [120, 121]) = true := by rw [← hsx, str_eq]; rfl
  rw [hsx] at hcell
  unfold docV
  dsimp only
  rw [hsn, hst]
  obtain ⟨wd, hwd⟩ : ∃ W, w1.alloc (.cells #[.slice z1 z2 z3, .int .i64 rk, .string sn, .string st, .slice z7 z8 z9, .slice (some ⟨g4, o4, none⟩) 2 c4, .slice z4 z5 z6] 29) = W := ⟨_, rfl⟩
  have hbd : Below w1.heap.size w1 wd := by rw [← hwd]; exact (Below.refl _ _).alloc (Nat.le_refl _) _
  have hdd : wd.heap[w1.heap.size]? = some (.cells #[.slice z1 z2 z3, .int .i64 rk, .string sn, .string st, .slice z7 z8 z9, .slice (some ⟨g4, o4, none⟩) 2 c4, .slice z4 z5 z6] 29 (0, 0)) := by rw [← hwd]; exact heap_alloc_new w1 _
  obtain ⟨wb, hwb⟩ : ∃ W, wd.alloc (.cells #[.int .u8 60, .int .u8 97, .int .u8 62, .int .u8 60, .int .u8 47, .int .u8 98, .int .u8 62] 5 (7, 8)) = W := ⟨_, rfl⟩
  have hbb : Below wd.heap.size wd wb := by rw [← hwb]; exact (Below.refl _ _).alloc (Nat.le_refl _) _
  have hb1b : Below w1.heap.size w1 wb := below_then hbd hbb
  have hbwb : Below w.heap.size w wb := below_then HB1.out hb1b
  have HA2 : Hid (Calls Tryz.prog 11 #[.slice (some ⟨wd.heap.size, 0, none⟩) 7 7] wb (ParseOut wb (parseS d10b))) := Lib.hid (parse_calls (l := d10b) (by rw [← hwb]; exact doc_new wd d10b 7 8 7 (by decide) (by decide)) (HE.out.below hbwb) (HG.out.below hbwb) (Nat.le_trans H15.out hbwb.size))
  rw [parse_d10b] at HA2
  have HBWB := Lib.hid hbwb
  have HWD := Lib.hid hwd
  have HWB := Lib.hid hwb
  have HCL := Lib.hid (cell_keep hcell (keeps_below hb1b Non) (fun h => h))
  have HKC := Lib.hid (cell_keep ((cell_of_block hdd 5).trans rfl : wd.cell? ⟨w1.heap.size, 5, none⟩ = some (.slice (some ⟨g4, o4, none⟩) 2 c4)) (keeps_below hbb Non) (fun h => h))
  clear hdoc hn hrb hra hk hnm htx hat hri hni hsn hst hsx hbd hdd hbb hb1b hbwb hb hwd hwb hcell HA1
  have hsz : (w1.alloc (.cells #[.slice z1 z2 z3, .int .i64 rk, .string sn, .string st, .slice z7 z8 z9, .slice (some ⟨g4, o4, none⟩) 2 c4, .slice z4 z5 z6] 29)).heap.size = w1.heap.size + 1 := alloc_sz _ _
  have kc2 := fun (C : Array Value) (n c : Nat) => kc (w1.alloc (.cells #[.slice z1 z2 z3, .int .i64 rk, .string sn, .string st, .slice z7 z8 z9, .slice (some ⟨g4, o4, none⟩) 2 c4, .slice z4 z5 z6] 29)) C n c
  simp only [hsz] at kc2
  have HS1 : Hid (wd.heap.size = w1.heap.size + 1) := Lib.hid (by rw [← HWD.out]; exact hsz)
  rw [HS1.out] at HA2
  clear hsz
  go_wp2_with fail
  rw [HWD.out, HWB.out]
  with_reducible refine HA2.out.mono ?_
  rintro e w2 ⟨ev, rfl, _, her, hb⟩
  unfold docZ docV
  obtain ⟨w3, hw3⟩ : ∃ W, w2.alloc (.cells #[.slice none 0 0, .int .i64 0, .string ⟨#[]⟩, .string ⟨#[]⟩, .slice none 0 0, .slice none 0 0, .slice none 0 0] 29) = W := ⟨_, rfl⟩
  have hb23 : Below w2.heap.size w2 w3 := by rw [← hw3]; exact (Below.refl _ _).alloc (Nat.le_refl _) _
  have hbb3 : Below wb.heap.size wb w3 := below_then hb hb23
  have hcl := cell_keep HCL.out (keeps_below hbb3 Non) (fun h => h)
  have hkc := cell_keep HKC.out (keeps_below hbb3 Non) (fun h => h)
  have HB3 := Lib.hid (below_then HBWB.out hbb3)
  have HER := Lib.hid (her.below hb23)
  have HCO := Lib.hid (code_calls _ _ ev w3 HER.out (HG.out.below HB3.out))
  have HW3 := Lib.hid hw3
  clear hb hb23 hbb3 her hw3 HA2
  rw [← HW3.out] at hcl hkc
  go_wp2_with fail
  rw [HW3.out]
  with_reducible refine HCO.out.mono ?_
  rintro e w4 ⟨rfl, hb⟩
  have HAT := Lib.hid (at_calls _ _ ev w4 (HER.out.below hb) (HG.out.below (below_then HB3.out hb)))
  have HB4 := Lib.hid (below_then HB3.out hb)
  clear hb
  go_wp2_with fail
  with_reducible refine HAT.out.mono ?_
  rintro e w5 ⟨rfl, hb⟩
  have HB5 := Lib.hid (below_then HB4.out hb)
  clear hb
  go_wp2_with fail
  go_ret
  exact ⟨rfl, HB5.out⟩

end Go.Proofs.YtfonflbpkbibbaaGreatDoor
