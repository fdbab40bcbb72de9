/-
 What Parse answers where something is wrong.
-/
import Derived.Test.YtjpkkflhcjjefaaGreatDoorXTa
import Derived.Laws.ResultCell
import Derived.Laws.NewBlocks
namespace Go.Proofs.YtjpkkflhcjjefaaGreatDoor
open Go.RowKit Go.Lib
def plainV (c a : Int) : Value := .iface 78 (.agg #[.int .i64 c, .int .i64 a])
def segS : ByteArray := ⟨#[120, 109, 108]⟩
def ErrAt (B : Nat) (w : World) (c n : Int) (v : Value) : Prop :=
 (c = 0 ∧ v = .nilIface) ∨ (c ≠ 0 ∧ ∃ b, v = .iface 96 (.pointer (some ⟨b, 0, none⟩)) ∧ w.cell? ⟨b, 0, none⟩ = some (.string segS) ∧ w.cell? ⟨b, 1, none⟩ = some (plainV c n) ∧ B ≤ b)
theorem ErrAt.low {B B' : Nat} {w : World} {c n : Int} {v : Value} (h : ErrAt B w c n v) (hB : B' ≤ B) : ErrAt B' w c n v := by
 rcases h with h | ⟨h0, b, h1, h2, h3, h4⟩
 ·exact .inl h
 ·exact .inr ⟨h0, b, h1, h2, h3, Nat.le_trans hB h4⟩
theorem ErrAt.below {B : Nat} {w w' : World} {c n : Int} {v : Value} (h : ErrAt B w c n v) (hb : Below w.heap.size w w') : ErrAt B w' c n v := by
 rcases h with h | ⟨h0, b, h1, h2, h3, h4⟩
 ·exact .inl h
 ·exact .inr ⟨h0, b, h1, (hb.cell (p := ⟨b, 0, none⟩) (lt_of_cell h2)).trans h2, (hb.cell (p := ⟨b, 1, none⟩) (lt_of_cell h3)).trans h3, h4⟩
theorem new_code (c a : Int) (w : World) (hc : (c == 0) = false) : Calls Tryz.prog 26 #[.int .i64 c, .int .i64 a] w fun e w' => e = .returned (plainV c a) ∧ w = w' := by
 go_enter Tryz.func26, Tryz.ntmps26
 go_wp2
 go_ret
 exact ⟨rfl, rfl⟩
theorem wrap_some (s : ByteArray) (T : TypeId) (v : Value) (w : World) : Calls Tryz.prog 25 #[.string s, .iface T v] w fun e w' =>
  e = .returned (.iface 96 (.pointer (some ⟨w.heap.size, 0, none⟩))) ∧ w.alloc (.cells #[.string s, .iface T v] 98) = w' := by
 go_enter Tryz.func25, Tryz.ntmps25
 go_wp2
 go_ret
 exact ⟨rfl, rfl⟩
end Go.Proofs.YtjpkkflhcjjefaaGreatDoor
namespace Go.Proofs.YtjpkkflhcjjefaaGreatDoor
open Go.RowKit Go.Lib Go.Joins
set_option maxHeartbeats 32000000
def elemAt : List Tr → Nat → Int
 | [], _ => -1
 | t :: l, i => if t.kind = 1 then (i : Int) else elemAt l (i + 1)
theorem NodesIn.kinds {w : World} {S : Nat → Prop} {rows : List Nr} {ks : List Tr} (h : NodesIn w S rows ks) : rows.map (fun r => r.kind) = ks.map Tr.kind := by
 apply List.ext_getElem?
 intro i
 rw [List.getElem?_map, List.getElem?_map]
 by_cases hi : i < rows.length
 ·have hi2 : i < ks.length := by rw [← h.1]; exact hi
  rw [List.getElem?_eq_getElem hi, List.getElem?_eq_getElem hi2]
  have := (h.2 i _ _ (List.getElem?_eq_getElem hi) (List.getElem?_eq_getElem hi2)).kids.1
  simpa using this
 ·rw [List.getElem?_eq_none (by omega), List.getElem?_eq_none (by rw [← h.1]; omega)]
  rfl
def rowAt : List Nr → Nat → Int
 | [], _ => -1
 | r :: l, i => if r.kind = 1 then (i : Int) else rowAt l (i + 1)
theorem rowAt_eq : ∀ {rows : List Nr} {ks : List Tr}, rows.map (fun r => r.kind) = ks.map Tr.kind → ∀ i, rowAt rows i = elemAt ks i
 | [], [], _, _ => rfl
 | [], _ :: _, h, _ => by cases h
 | _ :: _, [], h, _ => by cases h
 | r :: rows, t :: ks, h, i => by
  rw [List.map_cons, List.map_cons] at h
  injection h with h1 h2
  rw [rowAt, elemAt, h1, rowAt_eq h2]
set_option maxRecDepth 100000 in
theorem index_calls {w : World} {S : Nat → Prop} {v : Value} {rows : List Nr} (h : RowIn w S v rows) : Calls Tryz.prog 43 #[v, .func (.func 44) #[] #[]] w (Leaves (.int .i64 (rowAt rows 0)) w) := by
 obtain ⟨a, c, rfl, hc, hm, hn, hr⟩ := h
 obtain ⟨n, hl⟩ : ∃ n, rows.length = n := ⟨_, rfl⟩
 obtain ⟨Q, hQ⟩ : ∃ Q, rowAt rows 0 = Q := ⟨_, rfl⟩
 rw [hl, hQ]
 have HQ : Hid (rowAt (rows.drop 0) 0 = Q) := hid (by rw [List.drop_zero]; exact hQ)
 have HR := hid hr
 have HL := hid hl
 have HMX : Hid (n ≤ maxLen) := hid (by omega)
 clear hQ hr hl hc hm hn
 go_enter Tryz.func43, Tryz.ntmps43
 go_wp2_with fail
 go_loopg [8] n (fun g s wr => ∃ i : Nat, s = .int .i64 (i : Int) ∧ g + i = n ∧ rowAt (rows.drop i) i = Q ∧ Below w.heap.size w wr)
 case atStart => exact ⟨0, rfl, rfl, HQ.out, Below.refl _ _⟩
 case round =>
  obtain ⟨i, rfl, hg, hq, hb⟩ := hrel
  have HQ2 := hid hq
  have HB := hid hb
  clear hq hb HQ
  cases gk with
  | zero =>
   obtain rfl : i = n := by omega
   have hge : ¬ ((i : Int) < (i : Int)) := by omega
   have HF : Hid (Q = -1) := hid (by rw [← HQ2.out, List.drop_eq_nil_of_le (by have := HL.out; omega)]; rfl)
   go_wp2_with fail
   go_ret
   exact ⟨by rw [HF.out]; rfl, HB.out⟩
  | succ g =>
   have hlt : (i : Int) < (n : Int) := by omega
   have hi0 : (0 : Int) ≤ (i : Int) := by omega
   have hadd : IntKind.i64.wrap ((i : Int) + 1) = ((i + 1 : Nat) : Int) := IntWalk.i64_in _ (by have := HMX.out; unfold maxLen at this; omega)
   obtain ⟨x, hx⟩ : ∃ x, rows[i]? = some x := ⟨_, List.getElem?_eq_getElem (by have := HL.out; omega)⟩
   have hd1 : rows.drop i = x :: rows.drop (i + 1) := by
    rw [List.drop_eq_getElem_cons (by have := HL.out; omega)]
    rw [List.getElem?_eq_getElem (by have := HL.out; omega)] at hx
    rw [Option.some.inj hx]
   rcases HR.out with h0 | ⟨b, o, rfl, _, hcell⟩
   ·rw [h0] at hx; simp at hx
   obtain ⟨y0, y1, y2, y3, y4⟩ := (hcell i x hx).keep (keeps_below HB.out Non) (fun e => e)
   obtain ⟨xk, xn, xt, xa, xv⟩ := x
   dsimp only at y0 y1 y2 y3 y4
   have HE := hid (isElem_calls ⟨xk, xn, xt, xa, xv⟩ wr)
   unfold nodeV at HE
   dsimp only at HE
   obtain ⟨sn, hsn⟩ : ∃ s, strB xn = s := ⟨_, rfl⟩
   obtain ⟨st, hst⟩ : ∃ s, strB xt = s := ⟨_, rfl⟩
   rw [hsn] at y1 HE
   rw [hst] at y2 HE
   have HD1 := hid hd1
   clear hx hd1 hcell hsn hst
   by_cases h1 : xk = 1
   ·have hb1 : (xk == 1) = true := by rw [h1]; rfl
    rw [hb1] at HE
    have HF : Hid (Q = (i : Int)) := hid (by rw [← HQ2.out, HD1.out, rowAt, if_pos h1])
    clear h1 hb1
    go_wp2_with fail
    with_reducible refine HE.out.mono ?_
    rintro e w2 ⟨rfl, hb⟩
    have HB2 := hid (below_then HB.out hb)
    clear hb HE
    go_wp2_with fail
    go_ret
    exact ⟨by rw [HF.out]; rfl, HB2.out⟩
   ·have hb1 : (xk == 1) = false := beq_eq_false_iff_ne.2 h1
    rw [hb1] at HE
    have HF : Hid (rowAt (rows.drop (i + 1)) (i + 1) = Q) := hid (by rw [← HQ2.out, HD1.out, rowAt, if_neg h1])
    clear h1 hb1
    go_wp2_with fail
    with_reducible refine HE.out.mono ?_
    rintro e w2 ⟨rfl, hb⟩
    have HB2 := hid (below_then HB.out hb)
    clear hb HE
    go_wp2_with fail
    go_roundg g
    case measure => omega
    case rel => exact ⟨i + 1, rfl, by omega, HF.out, HB2.out⟩
set_option maxRecDepth 100000 in
theorem has_calls {w : World} {S : Nat → Prop} {v : Value} {rows : List Nr} (h : RowIn w S v rows) : Calls Tryz.prog 111 #[v, .func (.func 44) #[] #[]] w (Leaves (.bool (rows.any fun r => r.kind == 1)) w) := by
 have HI := hid (index_calls h)
 obtain ⟨Q, hQ⟩ : ∃ Q, rowAt rows 0 = Q := ⟨_, rfl⟩
 have hany : decide ((0 : Int) ≤ Q) = rows.any fun r => r.kind == 1 := by
  rw [← hQ]
  have hh : ∀ (l : List Nr) (i : Nat), decide ((0 : Int) ≤ rowAt l i) = l.any fun r => r.kind == 1 := by
   intro l
   induction l with
   | nil => intro i; rfl
   | cons t l ih =>
    intro i
    rw [rowAt, List.any_cons]
    by_cases h : t.kind = 1
    ·rw [if_pos h, h]
     simp
    ·rw [if_neg h, beq_eq_false_iff_ne.2 h, Bool.false_or]
     exact ih (i + 1)
  exact hh rows 0
 rw [hQ] at HI
 rw [← hany]
 clear hany hQ h
 go_enter Tryz.func111, Tryz.ntmps111
 go_wp2_with fail
 with_reducible refine HI.out.mono ?_
 rintro e w2 ⟨rfl, hb⟩
 have HB2 := hid hb
 clear hb
 go_wp2_with fail
 go_ret
 exact ⟨rfl, HB2.out⟩
def PtrIn (w : World) (S : Nat → Prop) (p : Addr) (t : Tr) : Prop := ∃ b o r, p = ⟨b, o, none⟩ ∧ S b ∧ NrIn w b o r ∧ NodeIn w S r t
theorem PtrIn.keep {w w' : World} {S S' O : Nat → Prop} {p : Addr} {t : Tr} (h : PtrIn w S p t) (hk : Keeps O w w') (hS : ∀ k, S k → ¬ O k) (hs : ∀ k, S k → S' k) : PtrIn w' S' p t := by
 obtain ⟨b, o, r, h1, h2, h3, h4⟩ := h
 exact ⟨b, o, r, h1, hs b h2, h3.keep hk (hS b h2), h4.keep hk hS hs⟩
def PtrsIn (w : World) (S : Nat → Prop) : List Addr → List Tr → Prop
 | [], [] => True
 | p :: ps, t :: ts => PtrIn w S p t ∧ PtrsIn w S ps ts
 | [], _ :: _ => False
 | _ :: _, [] => False
theorem PtrsIn.len {w : World} {S : Nat → Prop} : ∀ {ps : List Addr} {ts : List Tr}, PtrsIn w S ps ts → ps.length = ts.length
 | [], [], _ => rfl
 | _ :: _, _ :: _, h => by rw [List.length_cons, List.length_cons, PtrsIn.len h.2]
 | [], _ :: _, h => h.elim
 | _ :: _, [], h => h.elim
theorem PtrsIn.keep {w w' : World} {S S' O : Nat → Prop} (hk : Keeps O w w') (hS : ∀ k, S k → ¬ O k) (hs : ∀ k, S k → S' k) : ∀ {ps : List Addr} {ts : List Tr}, PtrsIn w S ps ts → PtrsIn w' S' ps ts
 | [], [], _ => trivial
 | _ :: _, _ :: _, h => ⟨h.1.keep hk hS hs, PtrsIn.keep hk hS hs h.2⟩
 | [], _ :: _, h => h.elim
 | _ :: _, [], h => h.elim
theorem PtrsIn.app {w : World} {S : Nat → Prop} : ∀ {ps qs : List Addr} {ts us : List Tr}, PtrsIn w S ps ts → PtrsIn w S qs us → PtrsIn w S (ps ++ qs) (ts ++ us)
 | [], _, [], _, _, h => h
 | _ :: _, _, _ :: _, _, h, h2 => ⟨h.1, PtrsIn.app h.2 h2⟩
 | [], _, _ :: _, _, h, _ => h.elim
 | _ :: _, _, [], _, h, _ => h.elim
theorem PtrsIn.last {w : World} {S : Nat → Prop} : ∀ {ps : List Addr} {ts : List Tr}, PtrsIn w S ps ts → ps ≠ [] → ∃ ps' p ts' t, ps = ps' ++ [p] ∧ ts = ts' ++ [t] ∧ PtrsIn w S ps' ts' ∧ PtrIn w S p t
 | [], _, _, hn => absurd rfl hn
 | _ :: _, [], h, _ => h.elim
 | [p], [t], h, _ => ⟨[], p, [], t, rfl, rfl, trivial, h.1⟩
 | [_], _ :: _ :: _, h, _ => h.2.elim
 | _ :: _ :: _, [_], h, _ => h.2.elim
 | p :: q :: ps, t :: u :: ts, h, _ => by
  obtain ⟨ps', x, ts', y, e1, e2, h3, h4⟩ := PtrsIn.last (ps := q :: ps) (ts := u :: ts) h.2 (by simp)
  exact ⟨p :: ps', x, t :: ts', y, by rw [e1]; rfl, by rw [e2]; rfl, ⟨h.1, h3⟩, h4⟩
theorem PtrsIn.at {w : World} {S : Nat → Prop} : ∀ {ps : List Addr} {ts : List Tr}, PtrsIn w S ps ts → ∀ {i : Nat} {p : Addr}, ps[i]? = some p → ∃ t, ts[i]? = some t ∧ PtrIn w S p t
 | [], _, _, i, p, e => by simp at e
 | _ :: _, [], h, _, _, _ => h.elim
 | x :: ps, t :: ts, h, 0, p, e => ⟨t, rfl, by rw [← Option.some.inj e]; exact h.1⟩
 | x :: ps, t :: ts, h, i + 1, p, e => by
  obtain ⟨y, h1, h2⟩ := PtrsIn.at h.2 (i := i) (p := p) e
  exact ⟨y, h1, h2⟩
def kidPs (b : Nat) : Nat → Nat → List Addr
 | _, 0 => []
 | o, n + 1 => ⟨b, o, none⟩ :: kidPs b (o + 5) n
theorem kidPs_len (b : Nat) : ∀ o n, (kidPs b o n).length = n
 | _, 0 => rfl
 | o, n + 1 => by rw [kidPs, List.length_cons, kidPs_len b (o + 5) n]
theorem kidPs_snoc (b : Nat) : ∀ o n, kidPs b o (n + 1) = kidPs b o n ++ [⟨b, o + n * 5, none⟩]
 | o, 0 => rfl
 | o, n + 1 => by
  rw [kidPs, kidPs_snoc b (o + 5) n, kidPs, List.cons_append, show o + 5 + n * 5 = o + (n + 1) * 5 by omega]
def elemPs (b : Nat) : Nat → List Nr → List Addr
 | _, [] => []
 | o, r :: l => if r.kind = 1 then ⟨b, o, none⟩ :: elemPs b (o + 5) l else elemPs b (o + 5) l
theorem elemPs_snoc (b : Nat) (r : Nr) : ∀ (l : List Nr) (o : Nat), elemPs b o (l ++ [r]) = elemPs b o l ++ if r.kind = 1 then [⟨b, o + l.length * 5, none⟩] else []
 | [], o => by
  show elemPs b o [r] = [] ++ _
  rw [elemPs, elemPs, List.nil_append]
  by_cases h : r.kind = 1
  ·rw [if_pos h, if_pos h]; rfl
  ·rw [if_neg h, if_neg h]
 | x :: l, o => by
  rw [List.cons_append, elemPs, elemPs, elemPs_snoc b r l (o + 5), List.length_cons, show o + 5 + l.length * 5 = o + (l.length + 1) * 5 by omega]
  by_cases h : x.kind = 1
  ·rw [if_pos h, if_pos h]; rfl
  ·rw [if_neg h, if_neg h]
theorem elemPs_len (b : Nat) : ∀ (l : List Nr) (o : Nat), (elemPs b o l).length ≤ l.length
 | [], _ => Nat.le_refl _
 | x :: l, o => by
  have h1 := elemPs_len b l (o + 5)
  rw [elemPs, List.length_cons]
  split
  ·rw [List.length_cons]; omega
  ·omega
def elemL (l : List Tr) : List Tr := l.filter fun t => t.kind == 1
theorem elemL_cons (t : Tr) (l : List Tr) : elemL (t :: l) = if t.kind = 1 then t :: elemL l else elemL l := by
 unfold elemL
 rw [List.filter_cons]
 by_cases h : t.kind = 1
 ·rw [if_pos h, h]; rfl
 ·rw [if_neg h, beq_eq_false_iff_ne.2 h]; rfl
theorem elemL_kind {l : List Tr} {t : Tr} (h : t ∈ elemL l) : t.kind = 1 := by
 have := (List.mem_filter.1 h).2
 exact beq_iff_eq.1 this
theorem depL_elem : ∀ l : List Tr, depL (elemL l) = depL l
 | [] => rfl
 | t :: l => by
  rw [elemL_cons, depL]
  by_cases h : t.kind = 1
  ·rw [if_pos h, depL, depL_elem l]
  ·obtain ⟨k, n, x, a, ks⟩ := t
   rw [if_neg h, depL_elem l, depth_mk, if_neg (show ¬ k = 1 from h)]; omega
theorem cntL_elem : ∀ l : List Tr, cntL (elemL l) ≤ cntL l
 | [] => Nat.le_refl _
 | t :: l => by
  have := cntL_elem l
  rw [elemL_cons, cntL]
  split
  ·rw [cntL]; omega
  ·omega
def nextL : List Tr → List Tr
 | [] => []
 | t :: l => elemL t.kids ++ nextL l
theorem nextL_app : ∀ l m : List Tr, nextL (l ++ m) = nextL l ++ nextL m
 | [], _ => rfl
 | t :: l, m => by rw [List.cons_append, nextL, nextL, nextL_app l m, List.append_assoc]
theorem nextL_kind : ∀ {l : List Tr} {t : Tr}, t ∈ nextL l → t.kind = 1
 | [], t, h => by cases h
 | x :: l, t, h => by
  rcases List.mem_append.1 h with h | h
  ·exact elemL_kind h
  ·exact nextL_kind h
theorem nextL_cnt : ∀ l : List Tr, cntL (nextL l) + l.length ≤ cntL l
 | [] => Nat.le_refl _
 | t :: l => by
  have h1 := nextL_cnt l
  obtain ⟨k, n, x, a, ks⟩ := t
  have h2 := cntL_elem ks
  have h3 : cntL (elemL (Tr.mk k n x a ks).kids) = cntL (elemL ks) := rfl
  rw [nextL, cntL_app, cntL, count_mk, List.length_cons, h3]
  omega
theorem nextL_dep : ∀ {l : List Tr}, (∀ t ∈ l, t.kind = 1) → l ≠ [] → depL l = depL (nextL l) + 1
 | [], _, h => absurd rfl h
 | [t], hk, _ => by
  obtain ⟨k, n, x, a, ks⟩ := t
  have h1 : k = 1 := hk _ (List.mem_cons_self ..)
  have h2 : depL (elemL (Tr.mk k n x a ks).kids) = depL ks := depL_elem ks
  rw [depL, depL, nextL, nextL, List.append_nil, h2, depth_mk, if_pos h1]
  omega
 | t :: u :: l, hk, _ => by
  have h3 := nextL_dep (l := u :: l) (fun t h => hk t (List.mem_cons_of_mem _ h)) (by simp)
  obtain ⟨k, n, x, a, ks⟩ := t
  have h1 : k = 1 := hk _ (List.mem_cons_self ..)
  have h2 : depL (elemL (Tr.mk k n x a ks).kids) = depL ks := depL_elem ks
  have e : nextL (Tr.mk k n x a ks :: u :: l) = elemL (Tr.mk k n x a ks).kids ++ nextL (u :: l) := rfl
  rw [depL, h3, e, depL_app, h2, depth_mk, if_pos h1]
  omega
theorem elemPs_in {w : World} {S : Nat → Prop} {b : Nat} (hb : S b) : ∀ {rows : List Nr} {ks : List Tr} {o : Nat}, NodesIn w S rows ks → (∀ (i : Nat) (x : Nr), rows[i]? = some x → NrIn w b (o + i * 5) x) → PtrsIn w S (elemPs b o rows) (elemL ks)
 | [], [], _, _, _ => trivial
 | [], _ :: _, _, h, _ => by cases h.1
 | _ :: _, [], _, h, _ => by cases h.1
 | r :: rows, t :: ks, o, h, hc => by
  have hn := h.2 0 r t rfl rfl
  have hl : rows.length = ks.length := by have := h.1; rw [List.length_cons, List.length_cons] at this; omega
  have ih := elemPs_in hb (rows := rows) (ks := ks) (o := o + 5) ⟨hl, fun i x y e1 e2 => h.2 (i + 1) x y e1 e2⟩ (fun i x e => by
   rw [show o + 5 + i * 5 = o + (i + 1) * 5 by omega]
   exact hc (i + 1) x e)
  rw [elemPs, elemL_cons, hn.kids.1]
  split
  ·exact ⟨⟨b, o, r, rfl, hb, by have := hc 0 r rfl; simpa using this, hn⟩, ih⟩
  ·exact ih
theorem kidPs_in {w : World} {S : Nat → Prop} {b : Nat} (hb : S b) : ∀ {rows : List Nr} {ks : List Tr} {o : Nat}, NodesIn w S rows ks → (∀ (i : Nat) (x : Nr), rows[i]? = some x → NrIn w b (o + i * 5) x) → PtrsIn w S (kidPs b o ks.length) ks
 | [], [], _, _, _ => trivial
 | [], _ :: _, _, h, _ => by cases h.1
 | _ :: _, [], _, h, _ => by cases h.1
 | r :: rows, t :: ks, o, h, hc => by
  have hn := h.2 0 r t rfl rfl
  have hl : rows.length = ks.length := by have := h.1; rw [List.length_cons, List.length_cons] at this; omega
  have ih := kidPs_in hb (rows := rows) (ks := ks) (o := o + 5) ⟨hl, fun i x y e1 e2 => h.2 (i + 1) x y e1 e2⟩ (fun i x e => by
   rw [show o + 5 + i * 5 = o + (i + 1) * 5 by omega]
   exact hc (i + 1) x e)
  exact ⟨⟨b, o, r, rfl, hb, by have := hc 0 r rfl; simpa using this, hn⟩, ih⟩
theorem kids_cnt (t : Tr) : cntL t.kids + 1 ≤ t.count := by
 obtain ⟨z0, z1, z2, z3, z4⟩ := t
 show cntL z4 + 1 ≤ _
 rw [count_mk]
 omega
theorem cnt_in : ∀ {l : List Tr} {i : Nat} {t : Tr}, l[i]? = some t → t.count ≤ cntL l
 | [], i, t, h => by simp at h
 | x :: l, 0, t, h => by
  rw [cntL, ← Option.some.inj h]
  omega
 | x :: l, i + 1, t, h => by
  have := cnt_in (l := l) (i := i) h
  rw [cntL]
  omega
mutual
theorem depth_le_count : ∀ t : Tr, t.depth ≤ t.count
 | .mk k n x a ks => by
  have := depL_le_cntL ks
  rw [depth_mk, count_mk]
  split <;> omega
theorem depL_le_cntL : ∀ l : List Tr, depL l ≤ cntL l
 | [] => Nat.le_refl _
 | t :: l => by
  have h1 := depth_le_count t
  have h2 := depL_le_cntL l
  rw [depL, cntL]
  omega
end
def docV (b k n t at_ kv a : Value) : Value := .agg #[b, k, n, t, at_, kv, a]
def docZ : Value := docV (.slice none 0 0) (.int .i64 0) (.string ⟨#[]⟩) (.string ⟨#[]⟩) (.slice none 0 0) (.slice none 0 0) (.slice none 0 0)
theorem alloc_sz (w : World) (o : Obj) : (w.alloc o).heap.size = w.heap.size + 1 := by simp
set_option maxRecDepth 100000 in
theorem wrong_calls (c p : Nat) (hc : c ≠ 0) (w : World) : Calls Tryz.prog 42 #[.int .i64 (c : Int), .int .i64 (p : Int)] w (fun e w' => ∃ ev, e = .returned (.tuple #[docZ, ev]) ∧ ErrAt w.heap.size w' (c : Int) (p : Int) ev ∧ Below w.heap.size w w') := by
 have HN : Hid (∀ W, Calls Tryz.prog 26 #[.int .i64 (c : Int), .int .i64 (p : Int)] W fun e w' => e = .returned (plainV c p) ∧ W = w') := hid (fun W => new_code (c : Int) (p : Int) W (beq_eq_false_iff_ne.2 (by omega)))
 have HC := hid hc
 clear hc
 go_enter Tryz.func42, Tryz.ntmps42
 go_wp2_with fail
 with_reducible refine (HN.out _).mono ?_
 rintro e w2 ⟨rfl, rfl⟩
 have HW := fun (s : ByteArray) (T : TypeId) (v : Value) (W : World) => wrap_some s T v W
 unfold plainV
 go_wp2_with fail
 with_reducible refine (HW _ _ _ _).mono ?_
 rintro e w2 ⟨rfl, rfl⟩
 clear HW
 go_wp2_with fail
 clear HN
 have hrow := run_loadVar_row (P := Tryz.prog) ((w.alloc (.cells #[.slice none 0 0, .int .i64 0, .string ⟨#[]⟩, .string ⟨#[]⟩, .slice none 0 0, .slice none 0 0, .slice none 0 0] 27)).alloc (.cells #[.string ⟨#[120, 109, 108]⟩, .iface 78 (.agg #[.int .i64 (c : Int), .int .i64 (p : Int)])] 98)) w.heap.size 27 27 _ (0, 0) _ ((heap_alloc_old (w.alloc (.cells #[.slice none 0 0, .int .i64 0, .string ⟨#[]⟩, .string ⟨#[]⟩, .slice none 0 0, .slice none 0 0, .slice none 0 0] 27)) _ (by rw [alloc_sz]; omega)).trans (heap_alloc_new w _)) Tryz.underlying27 rfl (by kernel_rfl)
 have hb2 := heap_alloc_new (w.alloc (.cells #[.slice none 0 0, .int .i64 0, .string ⟨#[]⟩, .string ⟨#[]⟩, .slice none 0 0, .slice none 0 0, .slice none 0 0] 27)) (.cells #[.string ⟨#[120, 109, 108]⟩, .iface 78 (.agg #[.int .i64 (c : Int), .int .i64 (p : Int)])] 98)
 rw [show (w.alloc (.cells #[.slice none 0 0, .int .i64 0, .string ⟨#[]⟩, .string ⟨#[]⟩, .slice none 0 0, .slice none 0 0, .slice none 0 0] 27)).heap.size = w.heap.size + 1 from alloc_sz _ _] at hb2
 refine bodyPost_ret_by (v := .tuple #[docZ, .iface 96 (.pointer (some ⟨w.heap.size + 1, 0, none⟩))]) ?_ rfl ⟨_, rfl, .inr ⟨by have := HC.out; omega, _, rfl, ?_, ?_, by omega⟩, ?_⟩
 ·rw [results_cell_tmp rfl]
  simp only [Array.getD_eq_getD_getElem?, List.getElem?_toArray, List.getElem?_cons_succ, List.getElem?_cons_zero, Option.getD_some, asAddr, Sem.run_pure, Result.andThen_ok]
  rw [hrow]
  rfl
 ·exact (cell_of_block hb2 0).trans rfl
 ·exact (cell_of_block hb2 1).trans rfl
 ·exact ((Below.refl _ _).alloc (Nat.le_refl _) _).alloc (by rw [alloc_sz]; omega) _
end Go.Proofs.YtjpkkflhcjjefaaGreatDoor
