/-
 What is parsed may be written.
-/
import Derived.Test.YtjpkkflhcjjefaaGreatDoorOR
namespace Go.Proofs.YtjpkkflhcjjefaaGreatDoor
open Go.RowKit Go.Lib Go.Joins
set_option maxHeartbeats 32000000
theorem eols_snoc {c : UInt8} (h13 : c ≠ 13) (h10 : c ≠ 10) : ∀ a : List UInt8, eols (a ++ [c]) = eols a ++ [c]
 | [] => by rw [List.nil_append, eols_cons, if_neg h13]; rfl
 | b :: a => by
  have ih := eols_snoc h13 h10 a
  rw [List.cons_append, eols_cons, eols_cons]
  by_cases hb : b = 13
  ·rw [if_pos hb, if_pos hb]
   cases a with
   | nil =>
    rw [List.nil_append, if_neg (by simpa using h10), if_neg (by simp), eols_cons, if_neg h13]
    rfl
   | cons d a =>
    rw [List.cons_append] at ih ⊢
    rw [List.head?_cons, List.head?_cons, ih]
    split <;> rfl
  ·rw [if_neg hb, if_neg hb, ih]
   rfl
theorem eols_mark {c d : UInt8} (hc : c ≠ 13 ∧ c ≠ 10) (hd : d ≠ 13 ∧ d ≠ 10) : ∀ l : List UInt8, cutS [c, d] l = none → cutS [c, d] (eols l) = none
 | [], _ => rfl
 | b :: t, h => by
  rw [cutS] at h
  split at h
  ·cases h
  ·rename_i hp
   have h2 : cutS [c, d] t = none := by
    cases hq : cutS [c, d] t with
    | none => rfl
    | some q => rw [hq] at h; cases h
   have ih := eols_mark hc hd t h2
   rw [eols_cons]
   by_cases hb : b = 13
   ·rw [if_pos hb]
    split
    ·exact ih
    ·rw [cutS, if_neg (by simp [List.isPrefixOf]; exact fun e => absurd e hc.2), ih]
     rfl
   ·rw [if_neg hb, cutS, if_neg, ih]
    ·rfl
    ·intro e
     apply hp
     cases t with
     | nil =>
      have e0 : eols [] = [] := rfl
      rw [e0] at e
      simp [List.isPrefixOf] at e
     | cons y t =>
      rw [eols_cons] at e
      by_cases hy : y = 13
      ·rw [if_pos hy] at e
       split at e
       ·rename_i ht
        cases t with
        | nil => cases ht
        | cons z t =>
         have hz : z = 10 := by simpa using ht
         rw [eols_cons, hz, if_neg (by decide)] at e
         simp [List.isPrefixOf] at e
         exact absurd e.2 hd.2
       ·simp [List.isPrefixOf] at e
        exact absurd e.2 hd.2
      ·rw [if_neg hy] at e
       simpa [List.isPrefixOf] using e
theorem cut_first : ∀ {r : List UInt8} {q : List UInt8 × List UInt8}, cutS [45, 45] r = some q → cutS [45, 45] (q.1 ++ [45]) = none
 | [], q, h => by cases h
 | x :: t, q, h => by
  have hsp := cutS_split _ h
  rw [cutS] at h
  split at h
  ·cases h
   rfl
  ·rename_i hp
   cases hq : cutS [45, 45] t with
   | none => rw [hq] at h; cases h
   | some q' =>
    rw [hq] at h
    cases h
    have ih := cut_first hq
    have hs2 := cutS_split _ hq
    rw [List.cons_append, cutS, if_neg, ih]
    ·rfl
    ·intro e
     apply hp
     rw [hs2]
     cases hq1 : q'.1 with
     | nil => rw [hq1] at e; simpa [List.isPrefixOf] using e
     | cons y u => rw [hq1] at e; simpa [List.isPrefixOf] using e
theorem cut_before : ∀ {r : List UInt8} {q : List UInt8 × List UInt8}, cutS [63, 62] r = some q → cutS [63, 62] q.1 = none
 | [], q, h => by cases h
 | x :: t, q, h => by
  rw [cutS] at h
  split at h
  ·cases h
   rfl
  ·rename_i hp
   cases hq : cutS [63, 62] t with
   | none => rw [hq] at h; cases h
   | some q' =>
    rw [hq] at h
    cases h
    have ih := cut_before hq
    have hs2 := cutS_split _ hq
    show cutS [63, 62] (x :: q'.1) = none
    rw [cutS, if_neg, ih]
    ·rfl
    ·intro e
     apply hp
     rw [hs2]
     cases hq1 : q'.1 with
     | nil => rw [hq1] at e; simp [List.isPrefixOf] at e
     | cons y u => rw [hq1] at e; simpa [List.isPrefixOf] using e
def ComP (u : List UInt8) : Prop := cutS [45, 45] (u ++ [45]) = none ∧ ∀ x ∈ u, x ≠ 13
theorem commentS_more {i : Nat} {r u : List UInt8} {j : Nat} {t : List UInt8} (e : commentS i r = .ok u j t) : ComP u := by
 unfold commentS upToS at e
 cases hc : cutS [45, 45] r with
 | none => rw [hc] at e; cases e
 | some q =>
  rw [hc] at e
  dsimp only at e
  rw [Sx.then_ok] at e
  cases hq : q.2 with
  | nil => rw [hq] at e; cases e
  | cons y v =>
   rw [hq, peekS, Sx.then_ok] at e
   split at e
   ·cases e
   ·cases e
    refine ⟨?_, eols_no13 _⟩
    rw [← eols_snoc (by decide) (by decide)]
    exact eols_mark (by decide) (by decide) _ (cut_first hc)
def InsP (nm u : List UInt8) : Prop := sameS nm [120, 109, 108] = false ∧ cutS [63, 62] u = none ∧ (∀ x ∈ u, x ≠ 13) ∧ ∀ x v, u = x :: v → blankB (x.toNat : Int) = false
theorem blkS_stop : ∀ (r : List UInt8) (i : Nat) {x : Unit} {j : Nat} {t : List UInt8}, blkS i r = .ok x j t → ∃ y v, t = y :: v ∧ blankB (y.toNat : Int) = false
 | [], _, _, _, _, e => by cases e
 | b :: r, i, x, j, t, e => by
  rw [blkS] at e
  split at e
  ·exact blkS_stop r (i + 1) e
  ·rename_i hb
   cases e
   exact ⟨b, r, rfl, by simpa using hb⟩
theorem piS_more {i : Nat} {r : List UInt8} {q : List UInt8 × List UInt8} {j : Nat} {t : List UInt8} (e : piS i r = .ok q j t) : InsP q.1 q.2 := by
 unfold piS at e
 cases hn : nameS i r with
 | no c p => rw [hn] at e; cases e
 | ok nm j1 t1 =>
  rw [hn, Sx.then_ok] at e
  cases hs : sameS nm [120, 109, 108] with
  | true => rw [hs, if_pos rfl] at e; cases e
  | false =>
   rw [hs, if_neg Bool.false_ne_true] at e
   unfold blanksS at e
   cases hb : blkS j1 t1 with
   | no c p => rw [hb] at e; cases e
   | ok x j2 t2 =>
    rw [hb, Sx.then_ok, Sx.then_ok] at e
    obtain ⟨y, v, hy, hyb⟩ := blkS_stop _ _ hb
    split at e
    ·unfold upToS at e
     cases hc : cutS [63, 62] t2 with
     | none => rw [hc] at e; cases e
     | some c =>
      rw [hc] at e
      dsimp only at e
      rw [Sx.then_ok] at e
      cases e
      refine ⟨hs, eols_mark (by decide) (by decide) _ (cut_before hc), eols_no13 _, fun x u hx => ?_⟩
      have hsp := cutS_split _ hc
      dsimp only at hx
      cases hc1 : c.1 with
      | nil => rw [hc1] at hx; cases hx
      | cons z w =>
       rw [hc1, hy, List.cons_append] at hsp
       injection hsp with hz _
       subst hz
       rw [hc1, eols_cons] at hx
       have h13 : y ≠ 13 := fun e => by rw [e] at hyb; revert hyb; decide
       rw [if_neg h13] at hx
       injection hx with hx _
       rw [← hx]
       exact hyb
    ·cases hm : mustS 63 j2 t2 with
     | no c p => rw [hm] at e; cases e
     | ok x3 j3 t3 =>
      rw [hm, Sx.then_ok] at e
      cases hm2 : mustS 62 j3 t3 with
      | no c p => rw [hm2] at e; cases e
      | ok x4 j4 t4 =>
       rw [hm2, Sx.then_ok] at e
       cases e
       exact ⟨hs, rfl, (fun x hx => by cases hx), fun x v hx => by cases hx⟩
theorem tagG_nodup : ∀ (g : Nat) (ats : List (List UInt8 × List UInt8)) (i : Nat) (r : List UInt8) {q : Nat × List (List UInt8 × List UInt8)} {j : Nat} {t : List UInt8}, (ats.map Prod.fst).Nodup → tagG g ats i r = .ok q j t → (q.2.map Prod.fst).Nodup
 | 0, _, _, _, _, _, _, _, e => by cases e
 | g + 1, ats, i, r, q, j, t, hd, e => by
  rw [tagG] at e
  cases hb : blanksS i r with
  | no c p => rw [hb] at e; cases e
  | ok ap j1 t1 =>
   rw [hb, Sx.then_ok] at e
   cases hp : peekS j1 t1 with
   | no c p => rw [hp] at e; cases e
   | ok x j2 t2 =>
    rw [hp, Sx.then_ok] at e
    split at e
    ·cases hm : mustS 62 (j1 + 1) (t1.drop 1) with
     | no c p => rw [hm] at e; cases e
     | ok x3 j3 t3 => rw [hm, Sx.then_ok] at e; cases e; exact hd
    ·split at e
     ·cases hm : mustS 62 j1 t1 with
      | no c p => rw [hm] at e; cases e
      | ok x3 j3 t3 => rw [hm, Sx.then_ok] at e; cases e; exact hd
     ·split at e
      ·cases e
      ·cases ha : attrS (ats.map Prod.fst) j1 t1 with
       | no c p => rw [ha] at e; cases e
       | ok a j3 t3 =>
        rw [ha, Sx.then_ok] at e
        refine tagG_nodup g (ats ++ [a]) j3 t3 ?_ e
        have hna : a.1 ∉ ats.map Prod.fst := by
         unfold attrS at ha
         cases hn : nameS j1 t1 with
         | no c p => rw [hn] at ha; cases ha
         | ok nm j4 t4 =>
          rw [hn, Sx.then_ok] at ha
          split at ha
          ·cases ha
          ·rename_i hns
           cases h5 : blanksS j4 t4 with
           | no c p => rw [h5] at ha; cases ha
           | ok b5 j5 t5 =>
            rw [h5, Sx.then_ok] at ha
            cases h6 : mustS 61 j5 t5 with
            | no c p => rw [h6] at ha; cases ha
            | ok b6 j6 t6 =>
             rw [h6, Sx.then_ok] at ha
             cases h7 : blanksS j6 t6 with
             | no c p => rw [h7] at ha; cases ha
             | ok b7 j7 t7 =>
              rw [h7, Sx.then_ok] at ha
              cases h8 : valueS j7 t7 with
              | no c p => rw [h8] at ha; cases ha
              | ok v j8 t8 =>
               rw [h8, Sx.then_ok] at ha
               cases ha
               exact hns
        rw [List.map_append, List.nodup_append]
        refine ⟨hd, by simp, fun x hx y hy e2 => ?_⟩
        have hy2 : y = a.1 := by simpa using hy
        rw [e2, hy2] at hx
        exact hna hx
theorem tagG_kind : ∀ (g : Nat) (ats : List (List UInt8 × List UInt8)) (i : Nat) (r : List UInt8) {q : Nat × List (List UInt8 × List UInt8)} {j : Nat} {t : List UInt8}, tagG g ats i r = .ok q j t → q.1 = 1 ∨ q.1 = 2
 | 0, _, _, _, _, _, _, e => by cases e
 | g + 1, ats, i, r, q, j, t, e => by
  rw [tagG] at e
  cases hb : blanksS i r with
  | no c p => rw [hb] at e; cases e
  | ok ap j1 t1 =>
   rw [hb, Sx.then_ok] at e
   cases hp : peekS j1 t1 with
   | no c p => rw [hp] at e; cases e
   | ok x j2 t2 =>
    rw [hp, Sx.then_ok] at e
    split at e
    ·cases hm : mustS 62 (j1 + 1) (t1.drop 1) with
     | no c p => rw [hm] at e; cases e
     | ok x3 j3 t3 => rw [hm, Sx.then_ok] at e; cases e; exact .inr rfl
    ·split at e
     ·cases hm : mustS 62 j1 t1 with
      | no c p => rw [hm] at e; cases e
      | ok x3 j3 t3 => rw [hm, Sx.then_ok] at e; cases e; exact .inl rfl
     ·split at e
      ·cases e
      ·cases ha : attrS (ats.map Prod.fst) j1 t1 with
       | no c p => rw [ha] at e; cases e
       | ok a j3 t3 => rw [ha, Sx.then_ok] at e; exact tagG_kind g (ats ++ [a]) j3 t3 e
structure TkMore (tk : Tk) : Prop where
 dup : (tk.attrs.map Prod.fst).Nodup
 com : tk.kind = 6 → ComP tk.text
 ins : tk.kind = 7 → InsP tk.name tk.text
theorem more_plain {k i : Nat} {nm u : List UInt8} (h6 : k ≠ 6) (h7 : k ≠ 7) : TkMore ⟨k, i, nm, u, []⟩ := ⟨by simp, fun e => absurd e h6, fun e => absurd e h7⟩
theorem lenS_more {s : Sx Bool} {yes : Nat → List UInt8 → Sx Tk} {no : Sx Tk} {i : Nat} {tk : Tk} {j : Nat} {t : List UInt8} (e : lenS i s yes no = .ok tk j t) : (∃ j1 t1, yes j1 t1 = .ok tk j t) ∨ no = .ok tk j t := by
 unfold lenS at e
 cases s with
 | no c p => cases e
 | ok b j1 t1 =>
  rw [Sx.then_ok] at e
  split at e
  ·exact .inl ⟨j1, t1, e⟩
  ·exact .inr e
theorem tokS_more {i : Nat} {r : List UInt8} {tk : Tk} {j : Nat} {t : List UInt8} (e : tokS i r = .ok tk j t) : TkMore tk := by
 unfold tokS at e
 split at e
 ·cases hm : mixS none i r with
  | no c p => rw [hm] at e; cases e
  | ok u j1 t1 => rw [hm, Sx.then_ok] at e; cases e; exact more_plain (by decide) (by decide)
 rcases lenS_more e with ⟨j1, t1, e⟩ | e
 ·cases hm : commentS j1 t1 with
  | no c p => rw [hm] at e; cases e
  | ok u j2 t2 =>
   rw [hm, Sx.then_ok] at e
   cases e
   exact ⟨by simp, fun _ => commentS_more hm, fun e => by cases e⟩
 rcases lenS_more e with ⟨j1, t1, e⟩ | e
 ·cases hm : upToS [93, 93, 62] j1 t1 with
  | no c p => rw [hm] at e; cases e
  | ok u j2 t2 => rw [hm, Sx.then_ok] at e; cases e; exact more_plain (by decide) (by decide)
 rcases lenS_more e with ⟨j1, t1, e⟩ | e
 ·cases e
 rcases lenS_more e with ⟨j1, t1, e⟩ | e
 ·cases hm : piS j1 t1 with
  | no c p => rw [hm] at e; cases e
  | ok q j2 t2 =>
   rw [hm, Sx.then_ok] at e
   cases e
   exact ⟨by simp, (fun e => by cases e), fun _ => piS_more hm⟩
 rcases lenS_more e with ⟨j1, t1, e⟩ | e
 ·cases hm : endTagS j1 t1 with
  | no c p => rw [hm] at e; cases e
  | ok nm j2 t2 => rw [hm, Sx.then_ok] at e; cases e; exact more_plain (by decide) (by decide)
 rcases lenS_more e with ⟨j1, t1, e⟩ | e
 ·cases hm : startS j1 t1 with
  | no c p => rw [hm] at e; cases e
  | ok q j2 t2 =>
   rw [hm, Sx.then_ok] at e
   unfold startS at hm
   cases hn : nameS j1 t1 with
   | no c p => rw [hn] at hm; cases hm
   | ok nm j3 t3 =>
    rw [hn, Sx.then_ok] at hm
    cases ht : tagG (t3.length + 1) [] j3 t3 with
    | no c p => rw [ht] at hm; cases hm
    | ok q2 j4 t4 =>
     rw [ht, Sx.then_ok] at hm
     cases hm
     have hdup := tagG_nodup _ [] _ _ (by simp) ht
     have hk : q2.1 = 1 ∨ q2.1 = 2 := tagG_kind _ _ _ _ ht
     cases e
     exact ⟨hdup, (fun e => by rcases hk with h | h <;> rw [h] at e <;> cases e), (fun e => by rcases hk with h | h <;> rw [h] at e <;> cases e)⟩
 ·cases e
  exact more_plain (by decide) (by decide)
theorem toksG_more : ∀ (g i : Nat) (r : List UInt8) {ts : List Tk} {j : Nat} {t : List UInt8}, toksG g i r = .ok ts j t → ∀ tk ∈ ts, TkMore tk
 | 0, _, _, _, _, _, e => by cases e; intro tk h; cases h
 | g + 1, i, r, ts, j, t, e => by
  rw [toksG] at e
  split at e
  ·cases e; intro tk h; cases h
  ·cases h1 : tokS i r with
   | no c p => rw [h1] at e; cases e
   | ok tk1 j1 t1 =>
    rw [h1, Sx.then_ok] at e
    cases h2 : toksG g j1 t1 with
    | no c p => rw [h2] at e; cases e
    | ok l j2 t2 =>
     rw [h2, Sx.then_ok] at e
     cases e
     intro tk htk
     rcases List.mem_cons.1 htk with rfl | htk
     ·exact tokS_more h1
     ·exact toksG_more g j1 t1 h2 tk htk
theorem frL_app : ∀ (p : Bool) (a b : List Tr), FrL p (a ++ b) ↔ FrL p a ∧ FrL (lastText p a) b
 | p, [], b => by rw [List.nil_append, FrL, lastText, true_and]
 | p, t :: a, b => by rw [List.cons_append, FrL, FrL, frL_app _ a b, lastText]; simp only [and_assoc]
theorem vdL_app : ∀ a b : List Tr, VdL (a ++ b) ↔ VdL a ∧ VdL b
 | [], b => by rw [List.nil_append, VdL, true_and]
 | t :: a, b => by rw [List.cons_append, VdL, VdL, vdL_app a b, and_assoc]
theorem frL_snoc {ks : List Tr} {n : Tr} (h : FrL false ks) (h1 : FrN n) (h2 : n.kind = 2 → lastText false ks = false) : FrL false (ks ++ [n]) := by
 rw [frL_app, FrL, FrL]
 refine ⟨h, h1, fun e => ?_, trivial⟩
 have := h2 e.1
 rw [this] at e
 cases e.2
theorem vdL_snoc {ks : List Tr} {n : Tr} (h : VdL ks) (h1 : VdN n) : VdL (ks ++ [n]) := by
 rw [vdL_app, VdL, VdL]
 exact ⟨h, h1, trivial⟩
theorem onT_fair {t : List UInt8} (ht : t ≠ []) (hok : Ok8 t) : ∀ {p : Bool} {ks ks' : List Tr}, onT t ks = some ks' → FrL p ks → VdL ks → FrL p ks' ∧ VdL ks'
 | p, [], _, e, _, _ => by cases e
 | p, [.mk k n tx a kd], ks', e, h, hv => by
  rw [onT] at e
  split at e
  ·next hk =>
   cases e
   have hk2 : k = 2 := hk
   subst hk2
   rw [FrL, FrL, fr_mk] at h ⊢
   rw [VdL, VdL, vd_mk] at hv ⊢
   simp only [Tr.kind, Tr.name, Tr.text, Tr.attrs, Tr.kids] at h hv ⊢
   obtain ⟨h1, h2, _⟩ := h
   obtain ⟨⟨v1, v2⟩, _⟩ := hv
   refine ⟨⟨?_, h2, trivial⟩, ⟨v1.append hok, v2⟩, trivial⟩
   rcases h1 with ⟨h, _⟩ | ⟨rfl, rfl, ⟨_, hn, _⟩ | ⟨h, _⟩ | ⟨h, _⟩⟩
   ·cases h
   ·exact .inr ⟨rfl, rfl, .inl ⟨rfl, hn, fun e => ht (List.append_eq_nil_iff.1 e).2⟩⟩
   ·cases h
   ·cases h
  ·cases e
 | p, n :: m :: l, ks', e, h, hv => by
  rw [onT] at e
  cases hq : onT t (m :: l) with
  | none => rw [hq] at e; cases e
  | some q =>
   rw [hq] at e
   cases e
   rw [FrL] at h
   rw [VdL] at hv
   obtain ⟨h1, h2⟩ := onT_fair ht hok hq h.2.2 hv.2
   show FrL p (n :: q) ∧ VdL (n :: q)
   rw [FrL, VdL]
   exact ⟨⟨h.1, h.2.1, h1⟩, hv.1, h2⟩
structure HeadOk (n : List UInt8) (ats : List (List UInt8 × List UInt8)) : Prop where
 name : NmOk n
 attrs : ∀ a ∈ ats, NmOk a.1
 vals : ∀ a ∈ ats, Ok8 a.2
 dup : (ats.map Prod.fst).Nodup
theorem HeadOk.tree {n : List UInt8} {ats : List (List UInt8 × List UInt8)} (h : HeadOk n ats) {ks : List Tr} (hf : FrL false ks) (hv : VdL ks) : FrN (.mk 1 n [] ats ks) ∧ VdN (.mk 1 n [] ats ks) := by
 rw [fr_mk, vd_mk]
 exact ⟨.inl ⟨rfl, h.name, rfl, h.attrs, h.dup, hf⟩, .nil, h.vals, hv⟩
structure GrFr (g : Gr) : Prop where
 top : ∀ t ∈ g.top, FrN t ∧ VdN t ∧ t.kind ≠ 2
 frs : ∀ f ∈ g.opens, HeadOk f.name f.attrs ∧ FrL false f.kids ∧ VdL f.kids
theorem GrFr.start : GrFr ⟨[], [], 0⟩ := ⟨(fun _ h => by cases h), (fun _ h => by cases h)⟩
theorem GrFr.put {g : Gr} (h : GrFr g) {n : Tr} (h1 : FrN n) (hv : VdN n) (h2 : n.kind = 2 → lastText false g.inner = false ∧ g.opens ≠ []) : GrFr (g.putS n) := by
 obtain ⟨opens, top, nodes⟩ := g
 cases opens with
 | nil =>
  refine ⟨fun t ht => ?_, fun _ h => by cases h⟩
  rcases List.mem_append.1 ht with h5 | h5
  ·exact h.top t h5
  ·rw [List.mem_singleton.1 h5]
   exact ⟨h1, hv, fun e => (h2 e).2 rfl⟩
 | cons f fs =>
  obtain ⟨f1, f2, f3⟩ := h.frs f (List.mem_cons_self ..)
  refine ⟨h.top, fun x hx => ?_⟩
  rcases List.mem_cons.1 hx with rfl | hx
  ·exact ⟨f1, frL_snoc f2 h1 (fun e => (h2 e).1), vdL_snoc f3 hv⟩
  ·exact h.frs x (List.mem_cons_of_mem _ hx)
theorem GrFr.close {g : Gr} (h : GrFr g) {f : Fr} {fs : List Fr} (ho : g.opens = f :: fs) : GrFr (g.closeS f fs) := by
 obtain ⟨opens, top, nodes⟩ := g
 have ho2 : opens = f :: fs := ho
 subst ho2
 obtain ⟨f1, f2, f3⟩ := h.frs f (List.mem_cons_self ..)
 obtain ⟨n1, n2⟩ := f1.tree f2 f3
 have h0 : GrFr ⟨fs, top, nodes⟩ := ⟨h.top, fun x hx => h.frs x (List.mem_cons_of_mem _ hx)⟩
 cases fs with
 | nil =>
  refine ⟨fun t ht => ?_, fun _ h => by cases h⟩
  rcases List.mem_append.1 ht with h5 | h5
  ·exact h.top t h5
  ·rw [List.mem_singleton.1 h5]
   exact ⟨n1, n2, fun e => by cases e⟩
 | cons f' fs =>
  obtain ⟨g1, g2, g3⟩ := h0.frs f' (List.mem_cons_self ..)
  refine ⟨h.top, fun x hx => ?_⟩
  rcases List.mem_cons.1 hx with rfl | hx
  ·exact ⟨g1, frL_snoc g2 n1 (fun e => by cases e), vdL_snoc g3 n2⟩
  ·exact h0.frs x (List.mem_cons_of_mem _ hx)
theorem GrFr.opened {g : Gr} (h : GrFr g) {n : List UInt8} {ats : List (List UInt8 × List UInt8)} (hh : HeadOk n ats) : GrFr (g.openS n ats) := by
 refine ⟨h.top, fun x hx => ?_⟩
 rcases List.mem_cons.1 hx with rfl | hx
 ·refine ⟨hh, ?_, ?_⟩
  ·show FrL false []
   rw [FrL]; trivial
  ·show VdL []
   rw [VdL]; trivial
 ·exact h.frs x hx
theorem nil_fr (p : Bool) : FrL p [] := by rw [FrL]; trivial
theorem leaf_fair {k : Int} {n t : List UInt8} (h : LeafOk k n t) (hok : Ok8 t) : FrN (.mk k n t [] []) ∧ VdN (.mk k n t [] []) := by
 rw [fr_mk, vd_mk]
 exact ⟨.inr ⟨rfl, rfl, h⟩, hok, (fun _ h => by cases h), nil_vd⟩
theorem head_good {N : Nat} {tk : Tk} (h : TkGood N tk) (hm : TkMore tk) (hk : tk.kind = 1 ∨ tk.kind = 2) : HeadOk tk.name tk.attrs := by
 refine ⟨?_, fun a ha => ?_, fun a ha => (h.attrs a ha).2.1, hm.dup⟩
 ·rcases h.name with ⟨hn, _⟩ | ⟨_, hk2⟩
  ·exact ⟨hn.1.2, hn.1.1⟩
  ·omega
 ·obtain ⟨hn, _⟩ := h.attrs a ha
  exact ⟨hn.1.2, hn.1.1⟩
theorem GrFr.take {g g' : Gr} (h : GrFr g) {N : Nat} {tk : Tk} (ht : TkGood N tk) (hm : TkMore tk) (e : g.takeS tk = .ok g') : GrFr g' := by
 unfold Gr.takeS at e
 split at e
 ·next hk =>
  split at e
  ·cases e
  ·cases hmy : g.mayS 1 tk.attrs.length with
   | some c => rw [hmy] at e; cases e
   | none =>
    rw [hmy] at e
    dsimp only at e
    have hh := head_good ht hm hk
    split at e
    ·cases e
     exact h.opened hh
    ·cases e
     obtain ⟨n1, n2⟩ := hh.tree (nil_fr false) nil_vd
     exact h.put n1 n2 (fun e2 => by cases e2)
 ·next hk =>
  split at e
  ·cases ho : g.opens with
   | nil => rw [ho] at e; cases e
   | cons f fs =>
    rw [ho] at e
    dsimp only at e
    split at e
    ·cases e; exact h.close ho
    ·cases e
  ·next hk3 =>
   split at e
   ·split at e
    ·cases e
    ·split at e
     ·cases e; exact h
     ·next ho2 =>
      have hne : g.opens ≠ [] := fun e2 => ho2 (.inl e2)
      have htx : tk.text ≠ [] := fun e2 => ho2 (.inr e2)
      cases hon : onT tk.text g.inner with
      | some ks =>
       rw [hon] at e
       cases e
       obtain ⟨opens, top, nodes⟩ := g
       cases opens with
       | nil => exact absurd rfl hne
       | cons f fs =>
        obtain ⟨f1, f2, f3⟩ := h.frs f (List.mem_cons_self ..)
        have hon2 : onT tk.text f.kids = some ks := hon
        obtain ⟨h1, h2⟩ := onT_fair htx ht.text.1 hon2 f2 f3
        refine ⟨h.top, fun x hx => ?_⟩
        rcases List.mem_cons.1 hx with rfl | hx
        ·exact ⟨f1, h1, h2⟩
        ·exact h.frs x (List.mem_cons_of_mem _ hx)
      | none =>
       rw [hon] at e
       dsimp only at e
       cases hmy : g.mayS 2 0 with
       | some c => rw [hmy] at e; cases e
       | none =>
        rw [hmy] at e
        cases e
        obtain ⟨n1, n2⟩ := leaf_fair (k := 2) (n := []) (.inl ⟨rfl, rfl, htx⟩) ht.text.1
        refine h.put n1 n2 (fun _ => ⟨?_, hne⟩)
        cases hl : lastText false g.inner with
        | false => rfl
        | true => exact absurd (onT_none hon hl).2 Bool.false_ne_true
   ·next hk4 =>
    split at e
    ·next hk6 =>
     cases hmy : g.mayS 3 0 with
     | some c => rw [hmy] at e; cases e
     | none =>
      rw [hmy] at e
      cases e
      obtain ⟨c1, c2⟩ := hm.com hk6
      obtain ⟨n1, n2⟩ := leaf_fair (k := 3) (n := []) (.inr (.inl ⟨rfl, rfl, c1, c2⟩)) ht.text.1
      exact h.put n1 n2 (fun e2 => by cases e2)
    ·next hk6 =>
     cases hmy : g.mayS 4 0 with
     | some c => rw [hmy] at e; cases e
     | none =>
      rw [hmy] at e
      cases e
      have hk7 : NameP N tk.name ∧ tk.kind = 7 := by
       rcases ht.name with ⟨hn, hq⟩ | ⟨_, hq⟩
       ·exact ⟨hn, by omega⟩
       ·omega
      obtain ⟨c1, c2, c3, c4⟩ := hm.ins hk7.2
      obtain ⟨n1, n2⟩ := leaf_fair (k := 4) (n := tk.name) (.inr (.inr ⟨rfl, ⟨hk7.1.1.2, hk7.1.1.1⟩, c1, c2, c3, c4⟩)) ht.text.1
      exact h.put n1 n2 (fun e2 => by cases e2)
theorem GrFr.grow {N : Nat} : ∀ {ts : List Tk} {g g' : Gr}, GrFr g → (∀ tk ∈ ts, TkGood N tk ∧ TkMore tk) → growS g ts = .ok g' → GrFr g'
 | [], g, g', h, _, e => by cases e; exact h
 | tk :: ts, g, g', h, ht, e => by
  rw [growS] at e
  cases hk : g.takeS tk with
  | error c => rw [hk] at e; cases e
  | ok g2 =>
   rw [hk] at e
   have h1 := ht tk (List.mem_cons_self ..)
   exact GrFr.grow (h.take h1.1 h1.2 hk) (fun x hx => ht x (List.mem_cons_of_mem _ hx)) e
theorem allS_more {b : List UInt8} {ts : List Tk} {j : Nat} {t : List UInt8} (e : allS b = .ok ts j t) : ∀ tk ∈ ts, TkGood b.length tk ∧ TkMore tk := by
 have hs := allS_seq e
 intro tk htk
 obtain ⟨k, hk⟩ := List.getElem?_of_mem htk
 refine ⟨(hs.at k tk hk).2.2.1, ?_⟩
 unfold allS at e
 split at e
 ·cases e
 ·split at e
  ·cases e
  ·cases hd : declS b with
   | no c p => rw [hd] at e; cases e
   | ok x j1 t1 =>
    rw [hd, Sx.then_ok] at e
    exact toksG_more _ _ _ e tk htk
theorem kind_fit {N : Nat} {tk : Tk} (h : TkGood N tk) : tkFit (fun _ => true) tk := by
 refine ⟨?_, ?_, fun _ => rfl⟩
 ·rcases h.name with ⟨_, h⟩ | ⟨_, h⟩ <;> omega
 ·rcases h.name with ⟨_, h⟩ | ⟨_, h⟩ <;> omega
theorem parse_fair {b : List UInt8} {q : List Tr × Tr × List Tr} (e : parseS b = .ok q) : AsideL q.1 ∧ q.2.1.kind = 1 ∧ FrN q.2.1 ∧ AsideL q.2.2 ∧ VdL q.1 ∧ VdN q.2.1 ∧ VdL q.2.2 ∧ cntL q.1 + (q.2.1.count + cntL q.2.2) ≤ 4096 ∧ q.2.1.depth ≤ 32 := by
 unfold parseS at e
 cases ha : allS b with
 | no c p => rw [ha] at e; cases e
 | ok ts j t =>
  rw [ha] at e
  dsimp only at e
  cases hg : growS ⟨[], [], 0⟩ ts with
  | error x => rw [hg] at e; cases e
  | ok g =>
   rw [hg] at e
   dsimp only at e
   have hts := allS_more ha
   have hfr := GrFr.start.grow hts hg
   have hok : GrOk (fun _ => true) g := GrOk.start.grow (fun tk htk => kind_fit (hts tk htk).1) hg
   obtain ⟨b1, _, b3, _, b5, b6⟩ := hok.bounds e
   have htop : g.top = q.1 ++ q.2.1 :: q.2.2 := by
    unfold endS9 at e
    split at e
    ·cases e
    ·cases hq : cutT g.top with
     | none => rw [hq] at e; cases e
     | some q2 =>
      rw [hq] at e
      cases e
      exact (cutT_some hq).1
   have hmem : ∀ t ∈ q.1 ++ q.2.1 :: q.2.2, FrN t ∧ VdN t ∧ t.kind ≠ 2 := fun t ht => hfr.top t (by rw [htop]; exact ht)
   have hvd : ∀ l : List Tr, (∀ t ∈ l, VdN t) → VdL l := by
    intro l
    induction l with
    | nil => intro _; exact nil_vd
    | cons t l ih =>
     intro h
     rw [VdL]
     exact ⟨h t (List.mem_cons_self ..), ih (fun s hs => h s (List.mem_cons_of_mem _ hs))⟩
   have hroot := hmem q.2.1 (by simp)
   refine ⟨fun t ht => ⟨(hmem t (by simp [ht])).1, b5 t ht⟩, b1, hroot.1, fun t ht => ⟨(hmem t (by simp [ht])).1, b6 t ht⟩, hvd _ (fun t ht => (hmem t (by simp [ht])).2.1), hroot.2.1, hvd _ (fun t ht => (hmem t (by simp [ht])).2.1), ?_, b3⟩
   have hc := hok.cnt
   have hm := hok.most
   rw [htop, cntL_app, cntL] at hc
   omega
theorem told_two {s : List UInt8} {n : Nat} (h : toldS s = some n) : 2 ≤ s.length := by
 cases s with
 | nil =>
  have h0 : toldS [] = none := rfl
  rw [h0] at h
  cases h
 | cons a s =>
  cases s with
  | cons b s => simp only [List.length_cons]; omega
  | nil =>
   exfalso
   unfold toldS at h
   rw [if_neg (by simp), if_neg (by simp), if_neg (by simp), if_neg (by simp), if_neg (by simp), if_neg (by simp [List.isPrefixOf])] at h
   split at h
   ·rw [show [a].drop 1 = [] from rfl, numS, if_pos rfl] at h
    cases h
   ·cases h
theorem ref_wt {i : Nat} {r : List UInt8} {n : Nat} {j : Nat} {t : List UInt8} (e : refS i r = .ok n j t) : t.length + 4 ≤ r.length := by
 unfold refS at e
 cases hc : cutS [59] (r.drop 1) with
 | none => rw [hc] at e; cases e
 | some q =>
  rw [hc] at e
  dsimp only at e
  cases ht : toldS q.1 with
  | none => rw [ht] at e; cases e
  | some m =>
   rw [ht] at e
   cases e
   have h1 := told_two ht
   have h2 := congrArg List.length (cutS_split _ hc)
   simp only [List.length_append, List.length_drop, List.length_cons, List.length_nil] at h2
   omega
theorem mixG_wt (q : Option UInt8) : ∀ (g i : Nat) (r : List UInt8) {v : List UInt8} {j : Nat} {t : List UInt8}, mixG q g i r = .ok v j t → v.length + t.length ≤ r.length
 | 0, _, _, _, _, _, e => by cases e
 | g + 1, i, r, v, j, t, e => by
  rw [mixG] at e
  have hrr := congrArg List.length (run_rest9 q r)
  rw [List.length_append] at hrr
  split at e
  ·cases e
  ·next t0 ht0 =>
   have h0 := turnS_len ht0
   split at e
   ·cases hr : refS (i + (runS q r).length) (restS q r) with
    | no c p => rw [hr] at e; cases e
    | ok n j2 t2 =>
     have hs := ref_wt hr
     rw [hr, Sx.then_ok] at e
     cases hm : mixG q g j2 t2 with
     | no c p => rw [hm] at e; cases e
     | ok v2 j3 t3 =>
      rw [hm, Sx.then_ok] at e
      cases e
      have h1 := mixG_wt q g j2 t2 hm
      have h4 := encB_len4 n
      rw [List.length_append, List.length_append]
      omega
   ·cases e
    omega
theorem must_wt {c : UInt8} {i : Nat} {r : List UInt8} {x : Unit} {j : Nat} {t : List UInt8} (e : mustS c i r = .ok x j t) : t.length + 1 ≤ r.length := by
 cases r with
 | nil => cases e
 | cons y r =>
  rw [mustS] at e
  split at e
  ·cases e; exact Nat.le_refl _
  ·cases e
theorem blk_wt : ∀ (r : List UInt8) (i : Nat) {x : Unit} {j : Nat} {t : List UInt8}, blkS i r = .ok x j t → t.length ≤ r.length
 | [], _, _, _, _, e => by cases e
 | b :: r, i, x, j, t, e => by
  rw [blkS] at e
  split at e
  ·have := blk_wt r (i + 1) e
   rw [List.length_cons]
   omega
  ·cases e
   exact Nat.le_refl _
theorem blanks_wt {i : Nat} {r : List UInt8} {x : Bool} {j : Nat} {t : List UInt8} (e : blanksS i r = .ok x j t) : t.length ≤ r.length := by
 unfold blanksS at e
 cases hb : blkS i r with
 | no c p => rw [hb] at e; cases e
 | ok y j1 t1 =>
  rw [hb, Sx.then_ok] at e
  cases e
  exact blk_wt _ _ hb
theorem nmG_wt : ∀ (g : Nat) (fb : Bool) (i : Nat) (r : List UInt8) {x : Unit} {j : Nat} {t : List UInt8}, nmG g fb i r = .ok x j t → i ≤ j ∧ t = r.drop (j - i)
 | 0, _, _, _, _, _, _, e => by cases e
 | g + 1, fb, i, r, x, j, t, e => by
  rw [nmG] at e
  split at e
  ·cases e
  ·split at e
   ·obtain ⟨h1, h2⟩ := nmG_wt g false _ _ e
    refine ⟨by omega, ?_⟩
    rw [h2, List.drop_drop]
    congr 1
    omega
   ·cases e
    exact ⟨Nat.le_refl _, by rw [Nat.sub_self]; rfl⟩
theorem name_wt {i : Nat} {r nm : List UInt8} {j : Nat} {t : List UInt8} (e : nameS i r = .ok nm j t) : nm.length + t.length = r.length := by
 unfold nameS at e
 cases hn : nmG r.length true i r with
 | no c p => rw [hn] at e; cases e
 | ok x j1 t1 =>
  rw [hn, Sx.then_ok] at e
  split at e
  ·cases e
  ·cases e
   rw [(nmG_wt _ _ _ _ hn).2, List.length_take, List.length_drop]
   omega
theorem value_wt {i : Nat} {r v : List UInt8} {j : Nat} {t : List UInt8} (e : valueS i r = .ok v j t) : v.length + t.length + 2 ≤ r.length := by
 unfold valueS at e
 cases r with
 | nil => cases e
 | cons x r =>
  rw [show peekS i (x :: r) = .ok x i (x :: r) from rfl, Sx.then_ok] at e
  split at e
  ·cases e
  ·cases hm : mixS (some x) (i + 1) ((x :: r).drop 1) with
   | no c p => rw [hm] at e; cases e
   | ok u j1 t1 =>
    rw [hm, Sx.then_ok] at e
    cases hq : mustS x j1 t1 with
    | no c p => rw [hq] at e; cases e
    | ok y j2 t2 =>
     rw [hq, Sx.then_ok] at e
     cases e
     have h1 := mixG_wt _ _ _ _ hm
     have h2 := must_wt hq
     rw [List.drop_succ_cons, List.drop_zero] at h1
     rw [List.length_cons]
     omega
theorem attr_wt {seen : List (List UInt8)} {i : Nat} {r : List UInt8} {a : List UInt8 × List UInt8} {j : Nat} {t : List UInt8} (e : attrS seen i r = .ok a j t) : (attrB a).length + 6 * t.length ≤ 6 * r.length := by
 unfold attrS at e
 cases hn : nameS i r with
 | no c p => rw [hn] at e; cases e
 | ok nm j4 t4 =>
  rw [hn, Sx.then_ok] at e
  split at e
  ·cases e
  ·cases h5 : blanksS j4 t4 with
   | no c p => rw [h5] at e; cases e
   | ok b5 j5 t5 =>
    rw [h5, Sx.then_ok] at e
    cases h6 : mustS 61 j5 t5 with
    | no c p => rw [h6] at e; cases e
    | ok b6 j6 t6 =>
     rw [h6, Sx.then_ok] at e
     cases h7 : blanksS j6 t6 with
     | no c p => rw [h7] at e; cases e
     | ok b7 j7 t7 =>
      rw [h7, Sx.then_ok] at e
      cases h8 : valueS j7 t7 with
      | no c p => rw [h8] at e; cases e
      | ok v j8 t8 =>
       rw [h8, Sx.then_ok] at e
       cases e
       have w1 := name_wt hn
       have w2 := blanks_wt h5
       have w3 := must_wt h6
       have w4 := blanks_wt h7
       have w5 := value_wt h8
       have w6 := esc_six true v
       unfold attrB
       simp only [List.length_append, List.length_cons, List.length_nil]
       omega
theorem attrsB_app (a b : List (List UInt8 × List UInt8)) : attrsB (a ++ b) = attrsB a ++ attrsB b := List.flatMap_append
theorem tag_wt : ∀ (g : Nat) (ats : List (List UInt8 × List UInt8)) (i : Nat) (r : List UInt8) {q : Nat × List (List UInt8 × List UInt8)} {j : Nat} {t : List UInt8}, tagG g ats i r = .ok q j t → (attrsB q.2).length + 6 * t.length + 6 ≤ (attrsB ats).length + 6 * r.length
 | 0, _, _, _, _, _, _, e => by cases e
 | g + 1, ats, i, r, q, j, t, e => by
  rw [tagG] at e
  cases hb : blanksS i r with
  | no c p => rw [hb] at e; cases e
  | ok ap j1 t1 =>
   rw [hb, Sx.then_ok] at e
   have w1 := blanks_wt hb
   cases hp : peekS j1 t1 with
   | no c p => rw [hp] at e; cases e
   | ok x j2 t2 =>
    rw [hp, Sx.then_ok] at e
    split at e
    ·cases hm : mustS 62 (j1 + 1) (t1.drop 1) with
     | no c p => rw [hm] at e; cases e
     | ok x3 j3 t3 =>
      have w2 := must_wt hm
      rw [List.length_drop] at w2
      rw [hm, Sx.then_ok] at e
      cases e
      dsimp only
      omega
    ·split at e
     ·cases hm : mustS 62 j1 t1 with
      | no c p => rw [hm] at e; cases e
      | ok x3 j3 t3 =>
       have w2 := must_wt hm
       rw [hm, Sx.then_ok] at e
       cases e
       dsimp only
       omega
     ·split at e
      ·cases e
      ·cases ha : attrS (ats.map Prod.fst) j1 t1 with
       | no c p => rw [ha] at e; cases e
       | ok a j3 t3 =>
        rw [ha, Sx.then_ok] at e
        have w2 := attr_wt ha
        have w3 := tag_wt g (ats ++ [a]) j3 t3 e
        rw [attrsB_app, attrsB_one, List.length_append] at w3
        omega
def wtk (tk : Tk) : Nat :=
 if tk.kind = 1 ∨ tk.kind = 2 then 3 + tk.name.length + (attrsB tk.attrs).length
 else if tk.kind = 3 then 3 + tk.name.length
 else if tk.kind = 4 ∨ tk.kind = 5 then (escS false tk.text).length
 else if tk.kind = 6 then 7 + tk.text.length
 else if tk.kind = 7 then 5 + tk.name.length + tk.text.length else 0
theorem upTo_wt {m : List UInt8} {i : Nat} {r u : List UInt8} {j : Nat} {t : List UInt8} (e : upToS m i r = .ok u j t) : u.length + m.length + t.length ≤ r.length := by
 unfold upToS at e
 cases hc : cutS m r with
 | none => rw [hc] at e; cases e
 | some q =>
  rw [hc] at e
  cases e
  have h := congrArg List.length (cutS_split _ hc)
  have := eols_length q.1
  rw [List.length_append, List.length_append] at h
  omega
theorem lenS_wt {m r : List UInt8} {yes : Nat → List UInt8 → Sx Tk} {no : Sx Tk} {i : Nat} {tk : Tk} {j : Nat} {t : List UInt8} (e : lenS i (opensS m i r) yes no = .ok tk j t) : (∃ j1 t1, t1.length + m.length = r.length ∧ yes j1 t1 = .ok tk j t) ∨ no = .ok tk j t := by
 unfold lenS at e
 cases ho : opensS m i r with
 | no c p => rw [ho] at e; cases e
 | ok b j1 t1 =>
  rw [ho, Sx.then_ok] at e
  split at e
  ·next hb =>
   rw [hb] at ho
   have h := congrArg List.length (opens_yes ho).1
   rw [List.length_append] at h
   exact .inl ⟨j1, t1, by omega, e⟩
  ·exact .inr e
theorem tok_wt {i : Nat} {r : List UInt8} {tk : Tk} {j : Nat} {t : List UInt8} (e : tokS i r = .ok tk j t) : wtk tk + 6 * t.length ≤ 6 * r.length := by
 unfold tokS at e
 split at e
 ·cases hm : mixS none i r with
  | no c p => rw [hm] at e; cases e
  | ok u j1 t1 =>
   rw [hm, Sx.then_ok] at e
   cases e
   have h1 := mixG_wt _ _ _ _ hm
   have h2 := esc_six false u
   show (escS false u).length + _ ≤ _
   omega
 rcases lenS_wt e with ⟨j1, t1, hl, e⟩ | e
 ·cases hm : commentS j1 t1 with
  | no c p => rw [hm] at e; cases e
  | ok u j2 t2 =>
   rw [hm, Sx.then_ok] at e
   cases e
   unfold commentS at hm
   cases hu : upToS [45, 45] j1 t1 with
   | no c p => rw [hu] at hm; cases hm
   | ok u1 j3 t3 =>
    have h1 := upTo_wt hu
    rw [hu, Sx.then_ok] at hm
    cases t3 with
    | nil => cases hm
    | cons y t3 =>
     rw [show peekS j3 (y :: t3) = .ok y j3 (y :: t3) from rfl, Sx.then_ok] at hm
     split at hm
     ·cases hm
     ·cases hm
      show 7 + u.length + 6 * t3.length ≤ _
      simp only [List.length_cons, List.length_nil] at h1 hl
      omega
 rcases lenS_wt e with ⟨j1, t1, hl, e⟩ | e
 ·cases hm : upToS [93, 93, 62] j1 t1 with
  | no c p => rw [hm] at e; cases e
  | ok u j2 t2 =>
   rw [hm, Sx.then_ok] at e
   cases e
   have h1 := upTo_wt hm
   have h2 := esc_six false u
   show (escS false u).length + _ ≤ _
   omega
 rcases lenS_wt e with ⟨j1, t1, hl, e⟩ | e
 ·cases e
 rcases lenS_wt e with ⟨j1, t1, hl, e⟩ | e
 ·cases hm : piS j1 t1 with
  | no c p => rw [hm] at e; cases e
  | ok q j2 t2 =>
   rw [hm, Sx.then_ok] at e
   cases e
   show 5 + q.1.length + q.2.length + 6 * t.length ≤ _
   simp only [List.length_cons, List.length_nil] at hl
   unfold piS at hm
   cases hn : nameS j1 t1 with
   | no c p => rw [hn] at hm; cases hm
   | ok nm j3 t3 =>
    have h1 := name_wt hn
    rw [hn, Sx.then_ok] at hm
    split at hm
    ·cases hm
    ·cases hb : blanksS j3 t3 with
     | no c p => rw [hb] at hm; cases hm
     | ok b j4 t4 =>
      have h2 := blanks_wt hb
      rw [hb, Sx.then_ok] at hm
      split at hm
      ·cases hu : upToS [63, 62] j4 t4 with
       | no c p => rw [hu] at hm; cases hm
       | ok u j5 t5 =>
        have h3 := upTo_wt hu
        rw [hu, Sx.then_ok] at hm
        cases hm
        simp only [List.length_cons, List.length_nil] at h3
        dsimp only
        omega
      ·cases hu : mustS 63 j4 t4 with
       | no c p => rw [hu] at hm; cases hm
       | ok u j5 t5 =>
        have h3 := must_wt hu
        rw [hu, Sx.then_ok] at hm
        cases hv : mustS 62 j5 t5 with
        | no c p => rw [hv] at hm; cases hm
        | ok u2 j6 t6 =>
         have h4 := must_wt hv
         rw [hv, Sx.then_ok] at hm
         cases hm
         dsimp only
         rw [List.length_nil]
         omega
 rcases lenS_wt e with ⟨j1, t1, hl, e⟩ | e
 ·cases hm : endTagS j1 t1 with
  | no c p => rw [hm] at e; cases e
  | ok nm j2 t2 =>
   rw [hm, Sx.then_ok] at e
   cases e
   show 3 + nm.length + 6 * t.length ≤ _
   simp only [List.length_cons, List.length_nil] at hl
   unfold endTagS at hm
   cases hn : nameS j1 t1 with
   | no c p => rw [hn] at hm; cases hm
   | ok nm2 j3 t3 =>
    have h1 := name_wt hn
    rw [hn, Sx.then_ok] at hm
    cases hb : blanksS j3 t3 with
    | no c p => rw [hb] at hm; cases hm
    | ok b j4 t4 =>
     have h2 := blanks_wt hb
     rw [hb, Sx.then_ok] at hm
     cases hv : mustS 62 j4 t4 with
     | no c p => rw [hv] at hm; cases hm
     | ok u2 j6 t6 =>
      have h4 := must_wt hv
      rw [hv, Sx.then_ok] at hm
      cases hm
      omega
 rcases lenS_wt e with ⟨j1, t1, hl, e⟩ | e
 ·cases hm : startS j1 t1 with
  | no c p => rw [hm] at e; cases e
  | ok q j2 t2 =>
   rw [hm, Sx.then_ok] at e
   unfold startS at hm
   cases hn : nameS j1 t1 with
   | no c p => rw [hn] at hm; cases hm
   | ok nm j3 t3 =>
    have h1 := name_wt hn
    rw [hn, Sx.then_ok] at hm
    cases ht : tagG (t3.length + 1) [] j3 t3 with
    | no c p => rw [ht] at hm; cases hm
    | ok q2 j4 t4 =>
     rw [ht, Sx.then_ok] at hm
     cases hm
     have h2 := tag_wt _ [] _ _ ht
     have hk : q2.1 = 1 ∨ q2.1 = 2 := tagG_kind _ _ _ _ ht
     cases e
     have h0 : (attrsB []).length = 0 := rfl
     unfold wtk
     rw [if_pos hk]
     simp only [List.length_cons, List.length_nil] at hl
     dsimp only
     omega
 ·cases e
  show 0 + _ ≤ _
  omega
def wtks : List Tk → Nat
 | [] => 0
 | tk :: ts => wtk tk + wtks ts
theorem toks_wt : ∀ (g i : Nat) (r : List UInt8) {ts : List Tk} {j : Nat} {t : List UInt8}, toksG g i r = .ok ts j t → wtks ts ≤ 6 * r.length
 | 0, _, _, _, _, _, e => by cases e; exact Nat.zero_le _
 | g + 1, i, r, ts, j, t, e => by
  rw [toksG] at e
  split at e
  ·cases e; exact Nat.zero_le _
  ·cases h1 : tokS i r with
   | no c p => rw [h1] at e; cases e
   | ok tk1 j1 t1 =>
    rw [h1, Sx.then_ok] at e
    cases h2 : toksG g j1 t1 with
    | no c p => rw [h2] at e; cases e
    | ok l j2 t2 =>
     rw [h2, Sx.then_ok] at e
     cases e
     have w1 := tok_wt h1
     have w2 := toks_wt g j1 t1 h2
     show wtk tk1 + wtks l ≤ _
     omega
theorem ite_or {α : Type} {c : Prop} [Decidable c] {a b x : α} (h : (if c then a else b) = x) : a = x ∨ b = x := by
 split at h
 ·exact .inl h
 ·exact .inr h
theorem all_wt {b : List UInt8} {ts : List Tk} {j : Nat} {t : List UInt8} (e : allS b = .ok ts j t) : wtks ts ≤ 6 * b.length := by
 unfold allS at e
 split at e
 ·cases e
 ·split at e
  ·cases e
  ·cases hd : declS b with
   | no c p => rw [hd] at e; cases e
   | ok x j1 t1 =>
    rw [hd, Sx.then_ok] at e
    have h1 := toks_wt _ _ _ e
    have h2 : t1.length ≤ b.length := by
     unfold declS at hd
     rcases ite_or hd with hd | hd
     ·cases hu : upToS [63, 62] 5 (b.drop 5) with
      | no c p => rw [hu] at hd; cases hd
      | ok u j2 t2 =>
       have h3 := upTo_wt hu
       rw [hu, Sx.then_ok] at hd
       rw [List.length_drop] at h3
       split at hd
       ·cases hd; omega
       ·cases hd
     ·cases hd; exact Nat.le_refl _
    omega
def wtF : List Fr → Nat
 | [] => 0
 | f :: fs => 3 + f.name.length + (attrsB f.attrs).length + (wrL f.kids).length + wtF fs
def wtG (g : Gr) : Nat := wtF g.opens + (wrL g.top).length
theorem put_wt (g : Gr) (n : Tr) : wtG (g.putS n) = wtG g + (wrN n).length := by
 obtain ⟨opens, top, nodes⟩ := g
 cases opens with
 | nil =>
  show wtF [] + (wrL (top ++ [n])).length = wtF [] + (wrL top).length + _
  rw [wrL_app, wrL_one, List.length_append]
  omega
 | cons f fs =>
  show 3 + f.name.length + (attrsB f.attrs).length + (wrL (f.kids ++ [n])).length + wtF fs + (wrL top).length = 3 + f.name.length + (attrsB f.attrs).length + (wrL f.kids).length + wtF fs + (wrL top).length + _
  rw [wrL_app, wrL_one, List.length_append]
  omega
theorem close_wt (f : Fr) (fs : List Fr) (top : List Tr) (m : Nat) : wtG (Gr.closeS ⟨f :: fs, top, m⟩ f fs) ≤ wtG ⟨f :: fs, top, m⟩ + (3 + f.name.length) := by
 have h : wtG (Gr.closeS ⟨f :: fs, top, m⟩ f fs) = wtG ⟨fs, top, m⟩ + (wrN (.mk 1 f.name [] f.attrs f.kids)).length := by
  rw [← put_wt]
  cases fs <;> rfl
 rw [h]
 have h2 : (wrN (.mk 1 f.name [] f.attrs f.kids)).length ≤ 5 + 2 * f.name.length + (attrsB f.attrs).length + (wrL f.kids).length := by
  rw [wr_mk, if_pos rfl]
  split
  ·simp only [List.length_append, List.length_cons, List.length_nil]
   omega
  ·simp only [List.length_append, List.length_cons, List.length_nil]
   omega
 show wtF fs + (wrL top).length + _ ≤ 3 + f.name.length + (attrsB f.attrs).length + (wrL f.kids).length + wtF fs + (wrL top).length + _
 omega
theorem onT_wt {t : List UInt8} : ∀ {ks ks' : List Tr}, onT t ks = some ks' → (wrL ks').length = (wrL ks).length + (escS false t).length
 | [], _, e => by cases e
 | [.mk k n tx a kd], ks', e => by
  rw [onT] at e
  split at e
  ·next hk =>
   cases e
   have hk2 : k = 2 := hk
   subst hk2
   rw [wrL_one, wrL_one]
   show (wrN (.mk 2 n (tx ++ t) a kd)).length = _
   rw [wr_mk, wr_mk, if_neg (by decide), if_pos rfl, if_neg (by decide), if_pos rfl, esc_app, List.length_append]
  ·cases e
 | n :: m :: l, ks', e => by
  rw [onT] at e
  cases hq : onT t (m :: l) with
  | none => rw [hq] at e; cases e
  | some q =>
   rw [hq] at e
   cases e
   have := onT_wt hq
   show (wrL (n :: q)).length = (wrL (n :: m :: l)).length + _
   rw [wrL, wrL, List.length_append, List.length_append, this]
   omega
theorem take_wt {g g' : Gr} {N : Nat} {tk : Tk} (ht : TkGood N tk) (e : g.takeS tk = .ok g') : wtG g' ≤ wtG g + wtk tk := by
 unfold Gr.takeS at e
 split at e
 ·next hk =>
  have hw : wtk tk = 3 + tk.name.length + (attrsB tk.attrs).length := by unfold wtk; rw [if_pos hk]
  split at e
  ·cases e
  ·cases hmy : g.mayS 1 tk.attrs.length with
   | some c => rw [hmy] at e; cases e
   | none =>
    rw [hmy] at e
    dsimp only at e
    split at e
    ·cases e
     show 3 + tk.name.length + (attrsB tk.attrs).length + (wrL []).length + wtF g.opens + (wrL g.top).length ≤ wtF g.opens + (wrL g.top).length + wtk tk
     rw [wrL, List.length_nil]
     omega
    ·cases e
     rw [put_wt, wr_mk, if_pos rfl, if_pos (by rfl)]
     simp only [List.length_append, List.length_cons, List.length_nil]
     omega
 ·next hk =>
  split at e
  ·next hk3 =>
   have hw : wtk tk = 3 + tk.name.length := by unfold wtk; rw [if_neg hk, if_pos hk3]
   obtain ⟨opens, top, nodes⟩ := g
   cases opens with
   | nil => cases e
   | cons f fs =>
    dsimp only at e
    split at e
    ·next hn =>
     cases e
     have := close_wt f fs top nodes
     rw [hw, ← hn]
     exact this
    ·cases e
  ·next hk3 =>
   split at e
   ·next hk4 =>
    have hw : wtk tk = (escS false tk.text).length := by unfold wtk; rw [if_neg hk, if_neg hk3, if_pos hk4]
    split at e
    ·cases e
    ·split at e
     ·cases e; exact Nat.le_add_right _ _
     ·next ho2 =>
      have hne : g.opens ≠ [] := fun e2 => ho2 (.inl e2)
      cases hon : onT tk.text g.inner with
      | some ks =>
       rw [hon] at e
       cases e
       obtain ⟨opens, top, nodes⟩ := g
       cases opens with
       | nil => exact absurd rfl hne
       | cons f fs =>
        have hon2 : onT tk.text f.kids = some ks := hon
        have h1 := onT_wt hon2
        show 3 + f.name.length + (attrsB f.attrs).length + (wrL ks).length + wtF fs + (wrL top).length ≤ 3 + f.name.length + (attrsB f.attrs).length + (wrL f.kids).length + wtF fs + (wrL top).length + _
        omega
      | none =>
       rw [hon] at e
       dsimp only at e
       cases hmy : g.mayS 2 0 with
       | some c => rw [hmy] at e; cases e
       | none =>
        rw [hmy] at e
        cases e
        rw [put_wt, wr_mk, if_neg (by decide), if_pos rfl]
        omega
   ·next hk4 =>
    split at e
    ·next hk6 =>
     have hw : wtk tk = 7 + tk.text.length := by unfold wtk; rw [if_neg hk, if_neg hk3, if_neg hk4, if_pos hk6]
     cases hmy : g.mayS 3 0 with
     | some c => rw [hmy] at e; cases e
     | none =>
      rw [hmy] at e
      cases e
      rw [put_wt, wr_mk, if_neg (by decide), if_neg (by decide), if_pos rfl]
      simp only [List.length_append, List.length_cons, List.length_nil]
      omega
    ·next hk6 =>
     have hk7 : tk.kind = 7 := by rcases ht.name with ⟨_, hq⟩ | ⟨_, hq⟩ <;> omega
     have hw : wtk tk = 5 + tk.name.length + tk.text.length := by unfold wtk; rw [if_neg hk, if_neg hk3, if_neg hk4, if_neg hk6, if_pos hk7]
     cases hmy : g.mayS 4 0 with
     | some c => rw [hmy] at e; cases e
     | none =>
      rw [hmy] at e
      cases e
      rw [put_wt, wr_mk, if_neg (by decide), if_neg (by decide), if_neg (by decide), if_pos rfl]
      split
      ·simp only [List.length_append, List.length_cons, List.length_nil]
       omega
      ·simp only [List.length_append, List.length_cons, List.length_nil]
       omega
theorem grow_wt {N : Nat} : ∀ {ts : List Tk} {g g' : Gr}, (∀ tk ∈ ts, TkGood N tk) → growS g ts = .ok g' → wtG g' ≤ wtG g + wtks ts
 | [], g, g', _, e => by cases e; exact Nat.le_refl _
 | tk :: ts, g, g', ht, e => by
  rw [growS] at e
  cases hk : g.takeS tk with
  | error c => rw [hk] at e; cases e
  | ok g2 =>
   rw [hk] at e
   have h1 := take_wt (ht tk (List.mem_cons_self ..)) hk
   have h2 := grow_wt (fun x hx => ht x (List.mem_cons_of_mem _ hx)) e
   show wtG g' ≤ wtG g + (wtk tk + wtks ts)
   omega
theorem parse_wt {b : List UInt8} {q : List Tr × Tr × List Tr} (e : parseS b = .ok q) : (wrD q.1 q.2.1 q.2.2).length ≤ 6 * b.length := by
 unfold parseS at e
 cases ha : allS b with
 | no c p => rw [ha] at e; cases e
 | ok ts j t =>
  rw [ha] at e
  dsimp only at e
  cases hg : growS ⟨[], [], 0⟩ ts with
  | error x => rw [hg] at e; cases e
  | ok g =>
   rw [hg] at e
   dsimp only at e
   have h1 := grow_wt (fun tk htk => (allS_more ha tk htk).1) hg
   have h2 := all_wt ha
   have h0 : wtG ⟨[], [], 0⟩ = 0 := by show 0 + (wrL []).length = 0; rw [wrL]; rfl
   have htop : g.top = q.1 ++ q.2.1 :: q.2.2 := by
    unfold endS9 at e
    split at e
    ·cases e
    ·cases hq : cutT g.top with
     | none => rw [hq] at e; cases e
     | some q2 =>
      rw [hq] at e
      cases e
      exact (cutT_some hq).1
   have h3 : (wrL g.top).length ≤ wtG g := Nat.le_add_left _ _
   rw [htop, wrL_app, wrL] at h3
   unfold wrD
   omega
theorem parsed_back {b : List UInt8} (hb : b.length ≤ 8192) {q : List Tr × Tr × List Tr} (e : parseS b = .ok q) : parseS (wrD q.1 q.2.1 q.2.2) = .ok q := by
 obtain ⟨f1, f2, f3, f4, v1, v2, v3, hc, hd⟩ := parse_fair e
 have hw := parse_wt e
 exact written_back f1 f2 f3 f4 v1 v2 v3 hc hd (by omega)
theorem parsed_may {b : List UInt8} (hb : b.length ≤ 8192) {q : List Tr × Tr × List Tr} (e : parseS b = .ok q) : mayB q.1 q.2.1 q.2.2 = true := by
 obtain ⟨f1, f2, f3, f4, v1, v2, v3, hc, hd⟩ := parse_fair e
 have hw := parse_wt e
 unfold mayB
 simp only [Bool.and_eq_true, decide_eq_true_iff, beq_iff_eq]
 rw [aside_count f1, aside_count f4] at hc
 exact ⟨⟨⟨⟨⟨⟨(aside_iff _).2 ⟨f1, v1⟩, (aside_iff _).2 ⟨f4, v3⟩⟩, f2⟩, (fairT_iff _).2 ⟨f3, v2⟩⟩, by omega⟩, hd⟩, by omega⟩
end Go.Proofs.YtjpkkflhcjjefaaGreatDoor
