/-
 Documents, written: all of it XML has, and they are parsed to what was written.
-/
import Derived.Test.YtjpkkflhcjjefaaGreatDoorOG
import Derived.Test.YtjpkkflhcjjefaaGreatDoorXTa2
namespace Go.Proofs.YtjpkkflhcjjefaaGreatDoor
open Go.RowKit Go.Lib Go.Joins
mutual
def wrN : Tr → List UInt8
 | .mk k n t ats ks => if k = 1 then 60 :: (n ++ (attrsB ats ++ (if ks.isEmpty then [47, 62] else 62 :: (wrL ks ++ 60 :: 47 :: (n ++ [62])))))
  else if k = 2 then escS false t else if k = 3 then 60 :: 33 :: 45 :: 45 :: (t ++ [45, 45, 62])
  else if k = 4 then 60 :: 63 :: (n ++ ((if t = [] then [] else 32 :: t) ++ [63, 62])) else []
def wrL : List Tr → List UInt8
 | [] => []
 | t :: ts => wrN t ++ wrL ts
end
def LeafOk (k : Int) (n t : List UInt8) : Prop :=
 (k = 2 ∧ n = [] ∧ t ≠ []) ∨ (k = 3 ∧ n = [] ∧ cutS [45, 45] (t ++ [45]) = none ∧ ∀ x ∈ t, x ≠ 13) ∨
 (k = 4 ∧ NmOk n ∧ sameS n [120, 109, 108] = false ∧ cutS [63, 62] t = none ∧ (∀ x ∈ t, x ≠ 13) ∧ ∀ x u, t = x :: u → blankB (x.toNat : Int) = false)
mutual
def FrN : Tr → Prop
 | .mk k n t ats ks => (k = 1 ∧ NmOk n ∧ t = [] ∧ (∀ a ∈ ats, NmOk a.1) ∧ (ats.map Prod.fst).Nodup ∧ FrL false ks) ∨ (ats = [] ∧ ks = [] ∧ LeafOk k n t)
def FrL : Bool → List Tr → Prop
 | _, [] => True
 | p, t :: ts => FrN t ∧ ¬ (t.kind = 2 ∧ p = true) ∧ FrL (t.kind == 2) ts
end
theorem wr_mk (k : Int) (n t : List UInt8) (ats : List (List UInt8 × List UInt8)) (ks : List Tr) : wrN (.mk k n t ats ks) = if k = 1 then 60 :: (n ++ (attrsB ats ++ (if ks.isEmpty then [47, 62] else 62 :: (wrL ks ++ 60 :: 47 :: (n ++ [62])))))
  else if k = 2 then escS false t else if k = 3 then 60 :: 33 :: 45 :: 45 :: (t ++ [45, 45, 62])
  else if k = 4 then 60 :: 63 :: (n ++ ((if t = [] then [] else 32 :: t) ++ [63, 62])) else [] := by rw [wrN]
theorem fr_mk (k : Int) (n t : List UInt8) (ats : List (List UInt8 × List UInt8)) (ks : List Tr) : FrN (.mk k n t ats ks) = ((k = 1 ∧ NmOk n ∧ t = [] ∧ (∀ a ∈ ats, NmOk a.1) ∧ (ats.map Prod.fst).Nodup ∧ FrL false ks) ∨ (ats = [] ∧ ks = [] ∧ LeafOk k n t)) := by rw [FrN]
inductive Run : Nat → List UInt8 → List Tk → Nat → List UInt8 → Prop
 | nil (i : Nat) (r : List UInt8) : Run i r [] i r
 | cons (i : Nat) (r : List UInt8) (tk : Tk) (j : Nat) (t : List UInt8) (ts : List Tk) (k : Nat) (u : List UInt8) (h : tokS i r = .ok tk j t) (hl : t.length < r.length) (hr : Run j t ts k u) : Run i r (tk :: ts) k u
theorem Run.trans {i : Nat} {r : List UInt8} {ts : List Tk} {j : Nat} {t : List UInt8} (h : Run i r ts j t) {us : List Tk} {k : Nat} {u : List UInt8} (h2 : Run j t us k u) : Run i r (ts ++ us) k u := by
 induction h with
 | nil i r => exact h2
 | cons i r tk j t ts k u h hl _ ih => exact .cons i r tk j t _ _ _ h hl (ih h2)
theorem Run.one {i : Nat} {r : List UInt8} {tk : Tk} {j : Nat} {t : List UInt8} (h : tokS i r = .ok tk j t) (hl : t.length < r.length) : Run i r [tk] j t := .cons i r tk j t [] j t h hl (.nil j t)
theorem Run.toks {i : Nat} {r : List UInt8} {ts : List Tk} {k : Nat} {u : List UInt8} (h : Run i r ts k u) : u = [] → ∀ g, r.length ≤ g → toksG g i r = .ok ts k [] := by
 induction h with
 | nil i r =>
  rintro rfl g _
  cases g with
  | zero => rfl
  | succ g => rw [toksG, if_pos rfl]
 | cons i r tk j t ts k u h hl _ ih =>
  intro hu g hg
  obtain ⟨g, rfl⟩ : ∃ n, g = n + 1 := ⟨g - 1, by omega⟩
  have hne : r ≠ [] := fun e => by rw [e] at hl; exact Nat.not_lt_zero _ hl
  rw [toksG, if_neg hne, h, Sx.then_ok, ih hu g (by omega), Sx.then_ok]
theorem count_mk0 (k : Int) (n t : List UInt8) (a : List (List UInt8 × List UInt8)) : (Tr.mk k n t a []).count = 1 + a.length := by rw [Tr.count, cntL, Nat.add_zero]
def Gr.addS (g : Gr) (t : Tr) : Gr := let h := g.setInner (g.inner ++ [t]); ⟨h.opens, h.top, g.nodes + t.count⟩
def lastT (l : List Tr) : Bool := match l.getLast? with
 | some t => t.kind == 2
 | none => false
theorem lastT_snoc (l : List Tr) (t : Tr) : lastT (l ++ [t]) = (t.kind == 2) := by unfold lastT; rw [List.getLast?_append]; rfl
theorem onT_last : ∀ {l : List Tr}, lastT l = false → ∀ s, onT s l = none
 | [], _, _ => rfl
 | [n], h, s => by
  rw [onT, if_neg]
  intro e
  unfold lastT at h
  simp [e] at h
 | n :: m :: l, h, s => by
  have h2 : lastT (m :: l) = false := by
   unfold lastT at h ⊢
   rw [List.getLast?_cons_cons] at h
   exact h
  rw [onT, onT_last h2 s]
  rfl
theorem add_inner (g : Gr) (t : Tr) : (g.addS t).inner = g.inner ++ [t] ∧ (g.addS t).opens.length = g.opens.length ∧ (g.addS t).nodes = g.nodes + t.count ∧ ((g.addS t).opens = [] ↔ g.opens = []) := by
 unfold Gr.addS Gr.setInner Gr.inner
 cases g.opens with
 | nil => exact ⟨rfl, rfl, rfl, Iff.rfl⟩
 | cons f fs => exact ⟨rfl, rfl, rfl, by simp⟩
structure Room (g : Gr) (t : Tr) : Prop where
 nodes : g.nodes + t.count ≤ 4096
 depth : g.opens.length + t.depth ≤ 32
 root : t.kind = 1 → g.opens = [] → (g.top.any fun t => t.kind == 1) = false
 text : t.kind = 2 → g.opens ≠ [] ∧ lastT g.inner = false
theorem may_none {g : Gr} {k : Int} {na : Nat} (h1 : g.nodes + (1 + na) ≤ 4096) (h2 : k = 1 → g.opens = [] → (g.top.any fun t => t.kind == 1) = false) : g.mayS k na = none := by
 unfold Gr.mayS
 rw [if_neg (by omega), if_neg]
 rintro ⟨e1, e2, e3⟩
 rw [h2 e1 e2] at e3
 cases e3
theorem grow_one {g g' : Gr} {tk : Tk} (h : g.takeS tk = .ok g') (ts : List Tk) : growS g (tk :: ts) = growS g' ts := by rw [growS, h]
theorem put_add {g : Gr} {t : Tr} (h : t.kids = []) : g.putS t = g.addS t := by
 unfold Gr.putS Gr.addS
 have : t.count = 1 + t.attrs.length := by
  cases t with
  | mk k n x a ks =>
   have hk : ks = [] := h
   rw [hk, count_mk0]
   rfl
 rw [this]
theorem fold_add (n : List UInt8) (ats : List (List UInt8 × List UInt8)) (fs : List Fr) (top : List Tr) : ∀ (ks acc : List Tr) (m : Nat), ks.foldl Gr.addS ⟨⟨n, ats, acc⟩ :: fs, top, m⟩ = ⟨⟨n, ats, acc ++ ks⟩ :: fs, top, m + cntL ks⟩
 | [], acc, m => by rw [List.foldl_nil, List.append_nil, cntL]; rfl
 | t :: ks, acc, m => by
  rw [List.foldl_cons, cntL]
  have h : Gr.addS ⟨⟨n, ats, acc⟩ :: fs, top, m⟩ t = ⟨⟨n, ats, acc ++ [t]⟩ :: fs, top, m + t.count⟩ := rfl
  rw [h, fold_add n ats fs top ks, List.append_assoc, Nat.add_assoc]
  rfl
def Grows (ts : List Tk) (g g' : Gr) : Prop := ∀ ts', growS g (ts ++ ts') = growS g' ts'
def Reads (t : Tr) : Prop := ∀ i r, (t.kind = 2 → r = [] ∨ ∃ u, r = 60 :: u) → ∃ ts j, Run i (wrN t ++ r) ts j r ∧ ∀ g, Room g t → Grows ts g (g.addS t)
theorem wr_head {t : Tr} (h : FrN t) (hk : t.kind ≠ 2) : ∃ v, wrN t = 60 :: v := by
 cases t with
 | mk k n x ats ks =>
  rw [fr_mk] at h
  rw [wr_mk]
  rcases h with ⟨rfl, _⟩ | ⟨_, _, ⟨rfl, _⟩ | ⟨rfl, _⟩ | ⟨rfl, _⟩⟩
  ·exact ⟨_, if_pos rfl⟩
  ·exact absurd rfl hk
  ·exact ⟨_, by rw [if_neg (by decide), if_neg (by decide), if_pos rfl]⟩
  ·exact ⟨_, by rw [if_neg (by decide), if_neg (by decide), if_neg (by decide), if_pos rfl]⟩
theorem count_one (t : Tr) : 1 ≤ t.count := by
 cases t with
 | mk k n x ats ks => rw [Tr.count]; omega
theorem list_runs {n : Nat} (ih : ∀ t, t.count ≤ n → FrN t → Reads t) : ∀ (ks : List Tr) (p : Bool), cntL ks ≤ n → FrL p ks → ∀ i u, ∃ ts j, Run i (wrL ks ++ 60 :: u) ts j (60 :: u) ∧
  ∀ g, g.opens ≠ [] → (lastT g.inner = true → p = true) → g.nodes + cntL ks ≤ 4096 → g.opens.length + depL ks ≤ 32 → Grows ts g (ks.foldl Gr.addS g)
 | [], _, _, _, i, u => ⟨[], i, by rw [wrL]; exact .nil _ _, fun g _ _ _ _ ts' => rfl⟩
 | t :: ks, p, hn, hf, i, u => by
  rw [cntL] at hn
  rw [FrL] at hf
  obtain ⟨h1, h2, h3⟩ := hf
  have hnext : t.kind = 2 → wrL ks ++ 60 :: u = [] ∨ ∃ v, wrL ks ++ 60 :: u = 60 :: v := fun hk => by
   right
   cases ks with
   | nil => exact ⟨u, by rw [wrL]; rfl⟩
   | cons s ks =>
    rw [FrL] at h3
    have hs : s.kind ≠ 2 := fun e => h3.2.1 ⟨e, by rw [hk]; rfl⟩
    obtain ⟨v, hv⟩ := wr_head h3.1 hs
    exact ⟨v ++ (wrL ks ++ 60 :: u), by rw [wrL, hv, List.append_assoc]; rfl⟩
  obtain ⟨ts1, j1, hr1, hg1⟩ := ih t (by omega) h1 i (wrL ks ++ 60 :: u) hnext
  obtain ⟨ts2, j2, hr2, hg2⟩ := list_runs ih ks (t.kind == 2) (by omega) h3 j1 u
  refine ⟨ts1 ++ ts2, j2, by rw [wrL, List.append_assoc]; exact hr1.trans hr2, fun g ho hp hc hd ts' => ?_⟩
  rw [cntL] at hc
  rw [depL] at hd
  have hroom : Room g t := ⟨by omega, by omega, fun _ e => absurd e ho, fun hk => ⟨ho, by
   cases hq : lastT g.inner with
   | false => rfl
   | true => exact absurd ⟨hk, hp hq⟩ h2⟩⟩
  obtain ⟨a1, a2, a3, a4⟩ := add_inner g t
  rw [List.append_assoc, hg1 g hroom, hg2 (g.addS t) (fun e => ho (a4.1 e)) (by rw [a1, lastT_snoc]; exact fun e => e) (by omega) (by omega), List.foldl_cons]
theorem take_leaf {g : Gr} {k : Nat} {K : Int} {i : Nat} {nm x : List UInt8} (hk : (k = 6 ∧ K = 3 ∧ nm = []) ∨ (k = 7 ∧ K = 4)) (hr : Room g (.mk K nm x [] [])) : g.takeS ⟨k, i, nm, x, []⟩ = .ok (g.addS (.mk K nm x [] [])) := by
 have hn := hr.nodes
 rw [count_mk0] at hn
 have hm : ∀ K' : Int, K' ≠ 1 → g.mayS K' 0 = none := fun K' h => may_none hn (fun e => absurd e h)
 unfold Gr.takeS
 dsimp only
 rcases hk with ⟨rfl, rfl, rfl⟩ | ⟨rfl, rfl⟩
 ·rw [if_neg (by decide), if_neg (by decide), if_neg (by decide), if_pos rfl, hm 3 (by decide)]
  dsimp only
  rw [put_add rfl]
 ·rw [if_neg (by decide), if_neg (by decide), if_neg (by decide), if_neg (by decide), hm 4 (by decide)]
  dsimp only
  rw [put_add rfl]
theorem take_text {g : Gr} {i : Nat} {x : List UInt8} (hx : x ≠ []) (hr : Room g (.mk 2 [] x [] [])) : g.takeS ⟨4, i, [], x, []⟩ = .ok (g.addS (.mk 2 [] x [] [])) := by
 have hn := hr.nodes
 rw [count_mk0] at hn
 obtain ⟨h1, h2⟩ := hr.text rfl
 unfold Gr.takeS
 dsimp only
 rw [if_neg (by decide), if_neg (by decide), if_pos (.inl rfl), if_neg (fun e => h1 e.1), if_neg (fun e => by rcases e with e | e; exact h1 e; exact hx e), onT_last h2]
 have hm : g.mayS 2 0 = none := may_none hn (fun e => by cases e)
 dsimp only
 rw [hm]
 dsimp only
 rw [put_add rfl]
theorem take_empty {g : Gr} {i : Nat} {nm : List UInt8} {ats : List (List UInt8 × List UInt8)} (hr : Room g (.mk 1 nm [] ats [])) : g.takeS ⟨2, i, nm, [], ats⟩ = .ok (g.addS (.mk 1 nm [] ats [])) := by
 have hn := hr.nodes
 have hd := hr.depth
 rw [count_mk0] at hn
 rw [Tr.depth, if_pos rfl] at hd
 unfold Gr.takeS
 dsimp only
 rw [if_pos (.inr rfl), if_neg (by omega), may_none hn (fun _ => hr.root rfl)]
 dsimp only
 rw [if_neg (by decide), put_add rfl]
theorem take_start {g : Gr} {i : Nat} {nm : List UInt8} {ats : List (List UInt8 × List UInt8)} {ks : List Tr} (hr : Room g (.mk 1 nm [] ats ks)) : g.takeS ⟨1, i, nm, [], ats⟩ = .ok (g.openS nm ats) := by
 have hn := hr.nodes
 have hd := hr.depth
 rw [Tr.count] at hn
 rw [Tr.depth, if_pos rfl] at hd
 unfold Gr.takeS
 dsimp only
 rw [if_pos (.inl rfl), if_neg (by omega), may_none (by omega) (fun _ => hr.root rfl)]
 dsimp only
 rw [if_pos rfl]
theorem take_end (nm : List UInt8) (ats : List (List UInt8 × List UInt8)) (ks : List Tr) (g : Gr) (m i : Nat) : Gr.takeS ⟨⟨nm, ats, ks⟩ :: g.opens, g.top, m⟩ ⟨3, i, nm, [], []⟩ = .ok (Gr.closeS ⟨⟨nm, ats, ks⟩ :: g.opens, g.top, m⟩ ⟨nm, ats, ks⟩ g.opens) := by
 unfold Gr.takeS
 dsimp only
 rw [if_neg (by decide), if_pos rfl, if_pos rfl]
theorem tree_runs : ∀ (n : Nat) (t : Tr), t.count ≤ n → FrN t → Reads t
 | 0, t, hn, _ => by have := count_one t; omega
 | n + 1, .mk k nm x ats ks, hn, hf => by
  rw [Tr.count] at hn
  rw [fr_mk] at hf
  intro i r hr
  rw [wr_mk]
  rcases hf with ⟨rfl, hnm, rfl, ha, hd, hks⟩ | ⟨rfl, rfl, ⟨rfl, rfl, hx⟩ | ⟨rfl, rfl, hc, h13⟩ | ⟨rfl, hnm, hsx, hc, h13, hb⟩⟩
  ·rw [if_pos rfl]
   cases ks with
   | nil =>
    have htok := tok_start (.inl ⟨rfl, rfl⟩) hnm ha hd i r
    have he : (60 :: (nm ++ (attrsB ats ++ (if ([] : List Tr).isEmpty = true then [47, 62] else 62 :: (wrL [] ++ 60 :: 47 :: (nm ++ [62])))))) ++ r = 60 :: (nm ++ (attrsB ats ++ ([47, 62] ++ r))) := by
     simp only [List.isEmpty_nil, if_true, List.cons_append, List.append_assoc]
    rw [he]
    refine ⟨_, _, Run.one htok ?_, fun g hg => fun ts' => grow_one (take_empty hg) ts'⟩
    simp only [List.length_append, List.length_cons]
    omega
   | cons k1 ks =>
    obtain ⟨ts, j, hrun, hgrow⟩ := list_runs (n := n) (fun t h1 h2 => tree_runs n t h1 h2) (k1 :: ks) false (by omega) hks (i + (1 + (nm.length + ((attrsB ats).length + [62].length)))) (47 :: (nm ++ 62 :: r))
    have htok := tok_start (m := [62]) (.inr ⟨rfl, rfl⟩) hnm ha hd i (wrL (k1 :: ks) ++ 60 :: 47 :: (nm ++ 62 :: r))
    have hend := tok_end hnm j r
    have he : (60 :: (nm ++ (attrsB ats ++ (if (k1 :: ks).isEmpty = true then [47, 62] else 62 :: (wrL (k1 :: ks) ++ 60 :: 47 :: (nm ++ [62])))))) ++ r = 60 :: (nm ++ (attrsB ats ++ ([62] ++ (wrL (k1 :: ks) ++ 60 :: 47 :: (nm ++ 62 :: r))))) := by
     rw [if_neg (by simp)]
     simp only [List.cons_append, List.append_assoc, List.nil_append]
    rw [he]
    refine ⟨_, _, (Run.cons _ _ _ _ _ _ _ _ htok ?_ hrun).trans (Run.one hend ?_), fun g hg => fun ts' => ?_⟩
    ·simp only [List.length_append, List.length_cons, List.length_nil]
     omega
    ·simp only [List.length_append, List.length_cons]
     omega
    ·have hc := hg.nodes
     have hdp := hg.depth
     rw [Tr.count] at hc
     rw [Tr.depth, if_pos rfl] at hdp
     rw [List.cons_append, List.cons_append, grow_one (take_start hg), List.append_assoc, hgrow (g.openS nm ats) (by unfold Gr.openS; simp) (fun e => by cases e) (by unfold Gr.openS; dsimp only; omega) (by unfold Gr.openS; simp only [List.length_cons]; omega)]
     unfold Gr.openS
     rw [fold_add, List.nil_append, List.singleton_append, grow_one (take_end nm ats (k1 :: ks) g _ _)]
     have hadd : Gr.closeS ⟨⟨nm, ats, k1 :: ks⟩ :: g.opens, g.top, g.nodes + (1 + ats.length) + cntL (k1 :: ks)⟩ ⟨nm, ats, k1 :: ks⟩ g.opens = g.addS (.mk 1 nm [] ats (k1 :: ks)) := by
      unfold Gr.closeS Gr.addS
      rw [Tr.count]
      unfold Gr.setInner Gr.inner
      dsimp only
      cases g.opens with
      | nil => simp only [Nat.add_assoc]
      | cons f fs => simp only [Nat.add_assoc]
     rw [hadd]
  ·rw [if_neg (by decide), if_pos rfl]
   refine ⟨_, _, Run.one (tok_text hx (hr rfl) i) ?_, fun g hg => fun ts' => grow_one (take_text hx hg) ts'⟩
   have := esc_len false x
   have h1 := List.length_pos_iff.2 hx
   rw [List.length_append]
   omega
  ·rw [if_neg (by decide), if_neg (by decide), if_pos rfl]
   have he : (60 :: 33 :: 45 :: 45 :: (x ++ [45, 45, 62])) ++ r = 60 :: 33 :: 45 :: 45 :: (x ++ 45 :: 45 :: 62 :: r) := by simp only [List.cons_append, List.append_assoc, List.nil_append]
   rw [he]
   refine ⟨_, _, Run.one (tok_comment hc h13 i r) ?_, fun g hg => fun ts' => grow_one (take_leaf (.inl ⟨rfl, rfl, rfl⟩) hg) ts'⟩
   simp only [List.length_append, List.length_cons]
   omega
  ·rw [if_neg (by decide), if_neg (by decide), if_neg (by decide), if_pos rfl]
   have he : (60 :: 63 :: (nm ++ ((if x = [] then [] else 32 :: x) ++ [63, 62]))) ++ r = 60 :: 63 :: (nm ++ ((if x = [] then [] else 32 :: x) ++ 63 :: 62 :: r)) := by simp only [List.cons_append, List.append_assoc, List.nil_append]
   rw [he]
   refine ⟨_, _, Run.one (tok_pi hnm hsx hc h13 hb i r) ?_, fun g hg => fun ts' => grow_one (take_leaf (.inr ⟨rfl, rfl⟩) hg) ts'⟩
   simp only [List.length_append, List.length_cons]
   omega
theorem low_ok {m : List UInt8} (hm : ∀ x ∈ m, 32 ≤ x.toNat ∧ x.toNat < 128) {t : List UInt8} (h : Ok8 t) : Ok8 (m ++ t) := by
 induction m with
 | nil => exact h
 | cons x m ih =>
  obtain ⟨h1, h2⟩ := hm x (List.mem_cons_self ..)
  exact Ok8.cons (ih (fun y hy => hm y (List.mem_cons_of_mem _ hy))) h2 ((chars_nat _).2 (by omega))
theorem escC_low {v : Bool} {x : UInt8} (h : toldB v x = true) : ∀ y ∈ escC v x, 32 ≤ y.toNat ∧ y.toNat < 128 := by
 unfold toldB at h
 simp only [Bool.or_eq_true, beq_iff_eq, Bool.and_eq_true, Bool.not_eq_true'] at h
 rcases h with (((rfl | rfl) | rfl) | ⟨rfl, rfl⟩) | ⟨rfl, (rfl | rfl) | rfl⟩ <;> first | decide | (cases v <;> decide)
theorem told_nums {v : Bool} {x : UInt8} (h : ∀ n ∈ [38, 60, 13, 62, 34, 9, 10], x.toNat ≠ n) : toldB v x = false := by
 cases hq : toldB v x with
 | false => rfl
 | true =>
  exfalso
  unfold toldB at hq
  simp only [Bool.or_eq_true, beq_iff_eq, Bool.and_eq_true, Bool.not_eq_true'] at hq
  rcases hq with (((rfl | rfl) | rfl) | ⟨rfl, _⟩) | ⟨_, (rfl | rfl) | rfl⟩
  ·exact h 38 (by decide) rfl
  ·exact h 60 (by decide) rfl
  ·exact h 13 (by decide) rfl
  ·exact h 62 (by decide) rfl
  ·exact h 34 (by decide) rfl
  ·exact h 9 (by decide) rfl
  ·exact h 10 (by decide) rfl
theorem esc_ok (v : Bool) {s : List UInt8} (h : Ok8 s) : Ok8 (escS v s) := by
 induction h with
 | nil => exact .nil
 | rune w hw t _ ih =>
  rw [esc_app]
  by_cases h128 : w < 128
  ·have hb : encB w = [UInt8.ofNat w] := encB_low h128
   rw [hb]
   show Ok8 ((escC v (UInt8.ofNat w) ++ []) ++ escS v t)
   rw [List.append_nil]
   cases hx : toldB v (UInt8.ofNat w) with
   | true => exact low_ok (escC_low hx) ih
   | false =>
    rw [escC_plain hx, ← hb]
    exact .rune w hw _ ih
  ·rw [esc_plain (fun x hx => told_nums (fun n hn => encB_not n (by
    simp only [List.mem_cons, List.mem_nil_iff, or_false] at hn
    omega) (by
    simp only [List.mem_cons, List.mem_nil_iff, or_false] at hn
    omega) x hx))]
   exact .rune w hw _ ih
theorem attr_ok {a : List UInt8 × List UInt8} (h : NmOk a.1) (hv : Ok8 a.2) : Ok8 (attrB a) := by
 unfold attrB
 refine low_ok (m := [32]) (by decide) (h.1.ok.append (low_ok (m := [61, 34]) (by decide) ((esc_ok true hv).append (low_ok (m := [34]) (by decide) .nil))))
theorem attrs_ok : ∀ {l : List (List UInt8 × List UInt8)}, (∀ a ∈ l, NmOk a.1) → (∀ a ∈ l, Ok8 a.2) → Ok8 (attrsB l)
 | [], _, _ => .nil
 | a :: _, h, hv => (attr_ok (h a (List.mem_cons_self ..)) (hv a (List.mem_cons_self ..))).append (attrs_ok (fun b hb => h b (List.mem_cons_of_mem _ hb)) (fun b hb => hv b (List.mem_cons_of_mem _ hb)))
mutual
def VdN : Tr → Prop
 | .mk _ _ t ats ks => Ok8 t ∧ (∀ a ∈ ats, Ok8 a.2) ∧ VdL ks
def VdL : List Tr → Prop
 | [] => True
 | t :: ts => VdN t ∧ VdL ts
end
theorem list_ok {n : Nat} (ih : ∀ t, t.count ≤ n → FrN t → VdN t → Ok8 (wrN t)) : ∀ (ks : List Tr) (p : Bool), cntL ks ≤ n → FrL p ks → VdL ks → Ok8 (wrL ks)
 | [], _, _, _, _ => by rw [wrL]; exact .nil
 | t :: ks, p, hn, hf, hv => by
  rw [cntL] at hn
  rw [FrL] at hf
  rw [VdL] at hv
  rw [wrL]
  exact (ih t (by omega) hf.1 hv.1).append (list_ok ih ks _ (by omega) hf.2.2 hv.2)
theorem tree_ok : ∀ (n : Nat) (t : Tr), t.count ≤ n → FrN t → VdN t → Ok8 (wrN t)
 | 0, t, hn, _, _ => by have := count_one t; omega
 | n + 1, .mk k nm x ats ks, hn, hf, hv => by
  rw [Tr.count] at hn
  rw [fr_mk] at hf
  rw [VdN] at hv
  rw [wr_mk]
  rcases hf with ⟨rfl, hnm, rfl, ha, hd, hks⟩ | ⟨rfl, rfl, ⟨rfl, rfl, hx⟩ | ⟨rfl, rfl, hc, h13⟩ | ⟨rfl, hnm, hsx, hc, h13, hb⟩⟩
  ·rw [if_pos rfl]
   refine low_ok (m := [60]) (by decide) (hnm.1.ok.append ((attrs_ok ha hv.2.1).append ?_))
   split
   ·exact low_ok (m := [47, 62]) (by decide) .nil
   ·exact low_ok (m := [62]) (by decide) ((list_ok (n := n) (fun t h1 h2 h3 => tree_ok n t h1 h2 h3) ks false (by omega) hks hv.2.2).append (low_ok (m := [60, 47]) (by decide) (hnm.1.ok.append (low_ok (m := [62]) (by decide) .nil))))
  ·rw [if_neg (by decide), if_pos rfl]
   exact esc_ok false hv.1
  ·rw [if_neg (by decide), if_neg (by decide), if_pos rfl]
   exact low_ok (m := [60, 33, 45, 45]) (by decide) (hv.1.append (low_ok (m := [45, 45, 62]) (by decide) .nil))
  ·rw [if_neg (by decide), if_neg (by decide), if_neg (by decide), if_pos rfl]
   refine low_ok (m := [60, 63]) (by decide) (hnm.1.ok.append (Ok8.append ?_ (low_ok (m := [63, 62]) (by decide) .nil)))
   split
   ·exact .nil
   ·exact low_ok (m := [32]) (by decide) hv.1
def AsideL (l : List Tr) : Prop := ∀ t ∈ l, FrN t ∧ (t.kind = 3 ∨ t.kind = 4)
theorem aside_runs : ∀ (ks : List Tr), AsideL ks → ∀ i r, ∃ ts j, Run i (wrL ks ++ r) ts j r ∧ ∀ g : Gr, g.opens = [] → g.nodes + cntL ks ≤ 4096 → Grows ts g (ks.foldl Gr.addS g)
 | [], _, i, r => ⟨[], i, by rw [wrL]; exact .nil _ _, fun g _ _ ts' => rfl⟩
 | t :: ks, h, i, r => by
  obtain ⟨hf, hk⟩ := h t (List.mem_cons_self ..)
  have hk2 : t.kind ≠ 2 := fun e => by rcases hk with hk | hk <;> rw [e] at hk <;> cases hk
  have hk1 : t.kind ≠ 1 := fun e => by rcases hk with hk | hk <;> rw [e] at hk <;> cases hk
  obtain ⟨ts1, j1, hr1, hg1⟩ := tree_runs _ t (Nat.le_refl _) hf i (wrL ks ++ r) (fun e => absurd e hk2)
  obtain ⟨ts2, j2, hr2, hg2⟩ := aside_runs ks (fun s hs => h s (List.mem_cons_of_mem _ hs)) j1 r
  have hdep : t.depth = 0 := by
   cases t with
   | mk k n x ats kk => rw [Tr.depth, if_neg (show ¬ k = 1 from hk1)]
  refine ⟨ts1 ++ ts2, j2, by rw [wrL, List.append_assoc]; exact hr1.trans hr2, fun g ho hc ts' => ?_⟩
  rw [cntL] at hc
  obtain ⟨a1, a2, a3, a4⟩ := add_inner g t
  rw [List.append_assoc, hg1 g ⟨by omega, by rw [ho, hdep]; decide, fun e => absurd e hk1, fun e => absurd e hk2⟩, hg2 (g.addS t) (a4.2 ho) (by omega), List.foldl_cons]
theorem fold_top : ∀ (ks acc : List Tr) (m : Nat), ks.foldl Gr.addS ⟨[], acc, m⟩ = ⟨[], acc ++ ks, m + cntL ks⟩
 | [], acc, m => by rw [List.foldl_nil, List.append_nil, cntL]; rfl
 | t :: ks, acc, m => by
  rw [List.foldl_cons, cntL]
  have h : Gr.addS ⟨[], acc, m⟩ t = ⟨[], acc ++ [t], m + t.count⟩ := rfl
  rw [h, fold_top ks, List.append_assoc, Nat.add_assoc]
  rfl
theorem cut_aside {root : Tr} (hr : root.kind = 1) (after : List Tr) : ∀ {l : List Tr}, AsideL l → cutT (l ++ root :: after) = some (l, root, after)
 | [], _ => by rw [List.nil_append, cutT, if_pos hr]
 | t :: l, h => by
  have hk := (h t (List.mem_cons_self ..)).2
  rw [List.cons_append, cutT, if_neg (fun e => by rcases hk with hk | hk <;> rw [e] at hk <;> cases hk), cut_aside hr after (fun s hs => h s (List.mem_cons_of_mem _ hs))]
  rfl
def wrD (before : List Tr) (root : Tr) (after : List Tr) : List UInt8 := wrL before ++ (wrN root ++ wrL after)
theorem parse_written {before : List Tr} {root : Tr} {after : List Tr} (hb : AsideL before) (hk : root.kind = 1) (hr : FrN root) (ha : AsideL after) (hn : cntL before + (root.count + cntL after) ≤ 4096) (hd : root.depth ≤ 32)
  (hl : (wrD before root after).length ≤ 65536) (hok : Ok8 (wrD before root after)) (hdc : declS (wrD before root after) = .ok () 0 (wrD before root after)) : parseS (wrD before root after) = .ok (before, root, after) := by
 obtain ⟨ts1, j1, hr1, hg1⟩ := aside_runs before hb 0 (wrN root ++ wrL after)
 obtain ⟨ts2, j2, hr2, hg2⟩ := tree_runs _ root (Nat.le_refl _) hr j1 (wrL after) (fun e => by rw [hk] at e; cases e)
 obtain ⟨ts3, j3, hr3, hg3⟩ := aside_runs after ha j2 []
 rw [List.append_nil] at hr3
 have hrun := (hr1.trans (hr2.trans hr3)).toks rfl ((wrD before root after).length + 1) (Nat.le_succ _)
 have hbad : badZ (fs (wrD before root after)) (wrD before root after).length = -1 := bad_of_ok hok
 have hall : allS (wrD before root after) = .ok (ts1 ++ (ts2 ++ ts3)) j3 [] := by
  unfold allS
  rw [if_neg (by omega), hbad, if_neg (by decide), hdc, Sx.then_ok]
  exact hrun
 unfold parseS
 rw [hall]
 dsimp only
 have hgrow : growS ⟨[], [], 0⟩ (ts1 ++ (ts2 ++ ts3)) = .ok ⟨[], before ++ root :: after, 0 + cntL before + root.count + cntL after⟩ := by
  have h1 := hg1 ⟨[], [], 0⟩ rfl (by show 0 + cntL before ≤ 4096; omega) (ts2 ++ ts3)
  rw [fold_top, List.nil_append] at h1
  have hno : (before.any fun t => t.kind == 1) = false := by
   rw [Bool.eq_false_iff]
   intro e
   obtain ⟨s, hs, hs2⟩ := List.any_eq_true.1 e
   have hs4 : s.kind = 1 := by simpa using hs2
   rcases (hb s hs).2 with h | h
   ·rw [hs4] at h; cases h
   ·rw [hs4] at h; cases h
  have hroot : Room ⟨[], before, 0 + cntL before⟩ root := ⟨by show 0 + cntL before + root.count ≤ 4096; omega, by show 0 + root.depth ≤ 32; omega, fun _ _ => hno, fun e => by rw [hk] at e; cases e⟩
  have h2 := hg2 ⟨[], before, 0 + cntL before⟩ hroot ts3
  have hadd : Gr.addS ⟨[], before, 0 + cntL before⟩ root = ⟨[], before ++ [root], 0 + cntL before + root.count⟩ := rfl
  rw [hadd] at h2
  have h3 := hg3 ⟨[], before ++ [root], 0 + cntL before + root.count⟩ rfl (by show 0 + cntL before + root.count + cntL after ≤ 4096; omega) []
  rw [fold_top, List.append_nil, List.append_assoc] at h3
  rw [h1, h2, h3, growS]
  rfl
 rw [hgrow]
 dsimp only
 unfold endS9
 rw [if_neg (fun e => e rfl)]
 dsimp only
 rw [cut_aside hk after hb]
theorem name_noblank {fb : Bool} {nm : List UInt8} (h : Nm8 fb nm) : ∀ x ∈ nm, blankB (x.toNat : Int) = false := by
 induction h with
 | nil => intro x hx; cases hx
 | rune fb v hv hf t _ ih =>
  intro x hx
  rcases List.mem_append.1 hx with hx | hx
  ·by_cases h128 : v < 128
   ·rw [encB_low h128] at hx
    rw [List.mem_singleton.1 hx, ofNat_low h128]
    have hb : ∀ (fb : Bool) (n : Fin 128), fitsB fb n.val = true → blankB (n.val : Int) = false := by decide
    exact hb fb ⟨v, h128⟩ hf
   ·have hge : 128 ≤ x.toNat := Nat.le_of_not_lt (fun hlt => encB_not x.toNat hlt (fun e => h128 (by omega)) x hx rfl)
    cases hb : blankB (x.toNat : Int) with
    | false => rfl
    | true =>
     exfalso
     unfold blankB at hb
     simp at hb
     omega
  ·exact ih x hx
theorem decl_past {b : List UInt8} (h : [60, 63].isPrefixOf b = false) : declS b = .ok () 0 b := by
 unfold declS
 rw [if_neg]
 rintro ⟨e, _⟩
 obtain ⟨u, hu⟩ := List.isPrefixOf_iff_prefix.1 e
 rw [← hu] at h
 simp [List.isPrefixOf] at h
theorem decl_pi {nm : List UInt8} (hn : NmOk nm) (hx : sameS nm [120, 109, 108] = false) {c : UInt8} (hc : c ≠ 120 ∧ c ≠ 109 ∧ c ≠ 108) (u : List UInt8) : declS (60 :: 63 :: (nm ++ c :: u)) = .ok () 0 (60 :: 63 :: (nm ++ c :: u)) := by
 unfold declS
 rw [if_neg]
 rintro ⟨e, e2⟩
 have hnb := name_noblank hn.1
 match nm, hn, hx, hnb, e, e2 with
 | [], hn, _, _, _, _ => exact hn.2 rfl
 | [a], _, _, _, e, _ =>
  simp [List.isPrefixOf] at e
  exact hc.2.1 e.2.1.symm
 | [a, b], _, _, _, e, _ =>
  simp [List.isPrefixOf] at e
  exact hc.2.2 e.2.2.symm
 | [a, b, d], _, hx, _, e, _ =>
  simp [List.isPrefixOf] at e
  obtain ⟨rfl, rfl, rfl⟩ := e
  revert hx
  decide
 | a :: b :: d :: f :: t, _, _, hnb, _, e2 =>
  have h1 := hnb f (by simp)
  simp [List.drop] at e2
  rw [h1] at e2
  cases e2
theorem decl_written {before : List Tr} {root : Tr} {after : List Tr} (hb : AsideL before) (hk : root.kind = 1) (hr : FrN root) : declS (wrD before root after) = .ok () 0 (wrD before root after) := by
 unfold wrD
 cases before with
 | nil =>
  rw [wrL, List.nil_append]
  cases root with
  | mk k nm x ats ks =>
   have hk1 : k = 1 := hk
   subst hk1
   rw [fr_mk] at hr
   rcases hr with ⟨_, hnm, _⟩ | ⟨_, _, ⟨h, _⟩ | ⟨h, _⟩ | ⟨h, _⟩⟩
   ·apply decl_past
    rw [wr_mk, if_pos rfl]
    cases hq : nm with
    | nil => exact absurd hq hnm.2
    | cons y t =>
     obtain ⟨_, h63⟩ := name_head2 hnm.1 hq
     simp [List.isPrefixOf]
     exact fun e => h63 e.symm
   ·cases h
   ·cases h
   ·cases h
 | cons t l =>
  obtain ⟨hf, hk3⟩ := hb t (List.mem_cons_self ..)
  rw [wrL]
  cases t with
  | mk k nm x ats ks =>
   rw [fr_mk] at hf
   rw [wr_mk]
   have hk4 : k = 3 ∨ k = 4 := hk3
   rcases hf with ⟨rfl, _⟩ | ⟨rfl, rfl, ⟨rfl, _⟩ | ⟨rfl, rfl, _⟩ | ⟨rfl, hnm, hsx, _⟩⟩
   ·rcases hk4 with h | h <;> cases h
   ·rcases hk4 with h | h <;> cases h
   ·apply decl_past
    rw [if_neg (by decide), if_neg (by decide), if_pos rfl]
    simp [List.isPrefixOf]
   ·rw [if_neg (by decide), if_neg (by decide), if_neg (by decide), if_pos rfl]
    cases x with
    | nil =>
     have := decl_pi hnm hsx (c := 63) (by decide) (62 :: (wrL l ++ (wrN root ++ wrL after)))
     simpa only [if_true, List.nil_append, List.cons_append, List.append_assoc] using this
    | cons y u =>
     have := decl_pi hnm hsx (c := 32) (by decide) (y :: (u ++ 63 :: 62 :: (wrL l ++ (wrN root ++ wrL after))))
     simpa only [if_neg (List.cons_ne_nil y u), List.nil_append, List.cons_append, List.append_assoc] using this
theorem aside_ok : ∀ {l : List Tr}, AsideL l → VdL l → Ok8 (wrL l)
 | [], _, _ => by rw [wrL]; exact .nil
 | t :: l, h, hv => by
  rw [VdL] at hv
  rw [wrL]
  exact (tree_ok _ t (Nat.le_refl _) (h t (List.mem_cons_self ..)).1 hv.1).append (aside_ok (fun s hs => h s (List.mem_cons_of_mem _ hs)) hv.2)
theorem written_back {before : List Tr} {root : Tr} {after : List Tr} (hb : AsideL before) (hk : root.kind = 1) (hr : FrN root) (ha : AsideL after) (vb : VdL before) (vr : VdN root) (va : VdL after)
  (hn : cntL before + (root.count + cntL after) ≤ 4096) (hd : root.depth ≤ 32) (hl : (wrD before root after).length ≤ 65536) : parseS (wrD before root after) = .ok (before, root, after) :=
 parse_written hb hk hr ha hn hd hl ((aside_ok hb vb).append ((tree_ok _ root (Nat.le_refl _) hr vr).append (aside_ok ha va))) (decl_written hb hk hr)
end Go.Proofs.YtjpkkflhcjjefaaGreatDoor
