/-
 What may be written, judged; writing as the program goes.
-/
import Derived.Test.YtjpkkflhcjjefaaGreatDoorOJ
namespace Go.Proofs.YtjpkkflhcjjefaaGreatDoor
open Go.RowKit Go.Lib Go.Joins
set_option maxHeartbeats 32000000
theorem vd_mk (k : Int) (n t : List UInt8) (ats : List (List UInt8 × List UInt8)) (ks : List Tr) : VdN (.mk k n t ats ks) = (Ok8 t ∧ (∀ a ∈ ats, Ok8 a.2) ∧ VdL ks) := by rw [VdN]
theorem nil_vd : VdL [] := by rw [VdL]; trivial
theorem escC_six (v : Bool) (x : UInt8) : (escC v x).length ≤ 6 := by
 unfold escC
 repeat' split
 all_goals simp
theorem esc_six (v : Bool) : ∀ s : List UInt8, (escS v s).length ≤ 6 * s.length
 | [] => Nat.le_refl _
 | x :: s => by
  have h1 := escC_six v x
  have h2 := esc_six v s
  show (escC v x ++ escS v s).length ≤ 6 * (s.length + 1)
  rw [List.length_append]
  omega
theorem attrsB_one (a : List UInt8 × List UInt8) : attrsB [a] = attrB a := by
 show attrB a ++ [] = _
 rw [List.append_nil]
theorem wrL_app : ∀ a b : List Tr, wrL (a ++ b) = wrL a ++ wrL b
 | [], b => by rw [List.nil_append, wrL]; rfl
 | t :: a, b => by rw [List.cons_append, wrL, wrL, wrL_app a b, List.append_assoc]
theorem wrL_one (t : Tr) : wrL [t] = wrN t := by rw [wrL, wrL, List.append_nil]
theorem nm_of_runes : ∀ (n : Nat) (fb : Bool) (l : List UInt8), l.length ≤ n → ∀ (a : List UInt8) (g : Nat) (rs : List Nat), l.length ≤ g → runesFrom (fs (a ++ l)) (a ++ l).length g a.length = some rs → (rs.all fun x => goesB (x : Int)) = true → (fb = true → ∀ r t, rs = r :: t → beginsB (r : Int) = true) → Nm8 fb l
 | 0, fb, l, hl, _, _, _, _, _, _, _ => by rw [List.length_eq_zero_iff.1 (Nat.le_zero.1 hl)]; exact .nil fb
 | n + 1, fb, l, hl, a, g, rs, hg, hr, hall, hbeg => by
  by_cases hpos : 0 < l.length
  ·obtain ⟨g, rfl⟩ : ∃ k, g = k + 1 := ⟨g - 1, by omega⟩
   rw [runesFrom, if_pos (by rw [List.length_append]; omega)] at hr
   have hn := nx_shift a l 0
   rw [Nat.add_zero] at hn
   rw [hn] at hr
   by_cases hw : (nx (fs l) l.length 0).2 = 0
   ·rw [if_pos hw] at hr
    cases hr
   ·rw [if_neg hw] at hr
    obtain ⟨h1, h2, h3, h4⟩ := nx_bytes (fs_lt l) hpos hw
    obtain ⟨v, hv⟩ : ∃ v, (nx (fs l) l.length 0).1 = v := ⟨_, rfl⟩
    obtain ⟨w, hwd⟩ : ∃ w, (nx (fs l) l.length 0).2 = w := ⟨_, rfl⟩
    rw [hv] at h1 h2 h4 hr
    rw [hwd] at h2 h3 h4 hr hw
    have hsp : encB v ++ l.drop w = l := by
     have : encB v = l.take w := fs_ext (by rw [encB_length, List.length_take]; omega) (fun i hi => by
      rw [encB_length] at hi
      rw [encB_at v i hi, h4 i (by omega), fs_take l w i (by omega), Nat.zero_add])
     rw [this, List.take_append_drop]
    cases hq : runesFrom (fs (a ++ l)) (a ++ l).length g (a.length + w) with
    | none => rw [hq] at hr; cases hr
    | some rs2 =>
     rw [hq] at hr
     cases hr
     rw [List.all_cons, Bool.and_eq_true] at hall
     rw [← hsp]
     have hfit : fitsB fb v = true := by
      unfold fitsB
      cases fb with
      | true => exact hbeg rfl v rs2 rfl
      | false => exact hall.1
     refine .rune fb v h1 hfit _ (nm_of_runes n false _ (by rw [List.length_drop]; omega) (a ++ encB v) g rs2 (by rw [List.length_drop]; omega) ?_ hall.2 (fun e => by cases e))
     have hlen : (a ++ encB v).length = a.length + w := by rw [List.length_append, encB_length, h2]
     rw [List.append_assoc, hsp, hlen]
     exact hq
  ·have h0 : l = [] := List.length_eq_zero_iff.1 (by omega)
   rw [h0]; exact .nil fb
theorem name_iff (l : List UInt8) : nameW l = true ↔ NmOk l := by
 constructor
 ·intro h
  have hne : l ≠ [] := (name_clean h).1
  rw [← nameR_eq] at h
  refine ⟨?_, hne⟩
  cases hr : runesFrom (fs l) l.length l.length 0 with
  | none => rw [hr] at h; cases h
  | some rs =>
   rw [hr] at h
   cases rs with
   | nil => cases h
   | cons r t =>
    have h2 : (beginsB (r : Int) && (r :: t).all fun x => goesB (x : Int)) = true := h
    rw [Bool.and_eq_true] at h2
    refine nm_of_runes l.length true l (Nat.le_refl _) [] l.length (r :: t) (Nat.le_refl _) hr h2.2 (fun _ r2 t2 e => ?_)
    injection e with e1 _
    rw [← e1]
    exact h2.1
 ·intro h
  rw [← nameR_eq]
  exact h.1.name h.2
def hasB (l : List UInt8) : Bool := decide (badL l < 0)
theorem has_iff (l : List UInt8) : hasB l = true ↔ Ok8 l := by
 unfold hasB
 rw [decide_eq_true_iff]
 exact ⟨fun h => ok_of_bad l.length l (Nat.le_refl _) (by omega), fun h => by rw [bad_of_ok h]; decide⟩
def headT : List Tr → Bool
 | [] => false
 | u :: _ => u.kind == 2
def touchB : List Tr → Bool
 | [] => false
 | t :: l => (t.kind == 2 && headT l) || touchB l
def bareB : List UInt8 → Bool
 | [] => true
 | x :: _ => !blankB (x.toNat : Int)
def fitT (k : Int) (n t : List UInt8) (ats : List (List UInt8 × List UInt8)) (ks : List Tr) : Bool :=
 if k = 1 then t.isEmpty && nameW n && ats.all (fun a => nameW a.1 && hasB a.2) && decide (ats.map Prod.fst).Nodup && !touchB ks
 else ats.isEmpty && ks.isEmpty && hasB t &&
  (if k = 2 then n.isEmpty && !t.isEmpty
  else if k = 3 then n.isEmpty && !t.contains 13 && (cutS [45, 45] (t ++ [45])).isNone
  else if k = 4 then nameW n && !sameS n [120, 109, 108] && !t.contains 13 && (cutS [63, 62] t).isNone && bareB t else false)
mutual
def fairT : Tr → Bool
 | .mk k n t ats ks => fitT k n t ats ks && fairL ks
def fairL : List Tr → Bool
 | [] => true
 | t :: ts => fairT t && fairL ts
end
theorem fair_mk (k : Int) (n t : List UInt8) (ats : List (List UInt8 × List UInt8)) (ks : List Tr) : fairT (.mk k n t ats ks) = (fitT k n t ats ks && fairL ks) := by rw [fairT]
theorem touch_iff : ∀ (p : Bool) (ks : List Tr), FrL p ks ↔ ((∀ t ∈ ks, FrN t) ∧ touchB ks = false ∧ ∀ t u, ks = t :: u → ¬ (t.kind = 2 ∧ p = true))
 | p, [] => by
  rw [FrL, touchB]
  exact ⟨fun _ => ⟨(fun _ h => by cases h), rfl, (fun _ _ h => by cases h)⟩, fun _ => trivial⟩
 | p, t :: ks => by
  rw [FrL, touch_iff (t.kind == 2) ks, touchB, Bool.or_eq_false_iff]
  constructor
  ·rintro ⟨h1, h2, h3, h4, h5⟩
   refine ⟨fun s hs => ?_, ⟨?_, h4⟩, fun s u e => ?_⟩
   ·rcases List.mem_cons.1 hs with rfl | hs
    ·exact h1
    ·exact h3 s hs
   ·cases ks with
    | nil => exact Bool.and_false _
    | cons u l =>
     have h7 := h5 u l rfl
     cases hq : t.kind == 2 with
     | false => rfl
     | true =>
      have h6 : (u.kind == 2) = false := beq_eq_false_iff_ne.2 (fun e => h7 ⟨e, hq⟩)
      show (true && (u.kind == 2)) = false
      rw [h6]
      rfl
   ·cases e
    exact h2
  ·rintro ⟨h1, ⟨h2, h3⟩, h4⟩
   refine ⟨h1 t (List.mem_cons_self ..), h4 t ks rfl, fun s hs => h1 s (List.mem_cons_of_mem _ hs), h3, fun u l e => ?_⟩
   subst e
   rintro ⟨e1, e2⟩
   have h5 : (t.kind == 2 && u.kind == 2) = false := h2
   rw [e2, e1] at h5
   cases h5
theorem vd_iff : ∀ ks : List Tr, VdL ks ↔ ∀ t ∈ ks, VdN t
 | [] => by
  rw [VdL]
  exact ⟨(fun _ _ h => by cases h), fun _ => trivial⟩
 | t :: ks => by rw [VdL, vd_iff ks, List.forall_mem_cons]
theorem fairL_iff : ∀ ks : List Tr, fairL ks = true ↔ ∀ t ∈ ks, fairT t = true
 | [] => by
  rw [fairL]
  exact ⟨(fun _ _ h => by cases h), fun _ => rfl⟩
 | t :: ks => by rw [fairL, Bool.and_eq_true, fairL_iff ks, List.forall_mem_cons]
theorem count_mem {ks : List Tr} {t : Tr} (h : t ∈ ks) : t.count ≤ cntL ks := by
 induction ks with
 | nil => cases h
 | cons s ks ih =>
  rw [cntL]
  rcases List.mem_cons.1 h with rfl | h
  ·omega
  ·have := ih h
   omega
theorem leaf_iff {k : Int} {n t : List UInt8} {ats : List (List UInt8 × List UInt8)} {ks : List Tr} (hk : k ≠ 1) : fitT k n t ats ks = true ↔ (ats = [] ∧ ks = [] ∧ LeafOk k n t ∧ Ok8 t) := by
 have h13 : t.contains 13 = false ↔ ∀ x ∈ t, x ≠ 13 := by
  rw [Bool.eq_false_iff, Ne, List.contains_iff_mem]
  exact ⟨fun h x hx e => h (by rw [← e]; exact hx), fun h e => h 13 e rfl⟩
 have hbl : bareB t = true ↔ ∀ x u, t = x :: u → blankB (x.toNat : Int) = false := by
  cases t with
  | nil => exact ⟨fun _ _ _ h => (by cases h), fun _ => rfl⟩
  | cons x u =>
   have h0 : bareB (x :: u) = !blankB (x.toNat : Int) := rfl
   rw [h0, Bool.not_eq_true']
   refine ⟨fun h y v e => ?_, fun h => h x u rfl⟩
   injection e with e1 _
   rw [← e1]
   exact h
 unfold fitT LeafOk
 rw [if_neg hk, Bool.and_eq_true, Bool.and_eq_true, Bool.and_eq_true, List.isEmpty_iff, List.isEmpty_iff, has_iff]
 by_cases h2 : k = 2
 ·subst h2
  rw [if_pos rfl, Bool.and_eq_true, List.isEmpty_iff, Bool.not_eq_true', List.isEmpty_eq_false_iff]
  constructor
  ·rintro ⟨⟨⟨a, b⟩, c⟩, d, e⟩
   exact ⟨a, b, .inl ⟨rfl, d, e⟩, c⟩
  ·rintro ⟨a, b, ⟨_, d, e⟩ | ⟨h, _⟩ | ⟨h, _⟩, c⟩
   ·exact ⟨⟨⟨a, b⟩, c⟩, d, e⟩
   ·cases h
   ·cases h
 ·rw [if_neg h2]
  by_cases h3 : k = 3
  ·subst h3
   rw [if_pos rfl, Bool.and_eq_true, Bool.and_eq_true, List.isEmpty_iff, Bool.not_eq_true', h13, Option.isNone_iff_eq_none]
   constructor
   ·rintro ⟨⟨⟨a, b⟩, c⟩, ⟨d, e⟩, f⟩
    exact ⟨a, b, .inr (.inl ⟨rfl, d, f, e⟩), c⟩
   ·rintro ⟨a, b, ⟨h, _⟩ | ⟨_, d, f, e⟩ | ⟨h, _⟩, c⟩
    ·cases h
    ·exact ⟨⟨⟨a, b⟩, c⟩, ⟨d, e⟩, f⟩
    ·cases h
  ·rw [if_neg h3]
   by_cases h4 : k = 4
   ·subst h4
    rw [if_pos rfl, Bool.and_eq_true, Bool.and_eq_true, Bool.and_eq_true, Bool.and_eq_true, name_iff, Bool.not_eq_true', Bool.not_eq_true', h13, Option.isNone_iff_eq_none, hbl]
    constructor
    ·rintro ⟨⟨⟨a, b⟩, c⟩, ⟨⟨⟨d, e⟩, f⟩, g⟩, h⟩
     exact ⟨a, b, .inr (.inr ⟨rfl, d, e, g, f, h⟩), c⟩
    ·rintro ⟨a, b, ⟨h, _⟩ | ⟨h, _⟩ | ⟨_, d, e, g, f, h⟩, c⟩
     ·cases h
     ·cases h
     ·exact ⟨⟨⟨a, b⟩, c⟩, ⟨⟨⟨d, e⟩, f⟩, g⟩, h⟩
   ·rw [if_neg h4]
    constructor
    ·rintro ⟨_, h⟩
     cases h
    ·rintro ⟨_, _, ⟨h, _⟩ | ⟨h, _⟩ | ⟨h, _⟩, _⟩
     ·exact absurd h h2
     ·exact absurd h h3
     ·exact absurd h h4
theorem elem_iff {n t : List UInt8} {ats : List (List UInt8 × List UInt8)} {ks : List Tr} : fitT 1 n t ats ks = true ↔ (NmOk n ∧ t = [] ∧ (∀ a ∈ ats, NmOk a.1) ∧ (∀ a ∈ ats, Ok8 a.2) ∧ (ats.map Prod.fst).Nodup ∧ touchB ks = false) := by
 unfold fitT
 rw [if_pos rfl, Bool.and_eq_true, Bool.and_eq_true, Bool.and_eq_true, Bool.and_eq_true, List.isEmpty_iff, name_iff, List.all_eq_true, decide_eq_true_iff, Bool.not_eq_true']
 constructor
 ·rintro ⟨⟨⟨⟨a, b⟩, c⟩, d⟩, e⟩
  refine ⟨b, a, fun x hx => ?_, fun x hx => ?_, d, e⟩
  ·have := c x hx
   rw [Bool.and_eq_true] at this
   exact (name_iff _).1 this.1
  ·have := c x hx
   rw [Bool.and_eq_true] at this
   exact (has_iff _).1 this.2
 ·rintro ⟨b, a, c1, c2, d, e⟩
  refine ⟨⟨⟨⟨a, b⟩, fun x hx => ?_⟩, d⟩, e⟩
  rw [Bool.and_eq_true]
  exact ⟨(name_iff _).2 (c1 x hx), (has_iff _).2 (c2 x hx)⟩
theorem fair_iff : ∀ (n : Nat) (t : Tr), t.count ≤ n → (fairT t = true ↔ FrN t ∧ VdN t)
 | 0, t, hn => by have := count_one t; omega
 | n + 1, .mk k nm x ats ks, hn => by
  rw [count_mk] at hn
  have ih : ∀ t ∈ ks, (fairT t = true ↔ FrN t ∧ VdN t) := fun t ht => fair_iff n t (by have := count_mem ht; omega)
  rw [fair_mk, Bool.and_eq_true, fr_mk, vd_mk]
  by_cases hk : k = 1
  ·subst hk
   rw [elem_iff, fairL_iff, touch_iff, vd_iff]
   constructor
   ·rintro ⟨⟨a, b, c, d, e, f⟩, g⟩
    subst b
    exact ⟨.inl ⟨rfl, a, rfl, c, e, fun t ht => ((ih t ht).1 (g t ht)).1, f, fun _ _ _ h => by cases h.2⟩, .nil, d, fun t ht => ((ih t ht).1 (g t ht)).2⟩
   ·rintro ⟨⟨_, a, b, c, e, g, f, _⟩ | ⟨_, _, ⟨h, _⟩ | ⟨h, _⟩ | ⟨h, _⟩⟩, _, d, v⟩
    ·exact ⟨⟨a, b, c, d, e, f⟩, fun t ht => (ih t ht).2 ⟨g t ht, v t ht⟩⟩
    ·cases h
    ·cases h
    ·cases h
  ·rw [leaf_iff hk]
   constructor
   ·rintro ⟨⟨rfl, rfl, l, v⟩, _⟩
    exact ⟨.inr ⟨rfl, rfl, l⟩, v, (fun _ h => by cases h), nil_vd⟩
   ·rintro ⟨⟨h, _⟩ | ⟨a, b, l⟩, v, _, _⟩
    ·exact absurd h hk
    ·subst a
     subst b
     exact ⟨⟨rfl, rfl, l, v⟩, by rw [fairL]⟩
theorem fairT_iff (t : Tr) : fairT t = true ↔ FrN t ∧ VdN t := fair_iff t.count t (Nat.le_refl _)
def asideB (l : List Tr) : Bool := l.all fun t => (t.kind == 3 || t.kind == 4) && fairT t
theorem aside_iff (l : List Tr) : asideB l = true ↔ AsideL l ∧ VdL l := by
 unfold asideB AsideL
 rw [List.all_eq_true, vd_iff]
 constructor
 ·intro h
  refine ⟨fun t ht => ?_, fun t ht => ?_⟩
  ·have := h t ht
   rw [Bool.and_eq_true, Bool.or_eq_true, beq_iff_eq, beq_iff_eq] at this
   exact ⟨((fairT_iff t).1 this.2).1, this.1⟩
  ·have := h t ht
   rw [Bool.and_eq_true] at this
   exact ((fairT_iff t).1 this.2).2
 ·rintro ⟨h1, h2⟩ t ht
  rw [Bool.and_eq_true, Bool.or_eq_true, beq_iff_eq, beq_iff_eq]
  exact ⟨(h1 t ht).2, (fairT_iff t).2 ⟨(h1 t ht).1, h2 t ht⟩⟩
theorem aside_count : ∀ {l : List Tr}, AsideL l → cntL l = l.length
 | [], _ => by rw [cntL]; rfl
 | t :: l, h => by
  rw [cntL, aside_count (fun s hs => h s (List.mem_cons_of_mem _ hs)), List.length_cons]
  obtain ⟨hf, hk⟩ := h t (List.mem_cons_self ..)
  obtain ⟨k, n, x, ats, ks⟩ := t
  rw [fr_mk] at hf
  rw [count_mk]
  have hk2 : k = 3 ∨ k = 4 := hk
  rcases hf with ⟨h1, _⟩ | ⟨rfl, rfl, _⟩
  ·omega
  ·rw [cntL, List.length_nil]
   omega
def mayB (before : List Tr) (root : Tr) (after : List Tr) : Bool :=
 asideB before && asideB after && root.kind == 1 && fairT root && decide (before.length + root.count + after.length ≤ 4096) && decide (root.depth ≤ 32) && decide ((wrD before root after).length ≤ 65536)
def attrsW : List (List UInt8) → List (List UInt8 × List UInt8) → Bool
 | _, [] => true
 | seen, a :: l => !seen.contains a.1 && nameW a.1 && hasB a.2 && attrsW (seen ++ [a.1]) l
theorem attrsW_iff : ∀ (l : List (List UInt8 × List UInt8)) (seen : List (List UInt8)), seen.Nodup → (attrsW seen l = true ↔ ((∀ a ∈ l, nameW a.1 = true ∧ hasB a.2 = true) ∧ (seen ++ l.map Prod.fst).Nodup))
 | [], seen, hs => by
  rw [attrsW, List.map_nil, List.append_nil]
  exact ⟨fun _ => ⟨(fun _ h => by cases h), hs⟩, fun _ => rfl⟩
 | a :: l, seen, hs => by
  rw [attrsW, Bool.and_eq_true, Bool.and_eq_true, Bool.and_eq_true, Bool.not_eq_true', Bool.eq_false_iff, Ne, List.contains_iff_mem, List.map_cons, List.forall_mem_cons]
  constructor
  ·rintro ⟨⟨⟨h1, h2⟩, h3⟩, h4⟩
   have hs2 : (seen ++ [a.1]).Nodup := by
    rw [List.nodup_append]
    exact ⟨hs, by simp, fun x hx y hy e => h1 (by rw [← List.mem_singleton.1 hy, ← e]; exact hx)⟩
   obtain ⟨h5, h6⟩ := (attrsW_iff l (seen ++ [a.1]) hs2).1 h4
   rw [List.append_assoc] at h6
   exact ⟨⟨⟨h2, h3⟩, h5⟩, h6⟩
  ·rintro ⟨⟨⟨h2, h3⟩, h5⟩, h6⟩
   have h7 : (seen ++ [a.1] ++ l.map Prod.fst).Nodup := by rw [List.append_assoc]; exact h6
   have hs2 : (seen ++ [a.1]).Nodup := (List.nodup_append.1 h7).1
   refine ⟨⟨⟨fun h => ?_, h2⟩, h3⟩, (attrsW_iff l (seen ++ [a.1]) hs2).2 ⟨h5, h7⟩⟩
   exact (List.nodup_append.1 hs2).2.2 a.1 h a.1 (by simp) rfl
theorem fit_elem_walk (n t : List UInt8) (ats : List (List UInt8 × List UInt8)) (ks : List Tr) : fitT 1 n t ats ks = (t.isEmpty && nameW n && attrsW [] ats && !touchB ks) := by
 have h : attrsW [] ats = (ats.all (fun a => nameW a.1 && hasB a.2) && decide (ats.map Prod.fst).Nodup) := by
  rw [Bool.eq_iff_iff, attrsW_iff ats [] (by simp), List.nil_append, Bool.and_eq_true, List.all_eq_true, decide_eq_true_iff]
  simp only [Bool.and_eq_true]
 unfold fitT
 rw [if_pos rfl, h]
 simp only [Bool.and_assoc]
theorem cut_cr : ∀ l : List UInt8, (cutS [13] l).isNone = !l.contains 13
 | [] => rfl
 | x :: l => by
  have ih := cut_cr l
  rw [cutS, List.contains_cons]
  by_cases hx : x = 13
  ·subst hx
   rfl
  ·have h1 : ([13] : List UInt8).isPrefixOf (x :: l) = false := by
    simp [List.isPrefixOf]
    exact fun e => hx e.symm
   rw [h1, if_neg Bool.false_ne_true, Option.isNone_map, ih]
   have h2 : ((13 : UInt8) == x) = false := beq_eq_false_iff_ne.2 (fun e => hx e.symm)
   rw [h2]
   rfl
theorem esc_first {v : Bool} {a : List UInt8} (ha : ∀ x ∈ a, toldB v x = false) (x : UInt8) (t : List UInt8) : escS v (a ++ x :: t) = a ++ (escC v x ++ escS v t) := by
 rw [esc_app, esc_plain ha]
 rfl
def refC (x : UInt8) : List UInt8 :=
 if x = 38 then [38, 97, 109, 112, 59] else if x = 60 then [38, 108, 116, 59] else if x = 62 then [38, 103, 116, 59] else if x = 34 then [38, 113, 117, 111, 116, 59]
 else if x = 13 then [38, 35, 49, 51, 59] else if x = 9 then [38, 35, 57, 59] else [38, 35, 49, 48, 59]
theorem escC_told {v : Bool} {x : UInt8} (h : toldB v x = true) : escC v x = refC x := by
 unfold toldB at h
 simp only [Bool.or_eq_true, beq_iff_eq, Bool.and_eq_true, Bool.not_eq_true'] at h
 rcases h with (((rfl | rfl) | rfl) | ⟨rfl, rfl⟩) | ⟨rfl, (rfl | rfl) | rfl⟩ <;> first | rfl | (cases v <;> rfl)
theorem told_texts (x : UInt8) : toldB false x = [38, 60, 62, 13].contains x := by
 unfold toldB
 simp only [List.contains_cons, List.contains_nil, Bool.not_false, Bool.and_true, Bool.false_and, Bool.or_false]
 cases x == 38 <;> cases x == 60 <;> cases x == 62 <;> cases x == 13 <;> rfl
theorem told_values (x : UInt8) : toldB true x = [38, 60, 34, 9, 10, 13].contains x := by
 unfold toldB
 simp only [List.contains_cons, List.contains_nil, Bool.not_true, Bool.and_false, Bool.true_and, Bool.or_false]
 cases x == 38 <;> cases x == 60 <;> cases x == 34 <;> cases x == 9 <;> cases x == 10 <;> cases x == 13 <;> rfl
def flatW : List (List Tr × List UInt8) → List UInt8
 | [] => []
 | l :: ls => wrL l.1 ++ (l.2 ++ flatW ls)
theorem flat_end (e : List UInt8) (ls : List (List Tr × List UInt8)) : flatW (([], e) :: ls) = e ++ flatW ls := by
 rw [flatW, wrL, List.nil_append]
theorem flat_next (t : Tr) (ts : List Tr) (e : List UInt8) (ls : List (List Tr × List UInt8)) : flatW ((t :: ts, e) :: ls) = wrN t ++ flatW ((ts, e) :: ls) := by
 rw [flatW, flatW, wrL, List.append_assoc]
theorem flat_open {n x : List UInt8} {ats : List (List UInt8 × List UInt8)} {ks : List Tr} (hk : ks ≠ []) (ts : List Tr) (e : List UInt8) (ls : List (List Tr × List UInt8)) :
  flatW ((.mk 1 n x ats ks :: ts, e) :: ls) = 60 :: (n ++ (attrsB ats ++ [62])) ++ flatW ((ks, 60 :: 47 :: (n ++ [62])) :: (ts, e) :: ls) := by
 rw [flat_next, wr_mk, if_pos rfl, if_neg (by simpa using hk)]
 show _ = 60 :: (n ++ (attrsB ats ++ [62])) ++ (wrL ks ++ ((60 :: 47 :: (n ++ [62])) ++ flatW ((ts, e) :: ls)))
 simp only [List.cons_append, List.append_assoc, List.nil_append]
def stepsW : List (List Tr × List UInt8) → Nat
 | [] => 0
 | l :: ls => 2 * cntL l.1 + 1 + stepsW ls
theorem steps_end (e : List UInt8) (ls : List (List Tr × List UInt8)) : stepsW ls < stepsW (([], e) :: ls) := by rw [stepsW]; omega
theorem steps_next (t : Tr) (ts : List Tr) (e : List UInt8) (ls : List (List Tr × List UInt8)) : stepsW ((ts, e) :: ls) < stepsW ((t :: ts, e) :: ls) := by
 have := count_one t
 rw [stepsW, stepsW, cntL]
 dsimp only
 omega
theorem steps_open (n x : List UInt8) (ats : List (List UInt8 × List UInt8)) (ks ts : List Tr) (e e2 : List UInt8) (ls : List (List Tr × List UInt8)) : stepsW ((ks, e2) :: (ts, e) :: ls) < stepsW ((.mk 1 n x ats ks :: ts, e) :: ls) := by
 rw [stepsW, stepsW, stepsW, cntL, count_mk]
 dsimp only
 omega
theorem fair_step (k : Int) (n x : List UInt8) (ats : List (List UInt8 × List UInt8)) (ks l : List Tr) : fairL (l ++ [.mk k n x ats ks]) = (fitT k n x ats ks && fairL (l ++ ks)) := by
 have h : ∀ a b : List Tr, fairL (a ++ b) = (fairL a && fairL b) := by
  intro a b
  induction a with
  | nil => rw [List.nil_append, fairL]; rfl
  | cons t a ih => rw [List.cons_append, fairL, fairL, ih, Bool.and_assoc]
 rw [h, h, fairL, fairL, fair_mk, Bool.and_true]
 cases fairL l <;> cases fitT k n x ats ks <;> cases fairL ks <;> rfl
theorem touch_at : ∀ (ks : List Tr), touchB ks = true ↔ ∃ i t u, ks[i]? = some t ∧ ks[i + 1]? = some u ∧ t.kind = 2 ∧ u.kind = 2
 | [] => by
  rw [touchB]
  exact ⟨fun h => (by cases h), fun ⟨_, _, _, h, _⟩ => by cases h⟩
 | a :: ks => by
  rw [touchB, Bool.or_eq_true, Bool.and_eq_true, beq_iff_eq, touch_at ks]
  constructor
  ·rintro (⟨h1, h2⟩ | ⟨i, t, u, h1, h2, h3⟩)
   ·cases ks with
    | nil => cases h2
    | cons b ks => exact ⟨0, a, b, rfl, rfl, h1, beq_iff_eq.1 h2⟩
   ·exact ⟨i + 1, t, u, by rw [List.getElem?_cons_succ]; exact h1, by rw [List.getElem?_cons_succ]; exact h2, h3⟩
  ·rintro ⟨i, t, u, h1, h2, h3, h4⟩
   cases i with
   | zero =>
    left
    rw [List.getElem?_cons_zero] at h1
    rw [List.getElem?_cons_succ] at h2
    cases h1
    refine ⟨h3, ?_⟩
    cases ks with
    | nil => cases h2
    | cons b ks =>
     rw [List.getElem?_cons_zero] at h2
     cases h2
     exact beq_iff_eq.2 h4
   | succ i =>
    right
    rw [List.getElem?_cons_succ] at h1 h2
    exact ⟨i, t, u, h1, h2, h3, h4⟩
theorem wrD_nodes (before : List Tr) (root : Tr) (after : List Tr) : wrD before root after = wrL (before ++ [root] ++ after) := by
 unfold wrD
 rw [wrL_app, wrL_app, wrL_one, List.append_assoc]
end Go.Proofs.YtjpkkflhcjjefaaGreatDoor
