/-
 Tokens, written and read: tags, texts, comments, instructions.
-/
import Derived.Test.YtjpkkflhcjjefaaGreatDoorXOk
namespace Go.Proofs.YtjpkkflhcjjefaaGreatDoor
def escC (v : Bool) (x : UInt8) : List UInt8 :=
 if x = 38 then [38, 97, 109, 112, 59] else if x = 60 then [38, 108, 116, 59] else if x = 13 then [38, 35, 49, 51, 59]
 else if x = 62 ∧ v = false then [38, 103, 116, 59] else if x = 34 ∧ v = true then [38, 113, 117, 111, 116, 59]
 else if x = 9 ∧ v = true then [38, 35, 57, 59] else if x = 10 ∧ v = true then [38, 35, 49, 48, 59] else [x]
def escS (v : Bool) (s : List UInt8) : List UInt8 := s.flatMap (escC v)
def toldB (v : Bool) (x : UInt8) : Bool := x == 38 || x == 60 || x == 13 || (x == 62 && !v) || (v && (x == 34 || x == 9 || x == 10))
theorem escC_plain {v : Bool} {x : UInt8} (h : toldB v x = false) : escC v x = [x] := by
 unfold toldB at h
 unfold escC
 simp only [Bool.or_eq_false_iff, beq_eq_false_iff_ne, Bool.and_eq_false_iff, Bool.not_eq_false'] at h
 obtain ⟨⟨⟨⟨h1, h2⟩, h3⟩, h4⟩, h5⟩ := h
 rw [if_neg h1, if_neg h2, if_neg h3, if_neg (fun e => by rcases h4 with h | h; exact h e.1; rw [e.2] at h; cases h)]
 rcases h5 with h5 | ⟨⟨h5, h6⟩, h7⟩
 ·rw [if_neg (fun e => by rw [e.2] at h5; cases h5), if_neg (fun e => by rw [e.2] at h5; cases h5), if_neg (fun e => by rw [e.2] at h5; cases h5)]
 ·rw [if_neg (fun e => h5 e.1), if_neg (fun e => h6 e.1), if_neg (fun e => h7 e.1)]
theorem cut_semi {m : List UInt8} (h : 59 ∉ m) (t : List UInt8) : cutS [59] (m ++ 59 :: t) = some (m, t) := by
 induction m with
 | nil => rw [List.nil_append, cutS, if_pos (by simp [List.isPrefixOf])]; rfl
 | cons b m ih =>
  have hb : (59 : UInt8) ≠ b := fun e => h (by rw [e]; exact List.mem_cons_self ..)
  rw [List.cons_append, cutS, if_neg (by simp [List.isPrefixOf]; exact hb), ih (fun e => h (List.mem_cons_of_mem _ e))]
  rfl
theorem ref_said {m : List UInt8} {n : Nat} (h : 59 ∉ m) (hn : toldS m = some n) (i : Nat) (t : List UInt8) : refS i (38 :: (m ++ 59 :: t)) = .ok n (i + (1 + m.length + 1)) t := by
 unfold refS
 rw [List.drop_succ_cons, List.drop_zero, cut_semi h]
 dsimp only
 rw [hn]
theorem told13 : toldS [35, 49, 51] = some 13 := by kernel_rfl
theorem told9 : toldS [35, 57] = some 9 := by kernel_rfl
theorem told10 : toldS [35, 49, 48] = some 10 := by kernel_rfl
theorem ref_esc {v : Bool} {x : UInt8} (h : toldB v x = true) (i : Nat) (t : List UInt8) : ∃ m, escC v x = 38 :: m ∧ refS i (escC v x ++ t) = .ok x.toNat (i + (escC v x).length) t ∧ encB x.toNat = [x] := by
 unfold toldB at h
 simp only [Bool.or_eq_true, beq_iff_eq, Bool.and_eq_true, Bool.not_eq_true'] at h
 rcases h with (((rfl | rfl) | rfl) | ⟨rfl, rfl⟩) | ⟨rfl, (rfl | rfl) | rfl⟩
 ·exact ⟨_, rfl, ref_said (m := [97, 109, 112]) (n := 38) (by decide) rfl i t, rfl⟩
 ·exact ⟨_, rfl, ref_said (m := [108, 116]) (n := 60) (by decide) rfl i t, rfl⟩
 ·exact ⟨_, rfl, ref_said (m := [35, 49, 51]) (n := 13) (by decide) told13 i t, rfl⟩
 ·exact ⟨_, rfl, ref_said (m := [103, 116]) (n := 62) (by decide) rfl i t, rfl⟩
 ·exact ⟨_, rfl, ref_said (m := [113, 117, 111, 116]) (n := 34) (by decide) rfl i t, rfl⟩
 ·exact ⟨_, rfl, ref_said (m := [35, 57]) (n := 9) (by decide) told9 i t, rfl⟩
 ·exact ⟨_, rfl, ref_said (m := [35, 49, 48]) (n := 10) (by decide) told10 i t, rfl⟩
theorem esc_app (v : Bool) (a b : List UInt8) : escS v (a ++ b) = escS v a ++ escS v b := List.flatMap_append
theorem esc_plain {v : Bool} : ∀ {a : List UInt8}, (∀ x ∈ a, toldB v x = false) → escS v a = a
 | [], _ => rfl
 | x :: a, h => by
  have h1 := escC_plain (h x (List.mem_cons_self ..))
  have h2 := esc_plain (fun y hy => h y (List.mem_cons_of_mem _ hy))
  show escC v x ++ escS v a = x :: a
  rw [h1, h2]
  rfl
theorem first_told (v : Bool) : ∀ s : List UInt8, (∀ x ∈ s, toldB v x = false) ∨ ∃ a c u, s = a ++ c :: u ∧ (∀ x ∈ a, toldB v x = false) ∧ toldB v c = true
 | [] => .inl (fun x hx => by cases hx)
 | x :: s => by
  cases hx : toldB v x with
  | true => exact .inr ⟨[], x, s, rfl, (fun y hy => by cases hy), hx⟩
  | false =>
   rcases first_told v s with h | ⟨a, c, u, rfl, h1, h2⟩
   ·exact .inl (fun y hy => by rcases List.mem_cons.1 hy with rfl | hy; exact hx; exact h y hy)
   ·exact .inr ⟨x :: a, c, u, rfl, (fun y hy => by rcases List.mem_cons.1 hy with rfl | hy; exact hx; exact h1 y hy), h2⟩
def AsQ (v : Bool) (q : Option UInt8) : Prop := (v = false ∧ q = none) ∨ (v = true ∧ q = some 34)
theorem plain_end {v : Bool} {q : Option UInt8} (hq : AsQ v q) {x : UInt8} (h : toldB v x = false) : endS q x = false := by
 unfold toldB at h
 simp only [Bool.or_eq_false_iff, beq_eq_false_iff_ne, Bool.and_eq_false_iff, Bool.not_eq_false'] at h
 obtain ⟨⟨⟨⟨h1, h2⟩, h3⟩, h4⟩, h5⟩ := h
 unfold endS
 rcases hq with ⟨rfl, rfl⟩ | ⟨rfl, rfl⟩
 ·simp [h1, h2]
 ·rcases h5 with h5 | ⟨⟨h5, h6⟩, h7⟩
  ·cases h5
  ·simp [h1, h2, h5]
theorem cut_none {m : List UInt8} {b : UInt8} (hb : b ∈ m) : ∀ {a : List UInt8}, b ∉ a → cutS m a = none
 | [], _ => rfl
 | x :: a, h => by
  rw [cutS, if_neg (fun e => by
   obtain ⟨t, ht⟩ := List.isPrefixOf_iff_prefix.1 e
   rw [← ht] at h
   exact h (List.mem_append_left _ hb)), cut_none hb (fun e => h (List.mem_cons_of_mem _ e))]
  rfl
theorem plain_turn {v : Bool} {q : Option UInt8} (hq : AsQ v q) {a : List UInt8} (h : ∀ x ∈ a, toldB v x = false) (i : Nat) : turnS q i a = .ok a := by
 have h13 : ∀ x ∈ a, x ≠ 13 := fun x hx e => by have h1 := h x hx; rw [e] at h1; cases v <;> cases h1
 rcases hq with ⟨rfl, rfl⟩ | ⟨rfl, rfl⟩
 ·have h62 : (62 : UInt8) ∉ a := fun e => by have h1 := h 62 e; cases h1
  have hc : cutS [93, 93, 62] a = none := cut_none (by decide) h62
  unfold turnS atS
  rw [hc, eols_same a h13]
  rfl
 ·unfold turnS flatS
  dsimp only
  rw [eols_same a h13]
  congr 1
  have : ∀ x ∈ a, (if x = 10 ∨ x = 9 then (32 : UInt8) else x) = x := fun x hx => by
   rw [if_neg]
   rintro (e | e)
   ·have h1 := h x hx; rw [e] at h1; cases h1
   ·have h1 := h x hx; rw [e] at h1; cases h1
  rw [List.map_congr_left this, List.map_id']
theorem run_ends {q : Option UInt8} {r : List UInt8} (hr : r = [] ∨ ∃ x t, r = x :: t ∧ endS q x = true) : ∀ {a : List UInt8}, (∀ x ∈ a, endS q x = false) → runS q (a ++ r) = a ∧ restS q (a ++ r) = r
 | [], _ => by
  rcases hr with rfl | ⟨x, t, rfl, hx⟩
  ·exact ⟨rfl, rfl⟩
  ·unfold runS restS
   rw [List.nil_append, List.takeWhile_cons, List.dropWhile_cons, hx]
   exact ⟨rfl, rfl⟩
 | y :: a, h => by
  obtain ⟨h1, h2⟩ := run_ends hr (a := a) (fun x hx => h x (List.mem_cons_of_mem _ hx))
  have hy := h y (List.mem_cons_self ..)
  unfold runS at h1 ⊢
  unfold restS at h2 ⊢
  rw [List.cons_append, List.takeWhile_cons, List.dropWhile_cons, hy]
  simp only [Bool.not_false, if_true]
  exact ⟨by rw [h1], h2⟩
theorem mix_esc {v : Bool} {q : Option UInt8} (hq : AsQ v q) {r : List UInt8} (hr : r = [] ∨ ∃ x t, r = x :: t ∧ endS q x = true ∧ x ≠ 38) : ∀ (g : Nat) (s : List UInt8) (i : Nat), s.length < g → mixG q g i (escS v s ++ r) = .ok s (i + (escS v s).length) r
 | 0, s, i, h => by omega
 | g + 1, s, i, h => by
  have hr2 : r = [] ∨ ∃ x t, r = x :: t ∧ endS q x = true := by
   rcases hr with h | ⟨x, t, h1, h2, _⟩
   ·exact .inl h
   ·exact .inr ⟨x, t, h1, h2⟩
  have h38 : [38].isPrefixOf r = false := by
   rcases hr with rfl | ⟨x, t, rfl, _, h3⟩
   ·rfl
   ·simp [List.isPrefixOf]
    exact fun e => h3 e.symm
  rcases first_told v s with hp | ⟨a, c, u, rfl, hp, hc⟩
  ·obtain ⟨h1, h2⟩ := run_ends hr2 (fun x hx => plain_end hq (hp x hx))
   rw [esc_plain hp, mixG, h1, h2, plain_turn hq hp]
   dsimp only
   rw [if_neg (by rw [h38]; exact Bool.false_ne_true)]
  ·have he : escS v (a ++ c :: u) ++ r = a ++ (escC v c ++ (escS v u ++ r)) := by
    rw [esc_app, esc_plain hp, List.append_assoc]
    show a ++ ((escC v c ++ escS v u) ++ r) = _
    rw [List.append_assoc]
   obtain ⟨m, hm, hrf, henc⟩ := ref_esc hc (i + a.length) (escS v u ++ r)
   have hx38 : endS q 38 = true := by unfold endS; simp
   obtain ⟨h1, h2⟩ := run_ends (q := q) (r := escC v c ++ (escS v u ++ r)) (.inr ⟨38, m ++ (escS v u ++ r), by rw [hm]; rfl, hx38⟩) (fun x hx => plain_end hq (hp x hx))
   have hlen : u.length < g := by rw [List.length_append, List.length_cons] at h; omega
   have ih := mix_esc hq hr g u (i + a.length + (escC v c).length) hlen
   rw [he, mixG, h1, h2, plain_turn hq hp]
   dsimp only
   rw [if_pos (by rw [hm]; simp [List.isPrefixOf]), hrf, Sx.then_ok, ih, Sx.then_ok, henc]
   have hl : (escS v (a ++ c :: u)).length = a.length + ((escC v c).length + (escS v u).length) := by
    rw [esc_app, esc_plain hp, List.length_append]
    show a.length + (escC v c ++ escS v u).length = _
    rw [List.length_append]
   rw [hl]
   congr 1
   omega
theorem esc_len (v : Bool) : ∀ s : List UInt8, s.length ≤ (escS v s).length
 | [] => Nat.zero_le _
 | x :: s => by
  have ih := esc_len v s
  have h1 : 1 ≤ (escC v x).length := by
   cases hx : toldB v x with
   | false => rw [escC_plain hx]; exact Nat.le_refl _
   | true =>
    obtain ⟨m, hm, _⟩ := ref_esc hx 0 []
    rw [hm, List.length_cons]
    omega
  show s.length + 1 ≤ (escC v x ++ escS v s).length
  rw [List.length_append]
  omega
theorem mixS_esc {v : Bool} {q : Option UInt8} (hq : AsQ v q) {r : List UInt8} (hr : r = [] ∨ ∃ x t, r = x :: t ∧ endS q x = true ∧ x ≠ 38) (s : List UInt8) (i : Nat) : mixS q i (escS v s ++ r) = .ok s (i + (escS v s).length) r :=
 mix_esc hq hr _ s i (by rw [List.length_append]; have := esc_len v s; omega)
theorem value_esc (s : List UInt8) (i : Nat) (r : List UInt8) : valueS i (34 :: (escS true s ++ 34 :: r)) = .ok s (i + ((escS true s).length + 2)) r := by
 unfold valueS
 rw [peekS, Sx.then_ok, if_neg (by decide), List.drop_succ_cons, List.drop_zero, mixS_esc (.inr ⟨rfl, rfl⟩) (.inr ⟨34, r, rfl, by decide, by decide⟩), Sx.then_ok, mustS, if_pos rfl, Sx.then_ok]
 congr 1
 omega
end Go.Proofs.YtjpkkflhcjjefaaGreatDoor
namespace Go.Proofs.YtjpkkflhcjjefaaGreatDoor
open Go.RowKit Go.Lib Go.Joins
def StopN (x : UInt8) : Prop := x.toNat < 128 ∧ inTab charsT (x.toNat : Int) = true ∧ ∀ fb, fitsB fb x.toNat = false
theorem stop32 : StopN 32 := ⟨by decide, by kernel_rfl, fun fb => by cases fb <;> kernel_rfl⟩
theorem stop61 : StopN 61 := ⟨by decide, by kernel_rfl, fun fb => by cases fb <;> kernel_rfl⟩
theorem stop47 : StopN 47 := ⟨by decide, by kernel_rfl, fun fb => by cases fb <;> kernel_rfl⟩
theorem stop62 : StopN 62 := ⟨by decide, by kernel_rfl, fun fb => by cases fb <;> kernel_rfl⟩
theorem stop63 : StopN 63 := ⟨by decide, by kernel_rfl, fun fb => by cases fb <;> kernel_rfl⟩
theorem nmG_stop {x : UInt8} (hx : StopN x) (fb : Bool) (g i : Nat) (t : List UInt8) : nmG (g + 1) fb i (x :: t) = .ok () i (x :: t) := by
 have h1 := nx_enc hx.2.1 t
 rw [encB_ascii x hx.1] at h1
 rw [nmG, if_neg (List.cons_ne_nil _ _)]
 have h2 : (nx (fs (x :: t)) (x :: t).length 0).1 = x.toNat := congrArg Prod.fst h1
 rw [h2, hx.2.2 fb]
 rfl
theorem nmG_read {x : UInt8} (hx : StopN x) (t : List UInt8) {fb : Bool} {p : List UInt8} (h : Nm8 fb p) : ∀ g i, p.length < g → nmG g fb i (p ++ x :: t) = .ok () (i + p.length) (x :: t) := by
 induction h with
 | nil fb =>
  intro g i hg
  obtain ⟨k, rfl⟩ : ∃ k, g = k + 1 := ⟨g - 1, by rw [List.length_nil] at hg; omega⟩
  exact nmG_stop hx fb k i t
 | rune fb v hv hf p _ ih =>
  intro g i hg
  obtain ⟨k, rfl⟩ : ∃ k, g = k + 1 := ⟨g - 1, by omega⟩
  have hne := encB_ne hv
  have hpos : 0 < (encB v).length := List.length_pos_iff.2 hne
  rw [List.length_append] at hg
  rw [List.append_assoc, nmG, if_neg (fun e => hne (List.append_eq_nil_iff.1 e).1), nx_enc hv]
  dsimp only
  rw [if_pos hf, List.drop_left, ih k _ (by omega), List.length_append]
  congr 1
  omega
theorem name_read {x : UInt8} (hx : StopN x) (t : List UInt8) {nm : List UInt8} (h : Nm8 true nm) (hne : nm ≠ []) (i : Nat) : nameS i (nm ++ x :: t) = .ok nm (i + nm.length) (x :: t) := by
 have hpos : 0 < nm.length := List.length_pos_iff.2 hne
 unfold nameS
 rw [nmG_read hx t h _ i (by rw [List.length_append, List.length_cons]; omega), Sx.then_ok, if_neg (by omega), Nat.add_sub_cancel_left, List.take_left]
theorem blk_none {x : UInt8} (h : blankB (x.toNat : Int) = false) (i : Nat) (t : List UInt8) : blanksS i (x :: t) = .ok false i (x :: t) := by
 unfold blanksS
 rw [blkS, h, if_neg Bool.false_ne_true, Sx.then_ok]
 simp
theorem blk_one {x : UInt8} (h : blankB (x.toNat : Int) = false) (i : Nat) (t : List UInt8) : blanksS i (32 :: x :: t) = .ok true (i + 1) (x :: t) := by
 unfold blanksS
 rw [blkS, if_pos (by kernel_rfl), blkS, h, if_neg Bool.false_ne_true, Sx.then_ok]
 simp
theorem name_head {nm : List UInt8} (h : Nm8 true nm) {x : UInt8} {t : List UInt8} (e : nm = x :: t) : blankB (x.toNat : Int) = false ∧ x ≠ 47 ∧ x ≠ 62 := by
 cases h with
 | nil => cases e
 | rune _ v hv hf p _ =>
  by_cases h128 : x.toNat < 128
  ·have hvx : v = x.toNat := by
    by_cases hv2 : v = x.toNat
    ·exact hv2
    ·cases he : encB v with
     | nil => exact absurd he (encB_ne hv)
     | cons y u =>
      rw [he, List.cons_append] at e
      injection e with e _
      exact absurd (congrArg UInt8.toNat e) (encB_not x.toNat h128 hv2 y (by rw [he]; exact List.mem_cons_self ..))
   subst hvx
   have hb : ∀ n : Fin 128, fitsB true n.val = true → blankB (n.val : Int) = false ∧ n.val ≠ 47 ∧ n.val ≠ 62 := by decide
   obtain ⟨h1, h2, h3⟩ := hb ⟨x.toNat, h128⟩ hf
   exact ⟨h1, fun e => h2 (by show x.toNat = 47; rw [e]; rfl), fun e => h3 (by show x.toNat = 62; rw [e]; rfl)⟩
  ·refine ⟨?_, fun e => h128 (by rw [e]; decide), fun e => h128 (by rw [e]; decide)⟩
   cases hb : blankB (x.toNat : Int) with
   | false => rfl
   | true =>
    exfalso
    apply h128
    unfold blankB at hb
    simp at hb
    omega
def NmOk (nm : List UInt8) : Prop := Nm8 true nm ∧ nm ≠ []
def attrB (a : List UInt8 × List UInt8) : List UInt8 := 32 :: (a.1 ++ 61 :: 34 :: (escS true a.2 ++ [34]))
def attrsB (l : List (List UInt8 × List UInt8)) : List UInt8 := l.flatMap attrB
theorem attr_read {a : List UInt8 × List UInt8} (h : NmOk a.1) {seen : List (List UInt8)} (hs : a.1 ∉ seen) (i : Nat) (r : List UInt8) :
  attrS seen i (a.1 ++ 61 :: 34 :: (escS true a.2 ++ 34 :: r)) = .ok a (i + (a.1.length + ((escS true a.2).length + 3))) r := by
 unfold attrS
 rw [name_read stop61 _ h.1 h.2, Sx.then_ok, if_neg hs, blk_none (by kernel_rfl), Sx.then_ok, mustS, if_pos rfl, Sx.then_ok, blk_none (by kernel_rfl), Sx.then_ok, value_esc, Sx.then_ok]
 congr 1
 omega
def TailB (k : Nat) (m : List UInt8) : Prop := (k = 2 ∧ m = [47, 62]) ∨ (k = 1 ∧ m = [62])
theorem tag_read {k : Nat} {m : List UInt8} (hm : TailB k m) (r : List UInt8) : ∀ (l ats : List (List UInt8 × List UInt8)) (g i : Nat), l.length < g → (∀ a ∈ l, NmOk a.1) → ((ats ++ l).map Prod.fst).Nodup →
  tagG g ats i (attrsB l ++ (m ++ r)) = .ok (k, ats ++ l) (i + ((attrsB l).length + m.length)) r
 | [], ats, g, i, hg, _, _ => by
  obtain ⟨g, rfl⟩ : ∃ k, g = k + 1 := ⟨g - 1, by rw [List.length_nil] at hg; omega⟩
  show tagG (g + 1) ats i (m ++ r) = _
  rw [List.append_nil]
  rcases hm with ⟨rfl, rfl⟩ | ⟨rfl, rfl⟩
  ·show tagG (g + 1) ats i (47 :: 62 :: r) = _
   rw [tagG, blk_none (by kernel_rfl), Sx.then_ok, peekS, Sx.then_ok, if_pos rfl, List.drop_succ_cons, List.drop_zero, mustS, if_pos rfl, Sx.then_ok]
   rfl
  ·show tagG (g + 1) ats i (62 :: r) = _
   rw [tagG, blk_none (by kernel_rfl), Sx.then_ok, peekS, Sx.then_ok, if_neg (by decide), if_pos rfl, mustS, if_pos rfl, Sx.then_ok]
   rfl
 | a :: l, ats, g, i, hg, hn, hd => by
  obtain ⟨g, rfl⟩ : ∃ k, g = k + 1 := ⟨g - 1, by omega⟩
  have ha := hn a (List.mem_cons_self ..)
  have hs : a.1 ∉ ats.map Prod.fst := by
   rw [List.map_append, List.map_cons] at hd
   exact fun e => (List.nodup_append.1 hd).2.2 _ e _ (List.mem_cons_self ..) rfl
  have he : attrsB (a :: l) ++ (m ++ r) = 32 :: (a.1 ++ 61 :: 34 :: (escS true a.2 ++ 34 :: (attrsB l ++ (m ++ r)))) := by
   show (attrB a ++ attrsB l) ++ (m ++ r) = _
   unfold attrB
   simp only [List.cons_append, List.append_assoc, List.nil_append]
  have ih := tag_read hm r l (ats ++ [a]) g (i + 1 + (a.1.length + ((escS true a.2).length + 3))) (by rw [List.length_cons] at hg; omega) (fun b hb => hn b (List.mem_cons_of_mem _ hb)) (by rw [List.append_assoc]; exact hd)
  rw [he]
  cases hnm : a.1 with
  | nil => exact absurd hnm ha.2
  | cons x t =>
   obtain ⟨h1, h2, h3⟩ := name_head ha.1 hnm
   have hat := attr_read ha hs (i + 1) (attrsB l ++ (m ++ r))
   rw [hnm] at hat
   rw [List.cons_append] at hat ⊢
   rw [tagG, blk_one h1, Sx.then_ok, peekS, Sx.then_ok, if_neg h2, if_neg h3, if_neg (by decide), hat, Sx.then_ok, ← hnm, ih, List.append_assoc]
   have hl : (attrsB (a :: l)).length = 1 + (a.1.length + ((escS true a.2).length + 3)) + (attrsB l).length := by
    show (attrB a ++ attrsB l).length = _
    unfold attrB
    simp only [List.length_append, List.length_cons, List.length_nil]
    omega
   rw [hl]
   congr 1
   omega
theorem attrsB_len : ∀ l : List (List UInt8 × List UInt8), l.length ≤ (attrsB l).length
 | [] => Nat.zero_le _
 | a :: l => by
  have ih := attrsB_len l
  show l.length + 1 ≤ (attrB a ++ attrsB l).length
  unfold attrB
  rw [List.length_append, List.length_cons]
  omega
theorem start_read {k : Nat} {m : List UInt8} (hm : TailB k m) {nm : List UInt8} (hn : NmOk nm) {l : List (List UInt8 × List UInt8)} (ha : ∀ a ∈ l, NmOk a.1) (hd : (l.map Prod.fst).Nodup) (i : Nat) (r : List UInt8) :
  startS i (nm ++ (attrsB l ++ (m ++ r))) = .ok (k, nm, l) (i + (nm.length + ((attrsB l).length + m.length))) r := by
 have key : ∀ x t, StopN x → attrsB l ++ (m ++ r) = x :: t → startS i (nm ++ (attrsB l ++ (m ++ r))) = .ok (k, nm, l) (i + (nm.length + ((attrsB l).length + m.length))) r := by
  intro x t hx he
  unfold startS
  rw [he, name_read hx t hn.1 hn.2, Sx.then_ok, ← he, tag_read hm r l [] _ _ (by
   have := attrsB_len l
   rw [List.length_append]
   omega) ha hd, Sx.then_ok]
  dsimp only
  rw [List.nil_append]
  congr 1
  omega
 cases l with
 | cons a l => exact key 32 _ stop32 rfl
 | nil =>
  rcases hm with ⟨rfl, rfl⟩ | ⟨rfl, rfl⟩
  ·exact key 47 _ stop47 rfl
  ·exact key 62 _ stop62 rfl
theorem endTag_read {nm : List UInt8} (hn : NmOk nm) (i : Nat) (r : List UInt8) : endTagS i (nm ++ 62 :: r) = .ok nm (i + (nm.length + 1)) r := by
 unfold endTagS
 rw [name_read stop62 r hn.1 hn.2, Sx.then_ok, blk_none (by kernel_rfl), Sx.then_ok, mustS, if_pos rfl, Sx.then_ok]
 rfl
theorem name_head2 {nm : List UInt8} (h : Nm8 true nm) {x : UInt8} {t : List UInt8} (e : nm = x :: t) : x ≠ 33 ∧ x ≠ 63 := by
 cases h with
 | nil => cases e
 | rune _ v hv hf p _ =>
  have key : ∀ n : Nat, n < 128 → fitsB true n = false → ∀ y ∈ encB v, y.toNat ≠ n := fun n hn hb => encB_not n hn (fun e2 => by rw [e2, hb] at hf; cases hf)
  cases he : encB v with
  | nil => exact absurd he (encB_ne hv)
  | cons y u =>
   rw [he, List.cons_append] at e
   injection e with e _
   have hy : y ∈ encB v := by rw [he]; exact List.mem_cons_self ..
   exact ⟨fun e2 => key 33 (by decide) (by kernel_rfl) y hy (by rw [e, e2]; rfl), fun e2 => key 63 (by decide) (by kernel_rfl) y hy (by rw [e, e2]; rfl)⟩
theorem opens_past {c d : UInt8} (h : c ≠ d) (m u : List UInt8) (i : Nat) : opensS (60 :: d :: m) i (60 :: c :: u) = .ok false i (60 :: c :: u) := by
 have h1 : (60 :: c :: u).isPrefixOf (60 :: d :: m) = false := by simp [List.isPrefixOf, h]
 have h2 : (60 :: d :: m).isPrefixOf (60 :: c :: u) = false := by simp [List.isPrefixOf]; exact fun e => absurd e.symm h
 unfold opensS
 rw [if_neg (by rw [h1]; simp), h2, if_neg Bool.false_ne_true]
theorem opens_mark (m u : List UInt8) (i : Nat) : opensS m i (m ++ u) = .ok true (i + m.length) u := by
 unfold opensS
 rw [if_neg (by rw [List.length_append]; omega), if_pos (List.isPrefixOf_iff_prefix.2 ⟨u, rfl⟩), List.drop_left]
theorem len_no {i : Nat} {r : List UInt8} (yes : Nat → List UInt8 → Sx Tk) (no : Sx Tk) : lenS i (.ok false i r) yes no = no := rfl
theorem len_yes {i j : Nat} {r : List UInt8} (yes : Nat → List UInt8 → Sx Tk) (no : Sx Tk) : lenS i (.ok true j r) yes no = yes j r := rfl
theorem tok_start {k : Nat} {m : List UInt8} (hm : TailB k m) {nm : List UInt8} (hn : NmOk nm) {l : List (List UInt8 × List UInt8)} (ha : ∀ a ∈ l, NmOk a.1) (hd : (l.map Prod.fst).Nodup) (i : Nat) (r : List UInt8) :
  tokS i (60 :: (nm ++ (attrsB l ++ (m ++ r)))) = .ok ⟨k, i, nm, [], l⟩ (i + (1 + (nm.length + ((attrsB l).length + m.length)))) r := by
 have hst := start_read hm hn ha hd (i + 1) r
 cases hnm : nm with
 | nil => exact absurd hnm hn.2
 | cons x t =>
  obtain ⟨_, h47, _⟩ := name_head hn.1 hnm
  obtain ⟨h33, h63⟩ := name_head2 hn.1 hnm
  rw [hnm, List.cons_append] at hst
  rw [List.cons_append]
  have h1 := opens_mark [60] (x :: (t ++ (attrsB l ++ (m ++ r)))) i
  rw [List.singleton_append] at h1
  unfold tokS
  rw [if_neg (by simp [List.isPrefixOf]), opens_past h33, len_no, opens_past h33, len_no, opens_past h33, len_no, opens_past h63, len_no, opens_past h47, len_no, h1, len_yes]
  show (startS (i + 1) _).then _ = _
  rw [hst, Sx.then_ok]
  congr 1
  omega
theorem tok_end {nm : List UInt8} (hn : NmOk nm) (i : Nat) (r : List UInt8) : tokS i (60 :: 47 :: (nm ++ 62 :: r)) = .ok ⟨3, i, nm, [], []⟩ (i + (2 + (nm.length + 1))) r := by
 have h1 := opens_mark [60, 47] (nm ++ 62 :: r) i
 rw [show [60, 47] ++ (nm ++ 62 :: r) = 60 :: 47 :: (nm ++ 62 :: r) from rfl] at h1
 unfold tokS
 rw [if_neg (by simp [List.isPrefixOf]), opens_past (by decide), len_no, opens_past (by decide), len_no, opens_past (by decide), len_no, opens_past (by decide), len_no, h1, len_yes]
 show (endTagS (i + 2) _).then _ = _
 rw [endTag_read hn, Sx.then_ok]
 congr 1
 omega
theorem tok_text {s : List UInt8} (hs : s ≠ []) {r : List UInt8} (hr : r = [] ∨ ∃ t, r = 60 :: t) (i : Nat) : tokS i (escS false s ++ r) = .ok ⟨4, i, [], s, []⟩ (i + (escS false s).length) r := by
 have h60 : [60].isPrefixOf (escS false s ++ r) = false := by
  cases s with
  | nil => exact absurd rfl hs
  | cons x s =>
   show [60].isPrefixOf ((escC false x ++ escS false s) ++ r) = false
   cases hx : toldB false x with
   | false =>
    rw [escC_plain hx]
    have : x ≠ 60 := fun e => by rw [e] at hx; cases hx
    simp [List.isPrefixOf]
    exact fun e => this e.symm
   | true =>
    obtain ⟨m, hm, _⟩ := ref_esc hx 0 []
    rw [hm]
    simp [List.isPrefixOf]
 unfold tokS
 rw [if_pos h60, mixS_esc (.inl ⟨rfl, rfl⟩) (by
  rcases hr with rfl | ⟨t, rfl⟩
  ·exact .inl rfl
  ·exact .inr ⟨60, t, rfl, by decide, by decide⟩), Sx.then_ok]
theorem cut_dash : ∀ {t : List UInt8}, cutS [45, 45] (t ++ [45]) = none → ∀ r, cutS [45, 45] (t ++ 45 :: 45 :: r) = some (t, r)
 | [], _, r => by
  rw [List.nil_append, cutS, if_pos (by simp [List.isPrefixOf])]
  rfl
 | x :: t, h, r => by
  rw [List.cons_append, cutS] at h
  split at h
  ·cases h
  ·rename_i hp
   have h2 : cutS [45, 45] (t ++ [45]) = none := by
    cases hq : cutS [45, 45] (t ++ [45]) with
    | none => rfl
    | some q => rw [hq] at h; cases h
   have hp2 : ¬ ([45, 45].isPrefixOf (x :: (t ++ 45 :: 45 :: r)) = true) := fun e => hp (by
    cases t with
    | nil => simpa [List.isPrefixOf] using e
    | cons y t => simpa [List.isPrefixOf] using e)
   rw [List.cons_append, cutS, if_neg hp2, cut_dash h2 r]
   rfl
theorem cut_mark : ∀ {t : List UInt8}, cutS [63, 62] t = none → ∀ r, cutS [63, 62] (t ++ 63 :: 62 :: r) = some (t, r)
 | [], _, r => by
  rw [List.nil_append, cutS, if_pos (by simp [List.isPrefixOf])]
  rfl
 | x :: t, h, r => by
  rw [cutS] at h
  split at h
  ·cases h
  ·rename_i hp
   have h2 : cutS [63, 62] t = none := by
    cases hq : cutS [63, 62] t with
    | none => rfl
    | some q => rw [hq] at h; cases h
   have hp2 : ¬ ([63, 62].isPrefixOf (x :: (t ++ 63 :: 62 :: r)) = true) := fun e => by
    cases t with
    | nil => simp [List.isPrefixOf] at e
    | cons y t => exact hp (by simpa [List.isPrefixOf] using e)
   rw [List.cons_append, cutS, if_neg hp2, cut_mark h2 r]
   rfl
theorem tok_comment {t : List UInt8} (h : cutS [45, 45] (t ++ [45]) = none) (h13 : ∀ x ∈ t, x ≠ 13) (i : Nat) (r : List UInt8) :
  tokS i (60 :: 33 :: 45 :: 45 :: (t ++ 45 :: 45 :: 62 :: r)) = .ok ⟨6, i, [], t, []⟩ (i + (4 + (t.length + 3))) r := by
 have h1 := opens_mark [60, 33, 45, 45] (t ++ 45 :: 45 :: 62 :: r) i
 rw [show [60, 33, 45, 45] ++ (t ++ 45 :: 45 :: 62 :: r) = 60 :: 33 :: 45 :: 45 :: (t ++ 45 :: 45 :: 62 :: r) from rfl] at h1
 unfold tokS
 rw [if_neg (by simp [List.isPrefixOf]), h1, len_yes]
 show (commentS (i + 4) _).then _ = _
 unfold commentS upToS
 rw [cut_dash h]
 dsimp only
 rw [Sx.then_ok, peekS, Sx.then_ok, if_neg (by decide), Sx.then_ok, eols_same t h13]
 show Sx.ok _ _ _ = _
 congr 1
 simp only [List.length_cons, List.length_nil]
 omega
theorem tok_pi {nm t : List UInt8} (hn : NmOk nm) (hx : sameS nm [120, 109, 108] = false) (h : cutS [63, 62] t = none) (h13 : ∀ x ∈ t, x ≠ 13) (hb : ∀ x u, t = x :: u → blankB (x.toNat : Int) = false) (i : Nat) (r : List UInt8) :
  tokS i (60 :: 63 :: (nm ++ ((if t = [] then [] else 32 :: t) ++ 63 :: 62 :: r))) = .ok ⟨7, i, nm, t, []⟩ (i + (2 + (nm.length + ((if t = [] then [] else 32 :: t).length + 2)))) r := by
 have h1 := opens_mark [60, 63] (nm ++ ((if t = [] then [] else 32 :: t) ++ 63 :: 62 :: r)) i
 rw [show [60, 63] ++ (nm ++ ((if t = [] then [] else 32 :: t) ++ 63 :: 62 :: r)) = 60 :: 63 :: (nm ++ ((if t = [] then [] else 32 :: t) ++ 63 :: 62 :: r)) from rfl] at h1
 unfold tokS
 rw [if_neg (by simp [List.isPrefixOf]), opens_past (by decide), len_no, opens_past (by decide), len_no, opens_past (by decide), len_no, h1, len_yes]
 show (piS (i + 2) _).then _ = _
 unfold piS
 cases t with
 | nil =>
  rw [if_pos rfl, List.nil_append, name_read stop63 _ hn.1 hn.2, Sx.then_ok, hx, if_neg Bool.false_ne_true, blk_none (by kernel_rfl), Sx.then_ok, if_neg Bool.false_ne_true, mustS, if_pos rfl, Sx.then_ok, mustS, if_pos rfl, Sx.then_ok, Sx.then_ok]
  congr 1
  simp only [List.length_nil]
  omega
 | cons x u =>
  have hbx := hb x u rfl
  rw [if_neg (List.cons_ne_nil _ _), List.cons_append, name_read stop32 _ hn.1 hn.2, Sx.then_ok, hx, if_neg Bool.false_ne_true, List.cons_append, blk_one hbx, Sx.then_ok, if_pos rfl, ← List.cons_append]
  unfold upToS
  rw [cut_mark h]
  dsimp only
  rw [Sx.then_ok, Sx.then_ok, eols_same (x :: u) h13]
  congr 1
  simp only [List.length_cons, List.length_nil]
  omega
end Go.Proofs.YtjpkkflhcjjefaaGreatDoor
