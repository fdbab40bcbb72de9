/-
 Bytes that are those of runes that XML has, one behind the other: up to an ASCII byte and behind it they are such, with ends of lines turned they are; names by their runes.
-/
import Derived.Test.YtjpkkflhcjjefaaGreatDoorXV
import Derived.KernelRfl
namespace Go.Proofs.YtjpkkflhcjjefaaGreatDoor
def Sx.Fwd {α : Type} (i : Nat) (r : List UInt8) (s : Sx α) : Prop := ∀ x j t, s = .ok x j t → ∃ p : List UInt8, r = p ++ t ∧ j = i + p.length
def Sx.Fwd1 {α : Type} (i : Nat) (r : List UInt8) (s : Sx α) : Prop := ∀ x j t, s = .ok x j t → ∃ p : List UInt8, r = p ++ t ∧ j = i + p.length ∧ 0 < p.length
theorem Sx.Fwd1.fwd {α : Type} {i : Nat} {r : List UInt8} {s : Sx α} (h : s.Fwd1 i r) : s.Fwd i r := fun x j t e => let ⟨p, h1, h2, _⟩ := h x j t e; ⟨p, h1, h2⟩
theorem Sx.fwd_no {α : Type} (i : Nat) (r : List UInt8) (c p : Nat) : (Sx.no c p : Sx α).Fwd i r := fun _ _ _ e => by cases e
theorem Sx.fwd1_no {α : Type} (i : Nat) (r : List UInt8) (c p : Nat) : (Sx.no c p : Sx α).Fwd1 i r := fun _ _ _ e => by cases e
theorem Sx.fwd_here {α : Type} (x : α) (i : Nat) (r : List UInt8) : (Sx.ok x i r).Fwd i r := fun _ _ _ e => by cases e; exact ⟨[], rfl, rfl⟩
theorem Sx.Fwd.then {α β : Type} {i : Nat} {r : List UInt8} {s : Sx α} {f : α → Nat → List UInt8 → Sx β} (h : s.Fwd i r) (hf : ∀ x j t, s = .ok x j t → (f x j t).Fwd j t) : (s.then f).Fwd i r := by
 intro y k u e
 cases s with
 | no c p => cases e
 | ok x j t =>
  obtain ⟨p, h1, h2⟩ := h x j t rfl
  obtain ⟨q, h3, h4⟩ := hf x j t rfl y k u e
  exact ⟨p ++ q, by rw [h1, h3, List.append_assoc], by rw [h4, h2, List.length_append, Nat.add_assoc]⟩
theorem Sx.Fwd1.then {α β : Type} {i : Nat} {r : List UInt8} {s : Sx α} {f : α → Nat → List UInt8 → Sx β} (h : s.Fwd1 i r) (hf : ∀ x j t, s = .ok x j t → (f x j t).Fwd j t) : (s.then f).Fwd1 i r := by
 intro y k u e
 cases s with
 | no c p => cases e
 | ok x j t =>
  obtain ⟨p, h1, h2, h0⟩ := h x j t rfl
  obtain ⟨q, h3, h4⟩ := hf x j t rfl y k u e
  exact ⟨p ++ q, by rw [h1, h3, List.append_assoc], by rw [h4, h2, List.length_append, Nat.add_assoc], by rw [List.length_append]; omega⟩
theorem Sx.Fwd1.shorter {α : Type} {i : Nat} {r : List UInt8} {s : Sx α} (h : s.Fwd1 i r) {x : α} {j : Nat} {t : List UInt8} (e : s = .ok x j t) : t.length < r.length := by
 obtain ⟨p, h1, _, h3⟩ := h x j t e
 rw [h1, List.length_append]
 omega
theorem mustS_fwd1 (c : UInt8) (i : Nat) (r : List UInt8) : (mustS c i r).Fwd1 i r := by
 cases r with
 | nil => exact Sx.fwd1_no _ _ _ _
 | cons x t =>
  rw [mustS]
  split
  ·intro y k u e; cases e; exact ⟨[x], rfl, rfl, Nat.one_pos⟩
  ·exact Sx.fwd1_no _ _ _ _
theorem blkS_fwd : ∀ (r : List UInt8) (i : Nat), (blkS i r).Fwd i r
 | [], i => Sx.fwd_no _ _ _ _
 | x :: t, i => by
  rw [blkS]
  split
  ·intro y k u e
   obtain ⟨p, h1, h2⟩ := blkS_fwd t (i + 1) y k u e
   exact ⟨x :: p, by rw [h1]; rfl, by rw [h2, List.length_cons]; omega⟩
  ·exact Sx.fwd_here _ _ _
theorem blanksS_fwd (i : Nat) (r : List UInt8) : (blanksS i r).Fwd i r := (blkS_fwd r i).then fun _ _ _ _ => Sx.fwd_here _ _ _
theorem nmG_fwd : ∀ (g : Nat) (fb : Bool) (i : Nat) (r : List UInt8), (nmG g fb i r).Fwd i r
 | 0, _, _, _ => Sx.fwd_no _ _ _ _
 | g + 1, fb, i, r => by
  rw [nmG]
  split
  ·exact Sx.fwd_no _ _ _ _
  ·next hr =>
   split
   ·next hf =>
    intro y k u e
    obtain ⟨p, h1, h2⟩ := nmG_fwd g false _ _ y k u e
    have hfit := nx_fits (f := fs r) (N := r.length) (p := 0) (by cases r with | nil => exact absurd rfl hr | cons => rw [List.length_cons]; omega) (goes_of_fits hf)
    refine ⟨r.take (nx (fs r) r.length 0).2 ++ p, by rw [List.append_assoc, ← h1, List.take_append_drop], ?_⟩
    rw [h2, List.length_append, List.length_take, Nat.min_eq_left (by omega), Nat.add_assoc]
   ·exact Sx.fwd_here _ _ _
theorem nameS_fwd1 (i : Nat) (r : List UInt8) : (nameS i r).Fwd1 i r := by
 intro y k u e
 unfold nameS at e
 cases hn : nmG r.length true i r with
 | no c p => rw [hn] at e; cases e
 | ok x j t =>
  rw [hn, Sx.then_ok] at e
  obtain ⟨p, h1, h2⟩ := nmG_fwd _ _ _ _ x j t hn
  split at e
  ·cases e
  ·next hj => cases e; exact ⟨p, h1, h2, by omega⟩
theorem upToS_fwd (m : List UInt8) (i : Nat) (r : List UInt8) : (upToS m i r).Fwd i r := by
 intro y k u e
 unfold upToS at e
 cases hc : cutS m r with
 | none => rw [hc] at e; cases e
 | some q =>
  rw [hc] at e
  cases e
  have := cutS_split m hc
  exact ⟨q.1 ++ m, by rw [List.append_assoc]; exact this, by rw [List.length_append, Nat.add_assoc]⟩
theorem refS_fwd1 (i : Nat) (x : UInt8) (r : List UInt8) : (refS i (x :: r)).Fwd1 i (x :: r) := by
 intro y k u e
 unfold refS at e
 rw [show (x :: r).drop 1 = r from rfl] at e
 cases hc : cutS [59] r with
 | none => rw [hc] at e; cases e
 | some q =>
  rw [hc] at e
  dsimp only at e
  cases ht : toldS q.1 with
  | none => rw [ht] at e; cases e
  | some n =>
   rw [ht] at e
   cases e
   have := cutS_split [59] hc
   refine ⟨x :: (q.1 ++ [59]), ?_, ?_, by simp⟩
   ·rw [List.cons_append, List.append_assoc]; exact congrArg (x :: ·) this
   ·rw [List.length_cons, List.length_append]; simp only [List.length_cons, List.length_nil]; omega
theorem run_rest9 (q : Option UInt8) (r : List UInt8) : runS q r ++ restS q r = r := List.takeWhile_append_dropWhile
theorem mixG_fwd (q : Option UInt8) : ∀ (g i : Nat) (r : List UInt8), (mixG q g i r).Fwd i r
 | 0, _, _ => Sx.fwd_no _ _ _ _
 | g + 1, i, r => by
  rw [mixG]
  split
  ·exact Sx.fwd_no _ _ _ _
  ·next t _ =>
   have hrr := run_rest9 q r
   split
   ·next hp =>
    intro y k u e
    cases hrest : restS q r with
    | nil => rw [hrest] at hp; cases hp
    | cons x rest =>
     rw [hrest] at e hrr
     obtain ⟨p, h1, h2⟩ := ((refS_fwd1 (i + (runS q r).length) x rest).fwd.then fun n j t2 _ => (mixG_fwd q g j t2).then fun u k t3 _ => Sx.fwd_here (t ++ (encB n ++ u)) k t3) y k u e
     exact ⟨runS q r ++ p, by rw [List.append_assoc, ← h1, hrr], by rw [h2, List.length_append, Nat.add_assoc]⟩
   ·intro y k u e
    cases e
    exact ⟨runS q r, hrr.symm, rfl⟩
theorem mixS_fwd (q : Option UInt8) (i : Nat) (r : List UInt8) : (mixS q i r).Fwd i r := mixG_fwd q _ i r
theorem valueS_fwd (i : Nat) (r : List UInt8) : (valueS i r).Fwd i r := by
 intro y k u e
 cases r with
 | nil => cases e
 | cons x t =>
  unfold valueS at e
  rw [show peekS i (x :: t) = .ok x i (x :: t) from rfl, Sx.then_ok] at e
  split at e
  ·cases e
  ·rw [show (x :: t).drop 1 = t from rfl] at e
   obtain ⟨p, h1, h2⟩ := ((mixS_fwd (some x) (i + 1) t).then fun v j t2 _ => (mustS_fwd1 x j t2).fwd.then fun _ k t3 _ => Sx.fwd_here v k t3) y k u e
   exact ⟨x :: p, by rw [h1]; rfl, by rw [h2, List.length_cons]; omega⟩
theorem attrS_fwd1 (ns : List (List UInt8)) (i : Nat) (r : List UInt8) : (attrS ns i r).Fwd1 i r := by
 unfold attrS
 refine (nameS_fwd1 i r).then fun nm j t _ => ?_
 split
 ·exact Sx.fwd_no _ _ _ _
 ·exact (blanksS_fwd j t).then fun _ j t _ => (mustS_fwd1 61 j t).fwd.then fun _ j t _ => (blanksS_fwd j t).then fun _ j t _ => (valueS_fwd j t).then fun v j t _ => Sx.fwd_here (nm, v) j t
theorem tagG_fwd : ∀ (g : Nat) (ats : List (List UInt8 × List UInt8)) (i : Nat) (r : List UInt8), (tagG g ats i r).Fwd i r
 | 0, _, _, _ => Sx.fwd_no _ _ _ _
 | g + 1, ats, i, r => by
  rw [tagG]
  refine (blanksS_fwd i r).then fun apart j t _ => ?_
  cases t with
  | nil => exact Sx.fwd_no _ _ _ _
  | cons x t =>
   rw [show peekS j (x :: t) = .ok x j (x :: t) from rfl, Sx.then_ok]
   split
   ·rw [show (x :: t).drop 1 = t from rfl]
    intro y k u e
    obtain ⟨p, h1, h2⟩ := ((mustS_fwd1 62 (j + 1) t).fwd.then fun _ k t3 _ => Sx.fwd_here (2, ats) k t3) y k u e
    exact ⟨x :: p, by rw [h1]; rfl, by rw [h2, List.length_cons]; omega⟩
   ·split
    ·exact (mustS_fwd1 62 j (x :: t)).fwd.then fun _ k t3 _ => Sx.fwd_here (1, ats) k t3
    ·split
     ·exact Sx.fwd_no _ _ _ _
     ·exact (attrS_fwd1 (ats.map Prod.fst) j (x :: t)).fwd.then fun a k t2 _ => tagG_fwd g (ats ++ [a]) k t2
theorem startS_fwd1 (i : Nat) (r : List UInt8) : (startS i r).Fwd1 i r :=
 (nameS_fwd1 i r).then fun nm j t _ => (tagG_fwd (t.length + 1) [] j t).then fun q k t2 _ => Sx.fwd_here (q.1, nm, q.2) k t2
theorem endTagS_fwd (i : Nat) (r : List UInt8) : (endTagS i r).Fwd i r :=
 (nameS_fwd1 i r).fwd.then fun nm j t _ => (blanksS_fwd j t).then fun _ j t _ => (mustS_fwd1 62 j t).fwd.then fun _ k t2 _ => Sx.fwd_here nm k t2
theorem piS_fwd (i : Nat) (r : List UInt8) : (piS i r).Fwd i r := by
 unfold piS
 refine (nameS_fwd1 i r).fwd.then fun nm j t _ => ?_
 split
 ·exact Sx.fwd_no _ _ _ _
 ·refine (blanksS_fwd j t).then fun b j t _ => ?_
  split
  ·exact (upToS_fwd _ j t).then fun u k t2 _ => Sx.fwd_here (nm, u) k t2
  ·exact (mustS_fwd1 63 j t).fwd.then fun _ j t _ => (mustS_fwd1 62 j t).fwd.then fun _ k t2 _ => Sx.fwd_here (nm, []) k t2
theorem commentS_fwd (i : Nat) (r : List UInt8) : (commentS i r).Fwd i r := by
 unfold commentS
 refine (upToS_fwd _ i r).then fun u j t _ => ?_
 cases t with
 | nil => exact Sx.fwd_no _ _ _ _
 | cons x t =>
  rw [show peekS j (x :: t) = .ok x j (x :: t) from rfl, Sx.then_ok]
  split
  ·exact Sx.fwd_no _ _ _ _
  ·intro y k u e
   cases e
   exact ⟨[x], rfl, rfl⟩
theorem opens_yes {m : List UInt8} {i j : Nat} {r t : List UInt8} (h : opensS m i r = .ok true j t) : r = m ++ t ∧ j = i + m.length := by
 unfold opensS at h
 split at h
 ·cases h
 ·split at h
  ·next hp =>
   cases h
   obtain ⟨s, hs⟩ := List.isPrefixOf_iff_prefix.1 hp
   rw [← hs]
   simp
  ·cases h
theorem opens_no {m : List UInt8} {i j : Nat} {r t : List UInt8} (h : opensS m i r = .ok false j t) : j = i ∧ t = r := by
 unfold opensS at h
 split at h
 ·cases h
 ·split at h
  ·cases h
  ·cases h; exact ⟨rfl, rfl⟩
theorem lenS_fwd1 {m : List UInt8} (hm : 0 < m.length) {i : Nat} {r : List UInt8} {yes : Nat → List UInt8 → Sx Tk} {no : Sx Tk} (hy : ∀ j t, (yes j t).Fwd j t) (hn : no.Fwd1 i r) : (lenS i (opensS m i r) yes no).Fwd1 i r := by
 unfold lenS
 cases ho : opensS m i r with
 | no c p => exact Sx.fwd1_no _ _ _ _
 | ok b j t =>
  rw [Sx.then_ok]
  cases b with
  | true =>
   rw [if_pos rfl]
   obtain ⟨h1, h2⟩ := opens_yes ho
   intro y k u e
   obtain ⟨p, h3, h4⟩ := hy j t y k u e
   exact ⟨m ++ p, by rw [h1, h3, List.append_assoc], by rw [h4, h2, List.length_append, Nat.add_assoc], by rw [List.length_append]; omega⟩
  | false =>
   rw [if_neg Bool.false_ne_true]
   exact hn
theorem runS_pos (q : Option UInt8) (x : UInt8) (r : List UInt8) (h : endS q x = false) : 0 < (runS q (x :: r)).length := by
 unfold runS
 rw [List.takeWhile_cons_of_pos (by rw [h]; rfl), List.length_cons]
 omega
theorem tokS_fwd1 (i : Nat) (x : UInt8) (r : List UInt8) : (tokS i (x :: r)).Fwd1 i (x :: r) := by
 unfold tokS
 split
 ·next hp =>
  intro y k u e
  have hx : x ≠ 60 := by
   intro h
   rw [h] at hp
   cases hp
  cases hm : mixS none i (x :: r) with
  | no c p => rw [hm] at e; cases e
  | ok v j t =>
   rw [hm, Sx.then_ok] at e
   cases e
   by_cases h38 : x = 38
   ·obtain ⟨p, h1, h2⟩ := mixS_fwd none i (x :: r) v k u hm
    refine ⟨p, h1, h2, ?_⟩
    cases p with
    | cons => rw [List.length_cons]; omega
    | nil =>
     exfalso
     -- a reference goes on
     unfold mixS at hm
     rw [mixG] at hm
     have he : endS none x = true := by rw [h38]; rfl
     have hrun : runS none (x :: r) = [] := by unfold runS; rw [List.takeWhile_cons_of_neg (by rw [he]; decide)]
     have hrest : restS none (x :: r) = x :: r := by unfold restS; rw [List.dropWhile_cons_of_neg (by rw [he]; decide)]
     rw [hrun, hrest] at hm
     have ht : turnS none i [] = .ok [] := rfl
     rw [ht] at hm
     dsimp only at hm
     rw [if_pos (by rw [h38]; rfl)] at hm
     obtain ⟨p, h3, h4, h5⟩ := ((refS_fwd1 (i + ([] : List UInt8).length) x r).then fun n j t2 _ => (mixG_fwd none (x :: r).length j t2).then fun u k t3 _ => Sx.fwd_here ([] ++ (encB n ++ u)) k t3) v k u hm
     rw [List.length_nil] at h2 h4
     omega
   ·have he : endS none x = false := by
     unfold endS
     rw [beq_eq_false_iff_ne.2 hx, beq_eq_false_iff_ne.2 h38]
     rfl
    have hpos := runS_pos none x r he
    unfold mixS at hm
    rw [mixG] at hm
    cases htn : turnS none i (runS none (x :: r)) with
    | error p => rw [htn] at hm; cases hm
    | ok t0 =>
     rw [htn] at hm
     dsimp only at hm
     have hrr := run_rest9 none (x :: r)
     split at hm
     ·next hp2 =>
      cases hrest : restS none (x :: r) with
      | nil => rw [hrest] at hp2; cases hp2
      | cons x1 rest =>
       rw [hrest] at hm hrr
       obtain ⟨p, h1, h2⟩ := ((refS_fwd1 (i + (runS none (x :: r)).length) x1 rest).fwd.then fun n j t2 _ => (mixG_fwd none (x :: r).length j t2).then fun u k t3 _ => Sx.fwd_here (t0 ++ (encB n ++ u)) k t3) v k u hm
       exact ⟨runS none (x :: r) ++ p, by rw [List.append_assoc, ← h1, hrr], by rw [h2, List.length_append, Nat.add_assoc], by rw [List.length_append]; omega⟩
     ·cases hm
      exact ⟨runS none (x :: r), hrr.symm, rfl, hpos⟩
 ·next hp =>
  have hx : x = 60 := by
   by_cases h : x = 60
   ·exact h
   ·exfalso
    apply hp
    show ((60 : UInt8) == x && true) = false
    rw [beq_eq_false_iff_ne.2 (fun e => h e.symm)]
    rfl
  refine lenS_fwd1 (by decide) (fun j t => (commentS_fwd j t).then fun u k t2 _ => Sx.fwd_here _ k t2) ?_
  refine lenS_fwd1 (by decide) (fun j t => (upToS_fwd _ j t).then fun u k t2 _ => Sx.fwd_here _ k t2) ?_
  refine lenS_fwd1 (by decide) (fun j t => Sx.fwd_no _ _ _ _) ?_
  refine lenS_fwd1 (by decide) (fun j t => (piS_fwd j t).then fun u k t2 _ => Sx.fwd_here _ k t2) ?_
  refine lenS_fwd1 (by decide) (fun j t => (endTagS_fwd j t).then fun u k t2 _ => Sx.fwd_here _ k t2) ?_
  -- the last mark always stands here
  unfold lenS
  have ho : opensS [60] i (x :: r) = .ok true (i + 1) r := by
   unfold opensS
   rw [if_neg (by rw [List.length_cons, List.length_cons, List.length_nil]; omega), hx, if_pos (by rfl)]
   rfl
  rw [ho, Sx.then_ok, if_pos rfl]
  intro y k u e
  obtain ⟨p, h1, h2⟩ := ((startS_fwd1 (i + 1) r).fwd.then fun q k t2 _ => Sx.fwd_here (⟨q.1, i, q.2.1, [], q.2.2⟩ : Tk) k t2) y k u e
  exact ⟨x :: p, by rw [h1]; rfl, by rw [h2, List.length_cons]; omega, by rw [List.length_cons]; omega⟩
end Go.Proofs.YtjpkkflhcjjefaaGreatDoor
namespace Go.Proofs.YtjpkkflhcjjefaaGreatDoor
open Go.RowKit Go.Lib Go.Joins
def badL (l : List UInt8) : Int := badZ (fs l) l.length
theorem bad_fuel (f : Nat → Nat) (N : Nat) : ∀ g g' p, N - p ≤ g → N - p ≤ g' → badFrom f N g p = badFrom f N g' p
 | 0, g', p, h, _ => by
  cases g' with
  | zero => rfl
  | succ g' => rw [badFrom, badFrom, if_neg (by omega)]
 | g + 1, g', p, h, h' => by
  cases g' with
  | zero => rw [badFrom, badFrom, if_neg (by omega)]
  | succ g' =>
   rw [badFrom, badFrom]
   split
   ·split
    ·rfl
    ·exact bad_fuel f N g g' _ (by omega) (by omega)
   ·rfl
theorem nx_shift (a l : List UInt8) (k : Nat) : nx (fs (a ++ l)) (a ++ l).length (a.length + k) = nx (fs l) l.length k := by
 have hf : ∀ j, fs (a ++ l) (a.length + j) = fs l j := fun j => by rw [Nat.add_comm]; exact fs_right a l j
 unfold nx
 rw [show (a ++ l).length - (a.length + k) = l.length - k by rw [List.length_append]; omega, hf k, show a.length + k + 1 = a.length + (k + 1) by omega, show a.length + k + 2 = a.length + (k + 2) by omega, show a.length + k + 3 = a.length + (k + 3) by omega, hf, hf, hf]
theorem bad_shift (a l : List UInt8) : ∀ g k, badFrom (fs (a ++ l)) (a ++ l).length g (a.length + k) = if 0 ≤ badFrom (fs l) l.length g k then (a.length : Int) + badFrom (fs l) l.length g k else -1
 | 0, k => rfl
 | g + 1, k => by
  rw [badFrom, badFrom, nx_shift]
  by_cases hk : k < l.length
  ·rw [if_pos (by rw [List.length_append]; omega), if_pos hk]
   by_cases hw : (nx (fs l) l.length k).2 = 0
   ·rw [if_pos hw, if_pos hw, if_pos (by omega)]
    omega
   ·rw [if_neg hw, if_neg hw, Nat.add_assoc, bad_shift a l g]
  ·rw [if_neg (by rw [List.length_append]; omega), if_neg hk, if_neg (by omega)]
end Go.Proofs.YtjpkkflhcjjefaaGreatDoor
namespace Go.Proofs.YtjpkkflhcjjefaaGreatDoor
open Go.RowKit Go.Lib Go.Joins
theorem tab32 : inTab charsT (((32 : UInt8).toNat : Nat) : Int) = true := by kernel_rfl
end Go.Proofs.YtjpkkflhcjjefaaGreatDoor
namespace Go.Proofs.YtjpkkflhcjjefaaGreatDoor
open Go.RowKit Go.Lib Go.Joins
inductive Ok8 : List UInt8 → Prop
 | nil : Ok8 []
 | rune (v : Nat) (hv : inTab charsT (v : Int) = true) (t : List UInt8) (ht : Ok8 t) : Ok8 (encB v ++ t)
theorem nx_bytes {f : Nat → Nat} {N p : Nat} (hf : ∀ i, f i < 256) (hp : p < N) (h : (nx f N p).2 ≠ 0) : inTab charsT ((nx f N p).1 : Int) = true ∧ (encN (nx f N p).1).length = (nx f N p).2 ∧ p + (nx f N p).2 ≤ N ∧ ∀ i, i < (nx f N p).2 → nth (encN (nx f N p).1) i = f (p + i) := by
 rw [← ref_is_nx f N p hp hf] at h ⊢
 have key : ∀ g n, (refFrom f N p g n).2 ≠ 0 → inTab charsT ((refFrom f N p g n).1 : Int) = true ∧ (encN (refFrom f N p g n).1).length = (refFrom f N p g n).2 ∧ p + (refFrom f N p g n).2 ≤ N ∧ ∀ i, i < (refFrom f N p g n).2 → nth (encN (refFrom f N p g n).1) i = f (p + i) := by
  intro g
  induction g with
  | zero => intro n h; exact absurd rfl h
  | succ g ih =>
   intro n h
   rw [refFrom] at h ⊢
   by_cases hpn : p + n ≤ N
   ·rw [if_pos hpn] at h ⊢
    by_cases hfit : fits f p n = true
    ·rw [if_pos hfit]
     obtain ⟨h1, h2, h3⟩ := (fits_iff f p n).1 hfit
     exact ⟨h1, h2, hpn, h3⟩
    ·rw [if_neg hfit] at h ⊢
     exact ih _ h
   ·rw [if_neg hpn] at h
    exact absurd rfl h
 exact key 4 1 h
theorem chars_pos {v : Nat} (hv : inTab charsT (v : Int) = true) : 0 < (encN v).length := by
 have := (chars_nat v).1 hv
 unfold encN
 rw [if_neg (by omega)]
 repeat' split
 all_goals simp
theorem nx_enc {v : Nat} (hv : inTab charsT (v : Int) = true) (t : List UInt8) : nx (fs (encB v ++ t)) (encB v ++ t).length 0 = (v, (encB v).length) := by
 have hk := chars_pos hv
 have hl : (encB v ++ t).length = (encN v).length + t.length := by rw [List.length_append, encB_length]
 have hd := dN_enc v (fs (encB v ++ t)) (encB v ++ t).length 0 hk (by omega) (fun i hi => by rw [Nat.zero_add, fs_left _ _ _ (by rw [encB_length]; exact hi), encB_at v i hi])
 rw [nx_yes (by rw [hd]; exact enc_right v hk) (by rw [hd]; exact hv), hd, encB_length]
theorem bad_rune {v : Nat} (hv : inTab charsT (v : Int) = true) (t : List UInt8) : badL (encB v ++ t) = if 0 ≤ badL t then ((encB v).length : Int) + badL t else -1 := by
 have hk := chars_pos hv
 have hl := encB_length v
 obtain ⟨n, hn⟩ : ∃ n, (encB v ++ t).length = n + 1 := ⟨(encB v ++ t).length - 1, by rw [List.length_append]; omega⟩
 have hn2 : (encB v).length + t.length = n + 1 := by rw [← hn, List.length_append]
 have h1 : badFrom (fs (encB v ++ t)) (encB v ++ t).length (n + 1) 0 = badFrom (fs (encB v ++ t)) (encB v ++ t).length n ((encB v).length + 0) := by
  rw [badFrom, if_pos (by omega), nx_enc hv t]
  dsimp only
  rw [if_neg (by omega), Nat.zero_add, Nat.add_zero]
 unfold badL badZ
 rw [show badFrom (fs (encB v ++ t)) (encB v ++ t).length (encB v ++ t).length 0 = badFrom (fs (encB v ++ t)) (encB v ++ t).length (n + 1) 0 from congrArg (fun g => badFrom (fs (encB v ++ t)) (encB v ++ t).length g 0) hn, h1, bad_shift (encB v) t n 0, bad_fuel (fs t) t.length n t.length 0 (by omega) (by omega)]
theorem bad_of_ok {l : List UInt8} (h : Ok8 l) : badL l = -1 := by
 induction h with
 | nil => rfl
 | rune v hv t _ ih => rw [bad_rune hv, ih]; rfl
theorem fs_ext {a b : List UInt8} (hl : a.length = b.length) (h : ∀ i, i < a.length → fs a i = fs b i) : a = b := by
 refine List.ext_getElem hl fun i h1 h2 => ?_
 have := h i h1
 unfold fs at this
 rw [List.getD_eq_getElem?_getD, List.getD_eq_getElem?_getD, List.getElem?_eq_getElem h1, List.getElem?_eq_getElem h2] at this
 exact UInt8.toNat_inj.1 this
theorem fs_take (l : List UInt8) (n i : Nat) (h : i < n) : fs (l.take n) i = fs l i := by
 unfold fs
 rw [List.getD_eq_getElem?_getD, List.getD_eq_getElem?_getD, List.getElem?_take_of_lt h]
theorem ok_of_bad : ∀ (n : Nat) (l : List UInt8), l.length ≤ n → ¬ 0 ≤ badL l → Ok8 l
 | 0, l, hl, _ => by rw [List.length_eq_zero_iff.1 (Nat.le_zero.1 hl)]; exact .nil
 | n + 1, l, hl, hb => by
  by_cases hpos : 0 < l.length
  ·by_cases hw : (nx (fs l) l.length 0).2 = 0
   ·exfalso
    apply hb
    obtain ⟨k, hk⟩ : ∃ k, l.length = k + 1 := ⟨l.length - 1, by omega⟩
    have h1 : badFrom (fs l) l.length (k + 1) 0 = 0 := by rw [badFrom, if_pos hpos, if_pos hw]; rfl
    unfold badL badZ
    rw [show badFrom (fs l) l.length l.length 0 = badFrom (fs l) l.length (k + 1) 0 from congrArg (fun g => badFrom (fs l) l.length g 0) hk, h1]
    exact Int.le_refl _
   ·obtain ⟨h1, h2, h3, h4⟩ := nx_bytes (fs_lt l) hpos hw
    obtain ⟨v, hv⟩ : ∃ v, (nx (fs l) l.length 0).1 = v := ⟨_, rfl⟩
    obtain ⟨w, hwd⟩ : ∃ w, (nx (fs l) l.length 0).2 = w := ⟨_, rfl⟩
    rw [hv] at h1 h2 h4
    rw [hwd] at h2 h3 h4
    have hsp : encB v ++ l.drop w = l := by
     have : encB v = l.take w := fs_ext (by rw [encB_length, List.length_take]; omega) (fun i hi => by
      rw [encB_length] at hi
      rw [encB_at v i hi, h4 i (by omega), fs_take l w i (by omega), Nat.zero_add])
     rw [this, List.take_append_drop]
    rw [← hsp]
    have hk := chars_pos h1
    refine .rune v h1 _ (ok_of_bad n _ (by rw [List.length_drop]; omega) fun h => hb ?_)
    rw [← hsp, bad_rune h1, if_pos h]
    omega
  ·have h0 : l = [] := List.length_eq_zero_iff.1 (by omega)
   rw [h0]; exact .nil
theorem encB_low {v : Nat} (h : v < 128) : encB v = [UInt8.ofNat v] := by
 unfold encB encN
 rw [if_neg (by omega), if_pos h]
 rfl
theorem ofNat_low {v : Nat} (h : v < 128) : (UInt8.ofNat v).toNat = v := by rw [UInt8.toNat_ofNat']; omega
theorem encB_high {v : Nat} (h : 128 ≤ v) : ∀ x ∈ encB v, 128 ≤ x.toNat := by
 intro x hx
 unfold encB at hx
 obtain ⟨y, hy, rfl⟩ := List.mem_map.1 hx
 have hlt := encN_lt v y hy
 rw [UInt8.toNat_ofNat', Nat.mod_eq_of_lt (by omega)]
 unfold encN at hy
 split at hy
 ·cases hy
 ·rw [if_neg (by omega)] at hy
  split at hy
  ·simp only [List.mem_cons, List.not_mem_nil, or_false] at hy; omega
  ·split at hy <;> (simp only [List.mem_cons, List.not_mem_nil, or_false] at hy; omega)
theorem encB_ne {v : Nat} (hv : inTab charsT (v : Int) = true) : encB v ≠ [] := by
 intro h
 have h1 := chars_pos hv
 have h2 := encB_length v
 rw [h] at h2
 rw [List.length_nil] at h2
 omega
theorem encB_ascii (x : UInt8) (h : x.toNat < 128) : encB x.toNat = [x] := by
 rw [encB_low h]
 congr 1
 exact UInt8.toNat_inj.1 (ofNat_low h)
theorem Ok8.cons {x : UInt8} {t : List UInt8} (h : Ok8 t) (hx : x.toNat < 128) (hc : inTab charsT (x.toNat : Int) = true) : Ok8 (x :: t) := by
 have := Ok8.rune x.toNat hc t h
 rw [encB_ascii x hx] at this
 exact this
theorem Ok8.of_rune {v : Nat} (hv : inTab charsT (v : Int) = true) : Ok8 (encB v) := by
 have := Ok8.rune v hv [] .nil
 rwa [List.append_nil] at this
theorem Ok8.tail {x : UInt8} {t : List UInt8} (h : Ok8 (x :: t)) (hx : x.toNat < 128) : Ok8 t ∧ inTab charsT (x.toNat : Int) = true := by
 generalize hl : x :: t = l at h
 cases h with
 | nil => cases hl
 | rune v hv u hu =>
  by_cases h128 : v < 128
  ·rw [encB_low h128] at hl
   injection hl with h1 h2
   have h2' : t = u := h2
   subst h1
   subst h2'
   exact ⟨hu, by rw [ofNat_low h128]; exact hv⟩
  ·exfalso
   cases he : encB v with
   | nil => exact encB_ne hv he
   | cons y z =>
    rw [he] at hl
    injection hl with h1 _
    have := encB_high (v := v) (by omega) y (by rw [he]; exact List.mem_cons_self ..)
    rw [← h1] at this
    omega
theorem Ok8.append {a b : List UInt8} (ha : Ok8 a) (hb : Ok8 b) : Ok8 (a ++ b) := by
 induction ha with
 | nil => exact hb
 | rune v hv t _ ih => rw [List.append_assoc]; exact .rune v hv _ ih
theorem Ok8.split {x : UInt8} {t : List UInt8} (hx : x.toNat < 128) {s : List UInt8} (h : Ok8 (s ++ x :: t)) : Ok8 s ∧ Ok8 (x :: t) := by
 generalize hl : s ++ x :: t = l at h
 induction h generalizing s with
 | nil => cases s <;> cases hl
 | rune v hv u hu ih =>
  rcases List.append_eq_append_iff.1 hl with ⟨a, h1, h2⟩ | ⟨c, h1, h2⟩
  ·cases a with
   | nil =>
    rw [List.append_nil] at h1
    rw [← h1]
    exact ⟨.of_rune hv, by rw [h2]; exact hu⟩
   | cons y a =>
    injection h2 with h3 h4
    subst h3
    have hv128 : v < 128 := by
     apply Nat.lt_of_not_le
     intro hh
     have := encB_high hh x (by rw [h1]; simp)
     omega
    have hs : s = [] := by
     rw [encB_low hv128] at h1
     cases s with
     | nil => rfl
     | cons z s => injection h1 with _ h5; cases s <;> cases h5
    subst hs
    refine ⟨.nil, ?_⟩
    rw [List.nil_append] at hl
    rw [hl]
    exact .rune v hv u hu
  ·obtain ⟨h5, h6⟩ := ih h2.symm
   exact ⟨by rw [h1]; exact .rune v hv c h5, h6⟩
theorem Ok8.cut {s t : List UInt8} (ht : ∀ x u, t = x :: u → x.toNat < 128) (h : Ok8 (s ++ t)) : Ok8 s ∧ Ok8 t := by
 cases t with
 | nil => rw [List.append_nil] at h; exact ⟨h, .nil⟩
 | cons x u => exact h.split (ht x u rfl)
theorem Ok8.peel {t : List UInt8} : ∀ {m : List UInt8}, (∀ x ∈ m, x.toNat < 128) → Ok8 (m ++ t) → Ok8 t
 | [], _, h => h
 | x :: _m, hm, h => Ok8.peel (fun y hy => hm y (List.mem_cons_of_mem _ hy)) (Ok8.tail h (hm x (List.mem_cons_self ..))).1
theorem eols_app {t : List UInt8} : ∀ {a : List UInt8}, (∀ x ∈ a, x ≠ 13) → eols (a ++ t) = a ++ eols t
 | [], _ => rfl
 | x :: a, h => by
  rw [List.cons_append, eols_cons, if_neg (h x (List.mem_cons_self ..)), eols_app (fun y hy => h y (List.mem_cons_of_mem _ hy))]
  rfl
theorem encB_not {v : Nat} (n : Nat) (hn : n < 128) (hv : v ≠ n) : ∀ x ∈ encB v, x.toNat ≠ n := by
 intro x hx
 by_cases h : v < 128
 ·rw [encB_low h] at hx
  rw [List.mem_singleton.1 hx, ofNat_low h]
  exact hv
 ·have := encB_high (by omega) x hx
  omega
theorem tab10 : inTab charsT (((10 : UInt8).toNat : Nat) : Int) = true := by kernel_rfl
theorem Ok8.eols {l : List UInt8} (h : Ok8 l) : Ok8 (eols l) := by
 induction h with
 | nil => exact .nil
 | rune v hv t _ ih =>
  by_cases h13 : v = 13
  ·subst h13
   rw [encB_low (by decide)]
   show Ok8 (Go.Proofs.YtjpkkflhcjjefaaGreatDoor.eols ((13 : UInt8) :: t))
   rw [eols_cons, if_pos rfl]
   split
   ·exact ih
   ·exact ih.cons (by decide) tab10
  ·rw [eols_app (fun x hx he => encB_not 13 (by decide) h13 x hx (by rw [he]; rfl))]
   exact .rune v hv _ ih
theorem Ok8.map_flat {l : List UInt8} (h : Ok8 l) : Ok8 (l.map fun x => if x = 10 ∨ x = 9 then 32 else x) := by
 induction h with
 | nil => exact .nil
 | rune v hv t _ ih =>
  rw [List.map_append]
  by_cases h1 : v = 10 ∨ v = 9
  ·have h2 : v < 128 := by omega
   rw [encB_low h2, List.map_singleton, if_pos (by rcases h1 with h1 | h1 <;> (subst h1; decide))]
   exact ih.cons (by decide) tab32
  ·have h2 : (encB v).map (fun x => if x = 10 ∨ x = 9 then 32 else x) = encB v := by
    conv => rhs; rw [← List.map_id (encB v)]
    refine List.map_congr_left fun x hx => ?_
    rw [if_neg]
    ·rfl
    ·rintro (h3 | h3)
     ·exact encB_not 10 (by decide) (fun h => h1 (.inl h)) x hx (by rw [h3]; rfl)
     ·exact encB_not 9 (by decide) (fun h => h1 (.inr h)) x hx (by rw [h3]; rfl)
   rw [h2]
   exact .rune v hv _ ih
theorem Ok8.flat {l : List UInt8} (h : Ok8 l) : Ok8 (flatS l) := h.eols.map_flat
inductive Nm8 : Bool → List UInt8 → Prop
 | nil (fb : Bool) : Nm8 fb []
 | rune (fb : Bool) (v : Nat) (hv : inTab charsT (v : Int) = true) (hf : fitsB fb v = true) (t : List UInt8) (ht : Nm8 false t) : Nm8 fb (encB v ++ t)
theorem Nm8.runes {fb : Bool} {l : List UInt8} (h : Nm8 fb l) : ∀ (a : List UInt8) (g : Nat), l.length ≤ g → ∃ rs : List Nat, runesFrom (fs (a ++ l)) (a ++ l).length g a.length = some rs ∧ (rs.all fun x => goesB (x : Int)) = true ∧ (fb = true → ∀ r t, rs = r :: t → beginsB (r : Int) = true) ∧ (l ≠ [] → rs ≠ []) := by
 induction h with
 | nil fb =>
  intro a g _
  refine ⟨[], ?_, rfl, fun _ _ _ h => (by cases h), fun h => absurd rfl h⟩
  cases g with
  | zero => rfl
  | succ g => rw [runesFrom, if_neg (by rw [List.append_nil]; omega)]
 | rune fb v hv hf t _ ih =>
  intro a g hg
  have hk := chars_pos hv
  have hl := encB_length v
  rw [List.length_append] at hg
  obtain ⟨g, rfl⟩ : ∃ k, g = k + 1 := ⟨g - 1, by omega⟩
  obtain ⟨rs, h1, h2, _, _⟩ := ih (a ++ encB v) g (by omega)
  have hn := nx_shift a (encB v ++ t) 0
  rw [Nat.add_zero, nx_enc hv t] at hn
  refine ⟨v :: rs, ?_, ?_, fun hb r t' he => ?_, fun _ h => by cases h⟩
  ·rw [runesFrom, if_pos (by rw [List.length_append, List.length_append]; omega), hn]
   dsimp only
   rw [if_neg (by omega)]
   rw [List.append_assoc, @List.length_append _ a (encB v)] at h1
   rw [h1]
   rfl
  ·rw [List.all_cons, h2, goes_of_fits hf]
   rfl
  ·cases he
   subst hb
   exact hf
theorem Nm8.name {l : List UInt8} (h : Nm8 true l) (hne : l ≠ []) : nameR (runesFrom (fs l) l.length l.length 0) = true := by
 obtain ⟨rs, h1, h2, h3, h4⟩ := h.runes [] l.length (Nat.le_refl _)
 rw [List.nil_append, List.length_nil] at h1
 rw [h1]
 cases rs with
 | nil => exact absurd rfl (h4 hne)
 | cons r t =>
  show (beginsB (r : Int) && (r :: t).all fun x => goesB (x : Int)) = true
  rw [h3 rfl r t rfl, h2]
  rfl
theorem Nm8.ok {fb : Bool} {l : List UInt8} (h : Nm8 fb l) : Ok8 l := by
 induction h with
 | nil => exact .nil
 | rune fb v hv _ t _ ih => exact .rune v hv t ih
theorem nmG_ok : ∀ (g : Nat) (fb : Bool) (i : Nat) {r : List UInt8}, Ok8 r → ∀ x j t, nmG g fb i r = .ok x j t → ∃ p, r = p ++ t ∧ j = i + p.length ∧ Nm8 fb p ∧ Ok8 t
 | 0, _, _, _, _ => fun x j t e => by cases e
 | g + 1, fb, i, r, h => fun x j t e => by
  rw [nmG] at e
  by_cases hr : r = []
  ·rw [if_pos hr] at e; cases e
  ·rw [if_neg hr] at e
   cases h with
   | nil => exact absurd rfl hr
   | rune v hv u hu =>
    rw [nx_enc hv u] at e
    dsimp only at e
    by_cases hf : fitsB fb v = true
    ·rw [if_pos hf, List.drop_left] at e
     obtain ⟨p, h1, h2, h3, h4⟩ := nmG_ok g false (i + (encB v).length) hu x j t e
     exact ⟨encB v ++ p, by rw [h1, List.append_assoc], by rw [h2, List.length_append]; omega, .rune fb v hv hf p h3, h4⟩
    ·rw [if_neg hf] at e
     cases e
     exact ⟨[], rfl, rfl, .nil fb, .rune v hv u hu⟩
theorem nameS_ok {i : Nat} {r : List UInt8} (h : Ok8 r) {nm : List UInt8} {j : Nat} {t : List UInt8} (e : nameS i r = .ok nm j t) : r = nm ++ t ∧ j = i + nm.length ∧ nm ≠ [] ∧ Nm8 true nm ∧ Ok8 t := by
 unfold nameS at e
 cases hn : nmG r.length true i r with
 | no c p => rw [hn] at e; cases e
 | ok x j2 t2 =>
  rw [hn, Sx.then_ok] at e
  obtain ⟨p, h1, h2, h3, h4⟩ := nmG_ok _ _ _ h x j2 t2 hn
  split at e
  ·cases e
  ·next hj =>
   cases e
   have hp : r.take (j - i) = p := by rw [h1, h2, Nat.add_sub_cancel_left, List.take_left]
   rw [hp]
   exact ⟨h1, h2, fun h0 => hj (by rw [h2, h0]; rfl), h3, h4⟩
end Go.Proofs.YtjpkkflhcjjefaaGreatDoor
