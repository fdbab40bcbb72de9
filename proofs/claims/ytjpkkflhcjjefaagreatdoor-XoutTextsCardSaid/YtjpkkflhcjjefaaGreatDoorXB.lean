/-
 A document's scan in memory: its block and the document's bytes; what a step leaves; peek, must and blanks.
-/
import Derived.Test.YtjpkkflhcjjefaaGreatDoorRefName
import Derived.Lib.SmallJoins
import Derived.Laws.Rows
import Derived.Deep.QuietTactic
import Derived.BigQuiet
import Derived.WalkLawsBesides
namespace Go.Proofs.YtjpkkflhcjjefaaGreatDoor
set_option linter.unusedVariables false
open Go.RowKit Go.Lib
theorem goes_nat (m : Nat) (h : goesB (m : Int) = true) : inTab charsT (m : Int) = true ∧ pBl m = false := by
 have hp : pBl m = false ↔ ¬ (m = 9 ∨ m = 10 ∨ m = 13 ∨ m = 32) := by
  unfold pBl
  rw [← Bool.not_eq_true]
  simp only [Bool.or_eq_true, beq_iff_eq]
  omega
 rw [chars_nat, hp]
 simp only [goesB, inTab, firstsT, furtherT, List.any_cons, List.any_nil, inPair, Bool.or_false, Bool.or_eq_true, Bool.and_eq_true, decide_eq_true_eq] at h
 omega
def walkG (f : Nat → Nat) (N : Nat) : Nat → Nat → Bool
 | 0, _ => true
 | g + 1, p => if p < N then (if errD (dN f N p) = true then false else if goesB (dN f N p).1 = false then false else walkG f N g (p + (dN f N p).2)) else true
theorem walkG_done (f : Nat → Nat) (N g p : Nat) (h : ¬ p < N) : walkG f N g p = true := by
 cases g with
 | zero => rfl
 | succ g => rw [walkG, if_neg h]
theorem dN_pos (f : Nat → Nat) (N p : Nat) : 1 ≤ (dN f N p).2 := decodeN_pos _ _ _ _ _
theorem walkW_pos (f : Nat → Nat) (N : Nat) : ∀ (g p : Nat), 0 < p → walkW f N g p = walkG f N g p
 | 0, _, _ => rfl
 | g + 1, p, hp => by
  rw [walkW, walkG, walkW_pos f N g (p + (dN f N p).2) (by omega)]
  have h0 : ¬ (p = 0 ∧ beginsB (dN f N p).1 = false) := fun h => by omega
  simp only [if_neg h0]
theorem walkG_step {f : Nat → Nat} {N g p : Nat} (hp : p < N) (h : walkG f N (g + 1) p = true) : errD (dN f N p) = false ∧ goesB (dN f N p).1 = true ∧ walkG f N g (p + (dN f N p).2) = true := by
 rw [walkG, if_pos hp] at h
 cases he : errD (dN f N p) with
 | true => rw [he, if_pos rfl] at h; cases h
 | false =>
  rw [he, if_neg (by decide)] at h
  cases hg : goesB (dN f N p).1 with
  | false => rw [hg, if_pos rfl] at h; cases h
  | true => rw [hg, if_neg (by decide)] at h; exact ⟨rfl, rfl, h⟩
theorem walkG_go {f : Nat → Nat} {N g p : Nat} (hp : p < N) (he : errD (dN f N p) = false) (hg : goesB (dN f N p).1 = true) : walkG f N (g + 1) p = walkG f N g (p + (dN f N p).2) := by
 rw [walkG, if_pos hp, he, hg, if_neg (by decide), if_neg (by decide)]
theorem nx_err {f : Nat → Nat} {N p : Nat} (h : errD (dN f N p) = true) : nx f N p = (0, 0) := by
 have := (errD_iff _).1 h
 unfold nx
 exact if_neg (fun h2 => h2.2 this)
theorem nx_no {f : Nat → Nat} {N p : Nat} (h : ¬ inTab charsT (dN f N p).1 = true) : nx f N p = (0, 0) := by
 unfold nx
 exact if_neg (fun h2 => h h2.1)
theorem nx_yes {f : Nat → Nat} {N p : Nat} (h : errD (dN f N p) = false) (hc : inTab charsT (dN f N p).1 = true) : nx f N p = dN f N p := by
 unfold nx
 exact if_pos ⟨hc, fun h2 => by
  have h3 : errD (dN f N p) = true := (errD_iff _).2 h2
  rw [h] at h3
  cases h3⟩
def allR (q : Option (List Nat)) : Bool :=
 match q with
 | none => false
 | some l => l.all fun x => goesB (x : Int)
theorem runes_walk (f : Nat → Nat) (N : Nat) : ∀ (g p : Nat), N ≤ g + p → allR (runesFrom f N g p) = walkG f N g p
 | 0, _, _ => rfl
 | g + 1, p, h => by
  by_cases hp : p < N
  ·have hw := dN_pos f N p
   have ih := runes_walk f N g (p + (dN f N p).2) (by omega)
   rw [runesFrom, if_pos hp, walkG, if_pos hp]
   cases he : errD (dN f N p) with
   | true => rw [nx_err he]; rfl
   | false =>
    rw [if_neg (show ¬ false = true by decide)]
    by_cases hc : inTab charsT (dN f N p).1 = true
    ·rw [nx_yes he hc, if_neg (show ¬ (dN f N p).2 = 0 by omega), ← ih]
     cases runesFrom f N g (p + (dN f N p).2) with
     | none => simp [allR]
     | some l =>
      simp only [allR, Option.map_some, List.all_cons]
      cases goesB (dN f N p).1 <;> simp
    ·rw [nx_no hc, if_pos rfl]
     have : goesB (dN f N p).1 = false := by
      cases hq : goesB ((dN f N p).1 : Int) with
      | false => rfl
      | true => exact absurd (goes_nat _ hq).1 hc
     rw [if_pos this]
     rfl
  ·rw [walkG_done f N (g + 1) p hp, runesFrom, if_neg hp]
   rfl
theorem nameR_eq (l : List UInt8) : nameR (runesFrom (fs l) l.length l.length 0) = nameW l := by
 cases l with
 | nil => rfl
 | cons b t =>
  obtain ⟨l, hl⟩ : ∃ l, b :: t = l := ⟨_, rfl⟩
  obtain ⟨n, hn⟩ : ∃ n, l.length = n + 1 := ⟨t.length, by rw [← hl]; rfl⟩
  have hemp : l.isEmpty = false := by rw [← hl]; rfl
  rw [hl]
  unfold nameW
  rw [hemp, hn]
  have hp : 0 < n + 1 := by omega
  have hw := dN_pos (fs l) (n + 1) 0
  have ih := runes_walk (fs l) (n + 1) n (0 + (dN (fs l) (n + 1) 0).2) (by omega)
  rw [runesFrom, if_pos hp, walkW, if_pos hp]
  cases he : errD (dN (fs l) (n + 1) 0) with
  | true => rw [nx_err he]; rfl
  | false =>
   rw [if_neg (show ¬ false = true by decide)]
   by_cases hc : inTab charsT (dN (fs l) (n + 1) 0).1 = true
   ·rw [nx_yes he hc, if_neg (show ¬ (dN (fs l) (n + 1) 0).2 = 0 by omega), walkW_pos _ _ _ _ (by omega), ← ih]
    cases runesFrom (fs l) (n + 1) n (0 + (dN (fs l) (n + 1) 0).2) with
    | none => simp [allR, nameR]
    | some u =>
     simp only [allR, nameR, Option.map_some, List.all_cons, true_and, Bool.not_false, Bool.true_and]
     cases beginsB ((dN (fs l) (n + 1) 0).1 : Int) <;> cases goesB ((dN (fs l) (n + 1) 0).1 : Int) <;> simp
   ·rw [nx_no hc, if_pos rfl]
    have hg : goesB (dN (fs l) (n + 1) 0).1 = false := by
     cases hq : goesB ((dN (fs l) (n + 1) 0).1 : Int) with
     | false => rfl
     | true => exact absurd (goes_nat _ hq).1 hc
    rw [if_pos hg]
    simp [nameR]
/-! ### A rune behind a name, a rune ahead of one -/
theorem fs_left (a b : List UInt8) (i : Nat) (h : i < a.length) : fs (a ++ b) i = fs a i := by
 unfold fs
 rw [List.getD_eq_getElem?_getD, List.getD_eq_getElem?_getD, List.getElem?_append_left h]
theorem fs_right (a b : List UInt8) (i : Nat) : fs (a ++ b) (i + a.length) = fs b i := by
 unfold fs
 rw [List.getD_eq_getElem?_getD, List.getD_eq_getElem?_getD, List.getElem?_append_right (by omega), Nat.add_sub_cancel]
def encB (m : Nat) : List UInt8 := (encN m).map fun x => UInt8.ofNat x
theorem encN_lt (m : Nat) : ∀ x ∈ encN m, x < 256 := by
 have := encL_lt (m : Int)
 rwa [encL_nat] at this
theorem encB_at (m i : Nat) (h : i < (encN m).length) : fs (encB m) i = nth (encN m) i := by
 unfold fs encB nth
 rw [List.getD_eq_getElem?_getD, List.getD_eq_getElem?_getD, List.getElem?_map]
 cases hq : (encN m)[i]? with
 | none => rw [List.getElem?_eq_none_iff] at hq; omega
 | some x =>
  have hx := encN_lt m x (List.mem_of_getElem? hq)
  simp only [Option.map_some, Option.getD_some]
  exact UInt8.toNat_ofNat_of_lt' (by simpa using hx)
theorem encB_length (m : Nat) : (encB m).length = (encN m).length := by simp [encB]
theorem name_parts {l : List UInt8} (h : nameW l = true) : 0 < l.length ∧ errD (dN (fs l) l.length 0) = false ∧ beginsB (dN (fs l) l.length 0).1 = true ∧ goesB (dN (fs l) l.length 0).1 = true ∧ walkG (fs l) l.length l.length 0 = true := by
 unfold nameW at h
 rw [Bool.and_eq_true] at h
 obtain ⟨h1, h2⟩ := h
 have hl : 0 < l.length := by
  cases l with
  | nil => cases h1
  | cons => simp
 obtain ⟨n, hn⟩ : ∃ n, l.length = n + 1 := ⟨l.length - 1, by omega⟩
 have hw := dN_pos (fs l) l.length 0
 rw [hn] at h2 hw ⊢
 rw [walkW, if_pos (by omega)] at h2
 cases he : errD (dN (fs l) (n + 1) 0) with
 | true => rw [he, if_pos rfl] at h2; cases h2
 | false =>
  rw [he, if_neg (by decide)] at h2
  cases hb : beginsB (dN (fs l) (n + 1) 0).1 with
  | false => rw [hb, if_pos ⟨rfl, rfl⟩] at h2; cases h2
  | true =>
   rw [hb, if_neg (fun h => absurd h.2 (by decide))] at h2
   cases hg : goesB (dN (fs l) (n + 1) 0).1 with
   | false => rw [hg, if_pos rfl] at h2; cases h2
   | true =>
    rw [hg, if_neg (by decide), walkW_pos _ _ _ _ (by omega)] at h2
    exact ⟨by omega, rfl, rfl, rfl, by rw [walkG_go (by omega) he hg]; exact h2⟩
theorem walkG_clean (f : Nat → Nat) (N : Nat) : ∀ (g p : Nat), N ≤ g + p → walkG f N g p = true → ∀ i, p ≤ i → i < N → pBl (f i) = false
 | 0, p, h, _, i, h1, h2 => by omega
 | g + 1, p, h, hw, i, h1, h2 => by
  have hp : p < N := by omega
  obtain ⟨he, hg, hr⟩ := walkG_step hp hw
  have hpos := dN_pos f N p
  by_cases hi : i < p + (dN f N p).2
  ·have he2 : ¬ ((dN f N p).1 = 65533 ∧ (dN f N p).2 = 1) := fun h => by rw [(errD_iff _).2 h] at he; cases he
   have hs := decodeN_shape (N - p) (f p) (f (p + 1)) (f (p + 2)) (f (p + 3)) (by omega) he2
   have h4 := decodeN_width (N - p) (f p) (f (p + 1)) (f (p + 2)) (f (p + 3))
   by_cases h1w : (dN f N p).2 = 1
   ·have hi0 : i = p := by omega
    have hf := (hs.2.1 h1w)
    rw [hi0]
    have := (goes_nat _ hg).2
    unfold dN at this
    rw [hf.2] at this
    exact this
   ·apply pBl_high
    have hw1 : 1 < (decodeN (N - p) (f p) (f (p + 1)) (f (p + 2)) (f (p + 3))).2 := by unfold dN at h1w hpos; omega
    have b01 := hs.2.2.1 hw1
    rcases (show i = p ∨ i = p + 1 ∨ i = p + 2 ∨ i = p + 3 from by unfold dN at hi; omega) with rfl | rfl | rfl | rfl
    ·exact b01.1
    ·exact b01.2
    ·exact hs.2.2.2.1 (by unfold dN at hi; omega)
    ·exact hs.2.2.2.2 (by unfold dN at hi; omega)
  ·exact walkG_clean f N g _ (by omega) hr i (by omega) h2
theorem name_clean {l : List UInt8} (h : nameW l = true) : l ≠ [] ∧ ∀ b ∈ l, isBl b = false := by
 obtain ⟨hl, _, _, _, hw⟩ := name_parts h
 refine ⟨fun h0 => by rw [h0] at hl; simp at hl, fun b hb => ?_⟩
 obtain ⟨i, hi, rfl⟩ := List.getElem_of_mem hb
 have := walkG_clean (fs l) l.length l.length 0 (by omega) hw i (by omega) hi
 unfold fs at this
 rw [List.getD_eq_getElem?_getD, List.getElem?_eq_getElem hi] at this
 exact this
/-! ### Lines a second time -/
theorem eols_no13 : ∀ l, ∀ b ∈ eols l, b ≠ 13
 | [], b, h => by simp [eols] at h
 | x :: t, b, h => by
  rw [eols_cons] at h
  by_cases hx : x = 13
  ·rw [if_pos hx] at h
   by_cases h2 : t.head? = some 10
   ·rw [if_pos h2] at h; exact eols_no13 t b h
   ·rw [if_neg h2] at h
    rcases List.mem_cons.1 h with rfl | h
    ·decide
    ·exact eols_no13 t b h
  ·rw [if_neg hx] at h
   rcases List.mem_cons.1 h with rfl | h
   ·exact hx
   ·exact eols_no13 t b h
theorem eols_same : ∀ l : List UInt8, (∀ b ∈ l, b ≠ 13) → eols l = l
 | [], _ => rfl
 | x :: t, h => by rw [eols_cons, if_neg (h x (by simp)), eols_same t (fun b hb => h b (by simp [hb]))]
theorem eols_length : ∀ l, (eols l).length ≤ l.length
 | [] => Nat.le_refl _
 | b :: t => by
  have := eols_length t
  rw [eols_cons]
  repeat' split
  all_goals simp only [List.length_cons]
  all_goals omega
inductive Sx (α : Type) where
 | ok (x : α) (i : Nat) (r : List UInt8)
 | no (c p : Nat)
def Sx.then {α β : Type} (s : Sx α) (f : α → Nat → List UInt8 → Sx β) : Sx β :=
 match s with
 | .ok x i r => f x i r
 | .no c p => .no c p
theorem Sx.then_ok {α β : Type} (x : α) (i : Nat) (r : List UInt8) (f : α → Nat → List UInt8 → Sx β) : (Sx.ok x i r).then f = f x i r := rfl
def peekS (i : Nat) : List UInt8 → Sx UInt8
 | [] => .no 6 i
 | x :: t => .ok x i (x :: t)
def mustS (c : UInt8) (i : Nat) : List UInt8 → Sx Unit
 | [] => .no 6 i
 | x :: t => if x = c then .ok () (i + 1) t else .no 2 i
def blkS (i : Nat) : List UInt8 → Sx Unit
 | [] => .no 6 i
 | x :: t => if blankB (x.toNat : Int) = true then blkS (i + 1) t else .ok () i (x :: t)
def blanksS (i : Nat) (r : List UInt8) : Sx Bool := (blkS i r).then fun _ j t => .ok (decide (i < j)) j t
def fitsB (fb : Bool) (m : Nat) : Bool := if fb then beginsB (m : Int) else goesB (m : Int)
def nmG : Nat → Bool → Nat → List UInt8 → Sx Unit
 | 0, _, i, _ => .no 6 i
 | g + 1, fb, i, r =>
  if r = [] then .no 6 i
  else if fitsB fb (nx (fs r) r.length 0).1 = true then nmG g false (i + (nx (fs r) r.length 0).2) (r.drop (nx (fs r) r.length 0).2)
  else .ok () i r
def nameS (i : Nat) (r : List UInt8) : Sx (List UInt8) := (nmG r.length true i r).then fun _ j t => if j = i then .no 2 i else .ok (r.take (j - i)) j t
def cutS (m : List UInt8) : List UInt8 → Option (List UInt8 × List UInt8)
 | [] => none
 | x :: t => if m.isPrefixOf (x :: t) = true then some ([], (x :: t).drop m.length) else (cutS m t).map fun q => (x :: q.1, q.2)
def upToS (m : List UInt8) (i : Nat) (r : List UInt8) : Sx (List UInt8) :=
 match cutS m r with
 | none => .no 6 (i + r.length)
 | some q => .ok (eols q.1) (i + q.1.length + m.length) q.2
def digS (c : UInt8) : Nat := if 48 ≤ c ∧ c ≤ 57 then c.toNat - 48 else if 97 ≤ c ∧ c ≤ 102 then c.toNat - 97 + 10 else if 65 ≤ c ∧ c ≤ 70 then c.toNat - 65 + 10 else 99
def digsS (base : Nat) : Nat → List UInt8 → Option Nat
 | v, [] => some v
 | v, c :: t => if digS c < base then digsS base (v * base + digS c) t else none
def numS (base : Nat) (s : List UInt8) : Option Nat :=
 if s = [] then none else (digsS base 0 s).bind fun v => if v < 2147483648 then some v else none
def charS (q : Option Nat) : Option Nat := q.bind fun v => if inTab charsT (v : Int) = true then some v else none
def toldS (s : List UInt8) : Option Nat :=
 if s = [97, 109, 112] then some 38
 else if s = [108, 116] then some 60
 else if s = [103, 116] then some 62
 else if s = [113, 117, 111, 116] then some 34
 else if s = [97, 112, 111, 115] then some 39
 else if [35, 120].isPrefixOf s = true then charS (numS 16 (s.drop 2))
 else if [35].isPrefixOf s = true then charS (numS 10 (s.drop 1))
 else none
def refS (i : Nat) (r : List UInt8) : Sx Nat :=
 match cutS [59] (r.drop 1) with
 | none => .no 5 i
 | some q => match toldS q.1 with
  | none => .no 5 i
  | some n => .ok n (i + (1 + q.1.length + 1)) q.2
def atS (m : List UInt8) (r : List UInt8) : Option Nat := (cutS m r).map fun q => q.1.length
def flatS (l : List UInt8) : List UInt8 := (eols l).map fun x => if x = 10 ∨ x = 9 then 32 else x
def turnS (q : Option UInt8) (i : Nat) (run : List UInt8) : Except Nat (List UInt8) :=
 match q with
 | none => match atS [93, 93, 62] run with
  | some k => .error (i + k)
  | none => .ok (eols run)
 | some _ => .ok (flatS run)
def endS (q : Option UInt8) (x : UInt8) : Bool := x == 60 || x == 38 || (match q with | none => false | some c => x == c)
def runS (q : Option UInt8) (r : List UInt8) : List UInt8 := r.takeWhile fun x => !endS q x
def restS (q : Option UInt8) (r : List UInt8) : List UInt8 := r.dropWhile fun x => !endS q x
def mixG (q : Option UInt8) : Nat → Nat → List UInt8 → Sx (List UInt8)
 | 0, i, _ => .no 6 i
 | g + 1, i, r =>
  match turnS q i (runS q r) with
  | .error p => .no 2 p
  | .ok t =>
   if [38].isPrefixOf (restS q r) = true then
    (refS (i + (runS q r).length) (restS q r)).then fun n j t2 => (mixG q g j t2).then fun u k t3 => .ok (t ++ (encB n ++ u)) k t3
   else .ok t (i + (runS q r).length) (restS q r)
def mixS (q : Option UInt8) (i : Nat) (r : List UInt8) : Sx (List UInt8) := mixG q (r.length + 1) i r
def valueS (i : Nat) (r : List UInt8) : Sx (List UInt8) :=
 (peekS i r).then fun x _ _ =>
  if x ≠ 34 ∧ x ≠ 39 then .no 2 i
  else (mixS (some x) (i + 1) (r.drop 1)).then fun u j t => (mustS x j t).then fun _ k t2 => .ok u k t2
def attrS (seen : List (List UInt8)) (i : Nat) (r : List UInt8) : Sx (List UInt8 × List UInt8) :=
 (nameS i r).then fun nm j t =>
  if nm ∈ seen then .no 4 i
  else (blanksS j t).then fun _ j t => (mustS 61 j t).then fun _ j t => (blanksS j t).then fun _ j t => (valueS j t).then fun v j t => .ok (nm, v) j t
def tagG : Nat → List (List UInt8 × List UInt8) → Nat → List UInt8 → Sx (Nat × List (List UInt8 × List UInt8))
 | 0, _, i, _ => .no 6 i
 | g + 1, ats, i, r =>
  (blanksS i r).then fun apart j t => (peekS j t).then fun x _ _ =>
   if x = 47 then (mustS 62 (j + 1) (t.drop 1)).then fun _ k t2 => .ok (2, ats) k t2
   else if x = 62 then (mustS 62 j t).then fun _ k t2 => .ok (1, ats) k t2
   else if apart = false then .no 2 j
   else (attrS (ats.map Prod.fst) j t).then fun a k t2 => tagG g (ats ++ [a]) k t2
structure Tk where
 kind : Nat
 at_ : Nat
 name : List UInt8
 text : List UInt8
 attrs : List (List UInt8 × List UInt8)
def startS (i : Nat) (r : List UInt8) : Sx (Nat × List UInt8 × List (List UInt8 × List UInt8)) :=
 (nameS i r).then fun nm j t => (tagG (t.length + 1) [] j t).then fun q k t2 => .ok (q.1, nm, q.2) k t2
def endTagS (i : Nat) (r : List UInt8) : Sx (List UInt8) :=
 (nameS i r).then fun nm j t => (blanksS j t).then fun _ j t => (mustS 62 j t).then fun _ k t2 => .ok nm k t2
def smallS (x : UInt8) : UInt8 := if 65 ≤ x ∧ x ≤ 90 then x + 32 else x
def sameS (s m : List UInt8) : Bool := s.map smallS == m
def piS (i : Nat) (r : List UInt8) : Sx (List UInt8 × List UInt8) :=
 (nameS i r).then fun nm j t =>
  if sameS nm [120, 109, 108] = true then .no 2 i
  else (blanksS j t).then fun b j t =>
   if b = true then (upToS [63, 62] j t).then fun u k t2 => .ok (nm, u) k t2
   else (mustS 63 j t).then fun _ j t => (mustS 62 j t).then fun _ k t2 => .ok (nm, []) k t2
def commentS (i : Nat) (r : List UInt8) : Sx (List UInt8) :=
 (upToS [45, 45] i r).then fun u j t => (peekS j t).then fun x _ _ => if x ≠ 62 then .no 2 (j - 2) else .ok u (j + 1) (t.drop 1)
def opensS (m : List UInt8) (i : Nat) (r : List UInt8) : Sx Bool :=
 if r.length < m.length ∧ r.isPrefixOf m = true then .no 6 (i + r.length)
 else if m.isPrefixOf r = true then .ok true (i + m.length) (r.drop m.length)
 else .ok false i r
def lenS (_i : Nat) (m : Sx Bool) (yes : Nat → List UInt8 → Sx Tk) (no : Sx Tk) : Sx Tk := m.then fun b j t => if b = true then yes j t else no
def tokS (i : Nat) (r : List UInt8) : Sx Tk :=
 if [60].isPrefixOf r = false then (mixS none i r).then fun u j t => .ok ⟨4, i, [], u, []⟩ j t
 else lenS i (opensS [60, 33, 45, 45] i r) (fun j t => (commentS j t).then fun u k t2 => .ok ⟨6, i, [], u, []⟩ k t2) <|
  lenS i (opensS [60, 33, 91, 67, 68, 65, 84, 65, 91] i r) (fun j t => (upToS [93, 93, 62] j t).then fun u k t2 => .ok ⟨5, i, [], u, []⟩ k t2) <|
  lenS i (opensS [60, 33] i r) (fun _ _ => .no 2 i) <|
  lenS i (opensS [60, 63] i r) (fun j t => (piS j t).then fun q k t2 => .ok ⟨7, i, q.1, q.2, []⟩ k t2) <|
  lenS i (opensS [60, 47] i r) (fun j t => (endTagS j t).then fun nm k t2 => .ok ⟨3, i, nm, [], []⟩ k t2) <|
  lenS i (opensS [60] i r) (fun j t => (startS j t).then fun q k t2 => .ok ⟨q.1, i, q.2.1, [], q.2.2⟩ k t2) <|
  .ok ⟨0, i, [], [], []⟩ i r
def toksG : Nat → Nat → List UInt8 → Sx (List Tk)
 | 0, i, r => .ok [] i r
 | g + 1, i, r => if r = [] then .ok [] i r else (tokS i r).then fun tk j t => (toksG g j t).then fun l k t2 => .ok (tk :: l) k t2
def trimLS (l : List UInt8) : List UInt8 := l.drop (lead l)
def saidS (s nm : List UInt8) : Option (List UInt8 × List UInt8) :=
 let bare := trimLS s
 if bare = s then none
 else if nm.isPrefixOf bare = false then none
 else
  let a1 := trimLS (bare.drop nm.length)
  if [61].isPrefixOf a1 = false then none
  else
   match trimLS (a1.drop 1) with
   | [] => none
   | q :: t => if q ≠ 34 ∧ q ≠ 39 then none else cutS [q] t
def declaresS (s : List UInt8) : Bool :=
 let v := (saidS s [118, 101, 114, 115, 105, 111, 110]).getD ([], s)
 let e := saidS v.2 [101, 110, 99, 111, 100, 105, 110, 103]
 let r1 := (e.getD ([], v.2)).2
 let a := saidS r1 [115, 116, 97, 110, 100, 97, 108, 111, 110, 101]
 let r2 := (a.getD ([], r1)).2
 (match e with | none => true | some q => sameS q.1 [117, 116, 102, 45, 56]) &&
 (match a with | none => true | some q => q.1 == [121, 101, 115] || q.1 == [110, 111]) &&
 v.1 == [49, 46, 48] && trimL r2 == []
def declS (b : List UInt8) : Sx Unit :=
 if [60, 63, 120, 109, 108].isPrefixOf b = true ∧ (match b.drop 5 with | [] => false | x :: _ => blankB (x.toNat : Int)) = true then
  (upToS [63, 62] 5 (b.drop 5)).then fun u j t => if declaresS u = true then .ok () j t else .no 2 0
 else .ok () 0 b
def allS (b : List UInt8) : Sx (List Tk) :=
 if 65536 < b.length then .no 8 65536
 else if 0 ≤ badZ (fs b) b.length then .no 1 (badZ (fs b) b.length).toNat
 else (declS b).then fun _ j t => toksG (t.length + 1) j t
end Go.Proofs.YtjpkkflhcjjefaaGreatDoor
namespace Go.Proofs.YtjpkkflhcjjefaaGreatDoor
open Go.RowKit Go.Lib Go.Joins
set_option maxRecDepth 100000
set_option maxHeartbeats 32000000
structure Keeps (S : Nat → Prop) (w w' : World) : Prop where
 os : w'.os = w.os
 tape : w'.tape = w.tape
 output : w'.output = w.output
 size : w.heap.size ≤ w'.heap.size
 block : ∀ k, k < w.heap.size → ¬ S k → w'.heap[k]? = w.heap[k]?
def Non : Nat → Prop := fun _ => False
def One (b : Nat) : Nat → Prop := fun k => k = b
def Fresh (S : Nat → Prop) (n : Nat) (S' : Nat → Prop) : Prop := ∀ k, S' k → S k ∨ n ≤ k
theorem Keeps.refl (S : Nat → Prop) (w : World) : Keeps S w w := ⟨rfl, rfl, rfl, Nat.le_refl _, fun _ _ _ => rfl⟩
theorem Keeps.trans {S S' : Nat → Prop} {a b c : World} (h : Keeps S a b) (k : Keeps S' b c) (hs : Fresh S a.heap.size S') : Keeps S a c :=
 ⟨k.os.trans h.os, k.tape.trans h.tape, k.output.trans h.output, Nat.le_trans h.size k.size, fun i hi hn =>
  (k.block i (Nat.lt_of_lt_of_le hi h.size) (fun e => by rcases hs i e with h1 | h1; exact hn h1; omega)).trans (h.block i hi hn)⟩
theorem Keeps.mono {S S' : Nat → Prop} {a b : World} (h : Keeps S a b) (hs : ∀ k, k < a.heap.size → S k → S' k) : Keeps S' a b :=
 ⟨h.os, h.tape, h.output, h.size, fun i hi hn => h.block i hi (fun e => hn (hs i hi e))⟩
theorem Keeps.drew {S : Nat → Prop} {a b : World} (h : Keeps S a b) : Keeps S a b.drew := ⟨h.os, h.tape, h.output, h.size, h.block⟩
theorem Keeps.drewN {S : Nat → Prop} {a b : World} (h : Keeps S a b) (n : Nat) : Keeps S a (b.drewN n) := ⟨h.os, h.tape, h.output, h.size, h.block⟩
theorem Keeps.alloc {S : Nat → Prop} {a b : World} (h : Keeps S a b) (o : Obj) : Keeps S a (b.alloc o) :=
 ⟨h.os, h.tape, h.output, by have := h.size; simp; omega, fun i hi hn => (Below.heap_alloc b o i (Nat.lt_of_lt_of_le hi h.size)).trans (h.block i hi hn)⟩
theorem Keeps.setCell {S : Nat → Prop} {a b : World} (h : Keeps S a b) {p : Addr} (hp : S p.block ∨ a.heap.size ≤ p.block) (u : Value) : Keeps S a (b.setCell p u) :=
 ⟨h.os, h.tape, h.output, by have := h.size; simp [World.setCell]; omega, fun i hi hn => (Below.heap_setCell b p u i (fun e => by rcases hp with h1 | h1; exact hn (e ▸ h1); omega)).trans (h.block i hi hn)⟩
theorem Keeps.grown {S : Nat → Prop} {a b c : World} {row : Option Nat} (h : Keeps S a b) (hg : b.grownBy c row) (hr : ∀ k, row = some k → S k ∨ a.heap.size ≤ k) : Keeps S a c :=
 ⟨hg.os.trans h.os, hg.tape.trans h.tape, hg.output.trans h.output, Nat.le_trans h.size hg.size, fun i hi hn =>
  (hg.block i (Nat.lt_of_lt_of_le hi h.size) (fun e => by rcases hr i e.symm with h1 | h1; exact hn h1; omega)).trans (h.block i hi hn)⟩
theorem Keeps.below {S : Nat → Prop} {a b c : World} (h : Keeps S a b) {n : Nat} (hb : Below n b c) (hn : a.heap.size ≤ n) : Keeps S a c :=
 ⟨hb.os.trans h.os, hb.tape.trans h.tape, hb.output.trans h.output, Nat.le_trans h.size hb.size, fun i hi hs => (hb.block i (by omega)).trans (h.block i hi hs)⟩
theorem keeps_below {w w' : World} (h : Below w.heap.size w w') (S : Nat → Prop) : Keeps S w w' := (Keeps.refl S w).below h (Nat.le_refl _)
theorem Keeps.toBelow {S : Nat → Prop} {w w' : World} (h : Keeps S w w') {n : Nat} (hn : n ≤ w.heap.size) (hS : ∀ k, S k → n ≤ k) : Below n w w' :=
 ⟨h.os, h.tape, h.output, h.size, fun k hk => h.block k (by omega) (fun e => by have := hS k e; omega)⟩
theorem fresh_refl (S : Nat → Prop) (n : Nat) : Fresh S n S := fun _ h => .inl h
theorem fresh_non (S : Nat → Prop) (n : Nat) : Fresh S n Non := fun _ h => h.elim
theorem lt_of_block {w : World} {b : Nat} {o : Obj} (h : w.heap[b]? = some o) : b < w.heap.size := (Array.getElem?_eq_some_iff.1 h).1
theorem block_below {w w' : World} (h : Below w.heap.size w w') {b : Nat} {o : Obj} (hb : w.heap[b]? = some o) : w'.heap[b]? = some o := (h.block b (lt_of_block hb)).trans hb
theorem block_keep {w w' : World} {O : Nat → Prop} {b : Nat} {o : Obj} (h : w.heap[b]? = some o) (hk : Keeps O w w') (hb : ¬ O b) : w'.heap[b]? = some o := (hk.block b (lt_of_block h) hb).trans h
def Tells (v : Value) (w : World) (e : Ending) (w' : World) : Prop := e = .returned v ∧ ∃ n, w' = w.drewN n
def wrongV (c p : Nat) : Value := .iface 115 (.agg #[.int .i64 (c : Int), .int .i64 (p : Int)])
structure ScAt (w : World) (B : Nat) (a : Option Addr) (c : Nat) (l : List UInt8) (i : Nat) (t : List UInt8) : Prop where
 blk : w.heap[B]? = some (.cells #[.slice a l.length c, .int .i64 (i : Int)] 119 (0, 0))
 row : l.length = 0 ∨ ∃ b o, a = some ⟨b, o, none⟩ ∧ b ≠ B ∧ ∀ k, k < l.length → w.cell? ⟨b, o + k, none⟩ = some (.int .u8 (fs l k : Int))
 nul : a = none → c = 0
 cap : l.length ≤ c
 most : c ≤ maxLen
 few : l.length ≤ 65536
 fits : i ≤ l.length
 left : t = l.drop i
theorem ScAt.moved {w w' : World} {B : Nat} {a : Option Addr} {c : Nat} {l : List UInt8} {i : Nat} {t : List UInt8} (h : ScAt w B a c l i t) (hk : Keeps (One B) w w') (j : Nat) (hb : w'.heap[B]? = some (.cells #[.slice a l.length c, .int .i64 (j : Int)] 119 (0, 0))) (hj : j ≤ l.length) (u : List UInt8) (hu : u = l.drop j) : ScAt w' B a c l j u where
 blk := hb
 row := by
  rcases h.row with h0 | ⟨b, o, h1, h2, h3⟩
  ·exact .inl h0
  ·exact .inr ⟨b, o, h1, h2, fun k hk' => (World.cell?_of_block (hk.block b (lt_of_cell (h3 k hk')) h2)).trans (h3 k hk')⟩
 nul := h.nul
 cap := h.cap
 most := h.most
 few := h.few
 fits := hj
 left := hu
theorem ScAt.keep {w w' : World} {B : Nat} {a : Option Addr} {c : Nat} {l : List UInt8} {i : Nat} {t : List UInt8} (h : ScAt w B a c l i t) (hb : Below w.heap.size w w') : ScAt w' B a c l i t :=
 h.moved (keeps_below hb (One B)) i (block_below hb h.blk) h.fits t h.left
theorem ScAt.drawn {w : World} {B : Nat} {a : Option Addr} {c : Nat} {l : List UInt8} {i : Nat} {t : List UInt8} (h : ScAt w B a c l i t) (n : Nat) : ScAt (w.drewN n) B a c l i t :=
 h.keep ⟨rfl, rfl, rfl, Nat.le_refl _, fun _ _ => rfl⟩
theorem ScAt.place {w : World} {B : Nat} {a : Option Addr} {c : Nat} {l : List UInt8} {i : Nat} {t : List UInt8} (h : ScAt w B a c l i t) {j : Nat} (hj : j ≤ l.length) {u : List UInt8} (hu : u = l.drop j) : ScAt (w.setCell ⟨B, 1, none⟩ (.int .i64 (j : Int))) B a c l j u ∧ Keeps (One B) w (w.setCell ⟨B, 1, none⟩ (.int .i64 (j : Int))) := by
 have hk : Keeps (One B) w (w.setCell ⟨B, 1, none⟩ (.int .i64 (j : Int))) := (Keeps.refl (One B) w).setCell (p := ⟨B, 1, none⟩) (.inl rfl) _
 exact ⟨h.moved hk j (block_setCell (i := 1) h.blk _) hj u hu, hk⟩
theorem ScAt.cells {w : World} {B : Nat} {a : Option Addr} {c : Nat} {l : List UInt8} {i : Nat} {t : List UInt8} (h : ScAt w B a c l i t) : w.cell? ⟨B, 0, none⟩ = some (.slice a l.length c) ∧ w.cell? ⟨B, 1, none⟩ = some (.int .i64 (i : Int)) :=
 ⟨(cell_of_block h.blk 0).trans rfl, (cell_of_block h.blk 1).trans rfl⟩
theorem ScAt.len {w : World} {B : Nat} {a : Option Addr} {c : Nat} {l : List UInt8} {i : Nat} {t : List UInt8} (h : ScAt w B a c l i t) : i + t.length = l.length := by
 rw [h.left, List.length_drop]; have := h.fits; omega
theorem ScAt.head {w : World} {B : Nat} {a : Option Addr} {c : Nat} {l : List UInt8} {i : Nat} {x : UInt8} {t : List UInt8} (h : ScAt w B a c l i (x :: t)) : i < l.length ∧ fs l i = x.toNat ∧ t = l.drop (i + 1) := by
 have hl := h.len
 have hlt : i < l.length := by rw [List.length_cons] at hl; omega
 have h1 := h.left
 rw [List.drop_eq_getElem_cons hlt] at h1
 injection h1 with h2 h3
 exact ⟨hlt, by unfold fs; rw [List.getD_eq_getElem?_getD, List.getElem?_eq_getElem hlt, h2]; rfl, h3⟩
theorem mustS_cons (b x : UInt8) (i : Nat) (t : List UInt8) : mustS b i (x :: t) = if x = b then .ok () (i + 1) t else .no 2 i := rfl
theorem blkS_cons (i : Nat) (x : UInt8) (t : List UInt8) : blkS i (x :: t) = if blankB (x.toNat : Int) = true then blkS (i + 1) t else .ok () i (x :: t) := rfl
def Throws (c p : Nat) (w : World) (e : Ending) (w' : World) : Prop := e = .panicked [{ v := wrongV c p, recovered := false }] ∧ ∃ n, w' = w.drewN n
def ScOut {α : Type} (w : World) (B : Nat) (a : Option Addr) (c : Nat) (l : List UInt8) (val : α → Value) : Sx α → Ending → World → Prop
 | .ok x i t, e, w' => e = .returned (val x) ∧ ScAt w' B a c l i t ∧ Keeps (One B) w w'
 | .no cd p, e, w' => e = .panicked [{ v := wrongV cd p, recovered := false }] ∧ Keeps (One B) w w'
theorem ScOut.after {α : Type} {w w1 w2 : World} {B : Nat} {a : Option Addr} {c : Nat} {l : List UInt8} {val : α → Value} {s : Sx α} {e : Ending} (h : ScOut w1 B a c l val s e w2) (hk : Keeps (One B) w w1) : ScOut w B a c l val s e w2 := by
 cases s with
 | ok x i t => exact ⟨h.1, h.2.1, hk.trans h.2.2 (fresh_refl _ _)⟩
 | no cd p => exact ⟨h.1, hk.trans h.2 (fresh_refl _ _)⟩
theorem peek_end {w : World} {B : Nat} {a : Option Addr} {c : Nat} {l : List UInt8} {i : Nat} (h : ScAt w B a c l i []) : Calls Tryz.prog 135 #[.pointer (some ⟨B, 0, none⟩)] w (Throws 6 i w) := by
 obtain ⟨e0, e1⟩ := h.cells
 have hlen := h.len
 have hin : i = l.length := by simpa using hlen
 rw [← hin] at e0
 have hz : ((i : Int) == (i : Int)) = true := by simp
 clear h hlen hin
 go_enter Tryz.func135, Tryz.ntmps135
 go_wp2_with fail
 go_quiet (fail)
 go_wp2_with fail
 exact ⟨rfl, rfl, _, rfl⟩
theorem peek_ok {w : World} {B : Nat} {a : Option Addr} {c : Nat} {l : List UInt8} {i : Nat} {x : UInt8} {t : List UInt8} (h : ScAt w B a c l i (x :: t)) : Calls Tryz.prog 135 #[.pointer (some ⟨B, 0, none⟩)] w (Tells (.int .u8 (x.toNat : Int)) w) := by
 obtain ⟨e0, e1⟩ := h.cells
 obtain ⟨hlt, hx, _⟩ := h.head
 obtain ⟨n, hn⟩ : ∃ n, l.length = n := ⟨_, rfl⟩
 have hrow := h.row
 rw [hn] at e0 hlt hrow
 rcases hrow with h0 | ⟨b, o, rfl, hne, hrow⟩
 ·omega
 have hcell := hrow i hlt
 rw [hx] at hcell
 have hz : ((i : Int) == (n : Int)) = false := by simp; omega
 obtain ⟨y, hy⟩ : ∃ y, x.toNat = y := ⟨_, rfl⟩
 rw [hy] at hcell ⊢
 clear h hrow hn hx hne hy
 go_enter Tryz.func135, Tryz.ntmps135
 go_wp2_with fail
 go_quiet (fail)
 go_wp2_with fail
 go_quiet (fail)
 go_wp2
 go_ret
 exact ⟨rfl, _, World.drewN_drewN _ _ _⟩
theorem must_calls {w : World} {B : Nat} {a : Option Addr} {c : Nat} {l : List UInt8} {i : Nat} {t : List UInt8} (h : ScAt w B a c l i t) (b : UInt8) : Calls Tryz.prog 138 #[.pointer (some ⟨B, 0, none⟩), .int .u8 (b.toNat : Int)] w (ScOut w B a c l (fun _ : Unit => .tuple #[]) (mustS b i t)) := by
 cases t with
 | nil =>
  have HC := hid (peek_end h)
  have HF : Hid (∀ k, ScOut w B a c l (fun _ : Unit => .tuple #[]) (mustS b i []) (.panicked [{ v := wrongV 6 i, recovered := false }]) (w.drewN k)) := hid fun k => ⟨rfl, (Keeps.refl _ _).drewN k⟩
  clear h
  go_enter Tryz.func138, Tryz.ntmps138
  go_wp2_with fail
  with_reducible refine HC.out.mono ?_
  rintro e w1 ⟨rfl, k, rfl⟩
  go_wp2_with fail
  exact ⟨rfl, HF.out _⟩
 | cons x t =>
  have HC := hid (peek_ok h)
  obtain ⟨e0, e1⟩ := h.cells
  obtain ⟨hlt, _, ht⟩ := h.head
  have hfew := h.few
  by_cases hb : x = b
  ·have hz : ((x.toNat : Int) != (b.toNat : Int)) = false := by simp [hb]
   have f1 := unfrozen_of_block h.blk 1
   have hadd : IntKind.i64.wrap ((i : Int) + 1) = ((i + 1 : Nat) : Int) := IntWalk.i64_in _ (by omega)
   have HF : Hid (∀ k, ScOut w B a c l (fun _ : Unit => .tuple #[]) (mustS b i (x :: t)) (.returned (.tuple #[])) ((w.setCell ⟨B, 1, none⟩ (.int .i64 ((i + 1 : Nat) : Int))).drewN k)) := hid fun k => by
    rw [mustS_cons, if_pos hb]
    have := h.place (j := i + 1) hlt ht
    exact ⟨rfl, this.1.drawn k, this.2.drewN k⟩
   clear h hb hlt ht hfew
   go_enter Tryz.func138, Tryz.ntmps138
   go_wp2_with fail
   with_reducible refine HC.out.mono ?_
   rintro e w1 ⟨rfl, k, rfl⟩
   go_wp2_with fail
   go_end0
   exact HF.out _
  ·have hz : ((x.toNat : Int) != (b.toNat : Int)) = true := by
    simp only [bne_iff_ne, ne_eq, Int.ofNat_inj]
    exact fun h => hb (UInt8.toNat_inj.1 h)
   have HF : Hid (∀ k, ScOut w B a c l (fun _ : Unit => .tuple #[]) (mustS b i (x :: t)) (.panicked [{ v := wrongV 2 i, recovered := false }]) (w.drewN k)) := hid fun k => by
    rw [mustS_cons, if_neg hb]
    exact ⟨rfl, (Keeps.refl _ _).drewN k⟩
   clear h hb hlt ht hfew
   go_enter Tryz.func138, Tryz.ntmps138
   go_wp2_with fail
   with_reducible refine HC.out.mono ?_
   rintro e w1 ⟨rfl, k, rfl⟩
   go_wp2_with fail
   exact ⟨rfl, HF.out _⟩
theorem blanks_calls {w : World} {B : Nat} {a : Option Addr} {c : Nat} {l : List UInt8} {i : Nat} {t : List UInt8} (h : ScAt w B a c l i t) : Calls Tryz.prog 137 #[.pointer (some ⟨B, 0, none⟩)] w (ScOut w B a c l (fun q : Bool => .bool q) (blanksS i t)) := by
 obtain ⟨e0, e1⟩ := h.cells
 have hfew := h.few
 obtain ⟨R, hR⟩ : ∃ R, blkS i t = R := ⟨_, rfl⟩
 have hb : blanksS i t = R.then fun _ j t => .ok (decide (i < j)) j t := by unfold blanksS; rw [hR]
 rw [hb]
 have HR := hid hR
 have HS := hid h
 obtain ⟨G, hG⟩ : ∃ G, t.length = G := ⟨_, rfl⟩
 have HG := hid hG
 clear h hR hb e0 hG
 go_enter Tryz.func137, Tryz.ntmps137
 go_wp2_with fail
 go_loopg [] (G + 1) (fun gk wr => ∃ j u, gk = u.length + 1 ∧ i ≤ j ∧ blkS j u = R ∧ ScAt wr B a c l j u ∧ Keeps (One B) w wr)
 case atStart => exact ⟨i, t, by rw [HG.out], Nat.le_refl _, HR.out, HS.out, Keeps.refl _ _⟩
 case round =>
  obtain ⟨j, u, rfl, hij, hq, hs, hk⟩ := hrel
  have HQ := hid hq
  have HS1 := hid hs
  have HK := hid hk
  obtain ⟨y0, y1⟩ := hs.cells
  cases u with
  | nil =>
   have HC := hid (peek_end hs)
   have HF : Hid (∀ k, ScOut w B a c l (fun q : Bool => .bool q) (R.then fun _ j t => .ok (decide (i < j)) j t) (.panicked [{ v := wrongV 6 j, recovered := false }]) (wr.drewN k)) := hid fun k => by
    rw [← HQ.out]
    exact ⟨rfl, HK.out.drewN k⟩
   clear hq hs hk HR HS HG
   go_wp2_with fail
   with_reducible refine HC.out.mono ?_
   rintro e w1 ⟨rfl, k, rfl⟩
   go_wp2_with fail
   exact ⟨rfl, HF.out _⟩
  | cons x u =>
   have HC := hid (peek_ok hs)
   obtain ⟨hlt, hx, hu⟩ := hs.head
   have hxl := x.toNat_lt
   have hi32 : IntKind.i32.wrap (x.toNat : Int) = (x.toNat : Int) := IntWalk.i32_in _ (by omega)
   have HBL := hid (fun W => blank_calls (x.toNat : Int) W)
   obtain ⟨q, hbq⟩ : ∃ q, blankB (x.toNat : Int) = q := ⟨_, rfl⟩
   rw [blkS_cons, hbq] at hq
   simp only [hbq] at HBL
   cases q with
   | false =>
    have HF : Hid (∀ k, ScOut w B a c l (fun q : Bool => .bool q) (R.then fun _ j t => .ok (decide (i < j)) j t) (.returned (.bool (decide (i < j)))) (wr.drewN k)) := hid fun k => by
     rw [if_neg Bool.false_ne_true] at hq
     rw [← hq]
     exact ⟨rfl, HS1.out.drawn k, HK.out.drewN k⟩
    clear hq hs hk HR HS HG hx hu hbq
    go_wp2_with fail
    with_reducible refine HC.out.mono ?_
    rintro e w1 ⟨rfl, k, rfl⟩
    go_wp2_with fail
    with_reducible refine (HBL.out _).mono ?_
    rintro e w3 ⟨rfl, rfl⟩
    go_wp2_with fail
    go_ret
    exact HF.out _
   | true =>
    rw [if_pos rfl] at hq
    have HQ2 := hid hq
    have hadd : IntKind.i64.wrap ((j : Int) + 1) = ((j + 1 : Nat) : Int) := IntWalk.i64_in _ (by omega)
    have f1 := unfrozen_of_block hs.blk 1
    have HN : Hid (∀ k, ScAt ((wr.setCell ⟨B, 1, none⟩ (.int .i64 ((j + 1 : Nat) : Int))).drewN k) B a c l (j + 1) u ∧ Keeps (One B) w ((wr.setCell ⟨B, 1, none⟩ (.int .i64 ((j + 1 : Nat) : Int))).drewN k)) := hid fun k => by
     have := HS1.out.place (j := j + 1) hlt hu
     exact ⟨this.1.drawn k, (HK.out.trans this.2 (fresh_refl _ _)).drewN k⟩
    clear hq hs hk HR HS HG hx hu hbq
    go_wp2_with fail
    with_reducible refine HC.out.mono ?_
    rintro e w1 ⟨rfl, k, rfl⟩
    go_wp2_with fail
    with_reducible refine (HBL.out _).mono ?_
    rintro e w3 ⟨rfl, rfl⟩
    go_wp2_with fail
    go_roundg (u.length + 1)
    case measure => simp
    case rel => exact ⟨j + 1, u, rfl, by omega, HQ2.out, (HN.out _).1, (HN.out _).2⟩
end Go.Proofs.YtjpkkflhcjjefaaGreatDoor
