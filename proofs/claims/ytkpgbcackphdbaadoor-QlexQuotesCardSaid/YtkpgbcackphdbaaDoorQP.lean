/-
  Expressions cut into tokens, by definition: what begins at a byte, and the tokens of a text. Of no program. No condition.
-/
import Derived.Test.YtkpgbcackphdbaaDoorVO
namespace Go.Proofs.YtkpgbcackphdbaaDoor
open Go.RowKit Go.Lib

/-- A token: its kind, its place, its text. -/
structure Tk where
  kind : Int
  spot : Nat
  text : List UInt8
def digitB (b : UInt8) : Bool := decide (48 ≤ b.toNat) && decide (b.toNat ≤ 57)
def digs : List UInt8 → Nat
  | [] => 0
  | b :: t => if digitB b = true then digs t + 1 else 0
def hasPre (m l : List UInt8) : Bool := m.isPrefixOf l
/-- How many bytes of a text its number has. -/
def numLen (l : List UInt8) : Nat := if hasPre [46] (l.drop (digs l)) = true then digs l + (1 + digs (l.drop (digs l + 1))) else digs l
/-- A text without the blanks at its beginning. -/
def blk (l : List UInt8) : List UInt8 := l.drop (lead l)
def fitsQ (fb : Bool) (m : Nat) : Bool := if fb then beginsB (m : Int) else goesB (m : Int)
/-- How many bytes a name has with which a text begins. -/
def nmLen : Nat → Bool → List UInt8 → Nat
  | 0, _, _ => 0
  | g + 1, fb, l => if l = [] then 0 else if fitsQ fb (decodeL l).1 = true then (decodeL l).2 + nmLen g false (l.drop (decodeL l).2) else 0
def begun (l : List UInt8) : List UInt8 := l.take (nmLen l.length true l)
/-- What stands ahead of a byte, if it is there. -/
def upTo (c : UInt8) : List UInt8 → Option (List UInt8)
  | [] => none
  | b :: t => if b = c then some [] else (upTo c t).map (b :: ·)
def marksQ : List (List UInt8) := [[58, 58], [46, 46], [40], [41], [91], [93], [64], [44], [46]]
def opsQ : List (List UInt8) := [[47, 47], [33, 61], [60, 61], [62, 61], [47], [124], [43], [45], [61], [60], [62]]
def opensQ : List (List UInt8) := [[64], [58, 58], [40], [91], [44]]
def wordsQ : List (List UInt8) := [[97, 110, 100], [111, 114], [100, 105, 118], [109, 111, 100]]
def typesQ : List (List UInt8) := [[99, 111, 109, 109, 101, 110, 116], [116, 101, 120, 116], [112, 114, 111, 99, 101, 115, 115, 105, 110, 103, 45, 105, 110, 115, 116, 114, 117, 99, 116, 105, 111, 110], [110, 111, 100, 101]]
/-- What is told of the bytes at a place: kind, text and how many bytes; or a code. -/
abbrev Rd := Except Int (Int × List UInt8 × Nat)
def tokQ (k : Int) (t : List UInt8) : Rd := .ok (k, t, t.length)
def signQ (l : List UInt8) : Rd :=
  match marksQ.find? (fun s => hasPre s l) with
  | some s => tokQ 6 s
  | none => match opsQ.find? (fun s => hasPre s l) with
    | some s => tokQ 5 s
    | none => .error 60
def quotedQ (c : UInt8) (t : List UInt8) : Rd :=
  match upTo c t with
  | none => .error 60
  | some i => .ok (7, i, 1 + i.length + 1)
def varQ (t : List UInt8) : Rd :=
  if begun (blk t) = [] then .error 60 else .ok (9, begun (blk t), t.length + 1 - (blk t).length + (begun (blk t)).length)
def kindQ (name rest : List UInt8) : Int := if hasPre [58, 58] rest = true then 4 else if hasPre [40] rest = true then (if typesQ.contains name = true then 3 else 2) else 1
def namedQ (name rest : List UInt8) (bh : Bool) : Rd :=
  if bh = true then (if wordsQ.contains name = true then tokQ 5 name else .error 61) else tokQ (kindQ name rest) name
def readQ (l : List UInt8) (bh : Bool) : Rd :=
  match l with
  | [] => .error 60
  | c :: t =>
    if c = 34 ∨ c = 39 then quotedQ c t
    else if c = 36 then varQ t
    else if c = 42 then tokQ (if bh = true then 5 else 1) [42]
    else if c = 46 then (if digs t = 0 then signQ (c :: t) else tokQ 8 ((c :: t).take (numLen (c :: t))))
    else if digitB c = true then tokQ 8 ((c :: t).take (numLen (c :: t)))
    else if begun (c :: t) = [] then signQ (c :: t)
    else namedQ (begun (c :: t)) (blk ((c :: t).drop (begun (c :: t)).length)) bh
/-- Whether tokens end with an operand. -/
def lastQ (x : Option Tk) : Bool :=
  match x with
  | none => false
  | some x => if x.kind = 5 then false else if x.kind = 6 then !opensQ.contains x.text else true
def behindQ (l : List Tk) : Bool := lastQ l.getLast?
/-- The tokens of what is left of a text of n bytes, behind some; or a code and a place. -/
def lexQ (n : Nat) : Nat → List UInt8 → List Tk → Except (Int × Nat) (List Tk)
  | 0, _, acc => .ok acc
  | g + 1, r, acc => if r = [] then .ok acc else
    match readQ r (behindQ acc) with
    | .error c => .error (c, n - r.length)
    | .ok (k, t, z) => lexQ n g (blk (r.drop z)) (acc ++ [⟨k, n - r.length, t⟩])
def allQ (s : List UInt8) : Except (Int × Nat) (List Tk) :=
  if 1000 < s.length then .error (8, 1000) else if 0 ≤ badL s then .error (1, (badL s).toNat) else lexQ s.length s.length (blk s) []

theorem lead_len (l : List UInt8) : (blk l).length = l.length - lead l := List.length_drop
theorem blk_le (l : List UInt8) : (blk l).length ≤ l.length := by rw [lead_len]; omega
theorem blk_head : ∀ (l : List UInt8) {c : UInt8} {t : List UInt8}, blk l = c :: t → isBl c = false
  | [], _, _, h => by cases h
  | b :: l, c, t, h => by
    unfold blk at h
    rw [lead] at h
    by_cases hb : isBl b = true
    · rw [if_pos hb, List.drop_succ_cons] at h
      exact blk_head l h
    · rw [if_neg hb, List.drop_zero] at h
      injection h with h1 _
      rw [← h1]
      simpa using hb
theorem blk_yes {b : UInt8} (h : isBl b = true) (l : List UInt8) : blk (b :: l) = blk l := by
  unfold blk
  rw [lead, if_pos h, List.drop_succ_cons]
theorem blk_no {b : UInt8} (h : isBl b = false) (l : List UInt8) : blk (b :: l) = b :: l := by
  unfold blk
  rw [lead, if_neg (by rw [h]; decide), List.drop_zero]
theorem blk_blk (l : List UInt8) : blk (blk l) = blk l := by
  cases h : blk l with
  | nil => rfl
  | cons c t => exact blk_no (blk_head l h) t
theorem digs_le : ∀ l, digs l ≤ l.length
  | [] => Nat.le_refl _
  | b :: t => by
    have := digs_le t
    rw [digs, List.length_cons]
    split <;> omega
theorem digs_stop : ∀ (a : List UInt8) (y : UInt8) (t : List UInt8), (∀ b ∈ a, digitB b = true) → digitB y = false → digs (a ++ y :: t) = a.length
  | [], y, t, _, hy => by rw [List.nil_append, digs, if_neg (by rw [hy]; decide)]; rfl
  | b :: a, y, t, h, hy => by
    rw [List.cons_append, digs, if_pos (h b (List.mem_cons_self ..)), digs_stop a y t (fun x hx => h x (List.mem_cons_of_mem _ hx)) hy]
    rfl
theorem digs_all : ∀ (a : List UInt8), (∀ b ∈ a, digitB b = true) → digs a = a.length
  | [], _ => rfl
  | b :: a, h => by
    rw [digs, if_pos (h b (List.mem_cons_self ..)), digs_all a (fun x hx => h x (List.mem_cons_of_mem _ hx))]
    rfl
/-- A text is its digits and what doesn't go on with one. -/
theorem digs_form : ∀ l : List UInt8, ∃ a u, l = a ++ u ∧ a.length = digs l ∧ (∀ b ∈ a, digitB b = true) ∧ (∀ y t, u = y :: t → digitB y = false)
  | [] => ⟨[], [], rfl, rfl, (fun _ h => by cases h), (fun _ _ h => by cases h)⟩
  | b :: l => by
    by_cases hb : digitB b = true
    · obtain ⟨a, u, h1, h2, h3, h4⟩ := digs_form l
      refine ⟨b :: a, u, by rw [List.cons_append, ← h1], by rw [digs, if_pos hb, List.length_cons, h2], fun x hx => ?_, h4⟩
      rcases List.mem_cons.1 hx with rfl | h
      · exact hb
      · exact h3 x h
    · exact ⟨[], b :: l, rfl, by rw [digs, if_neg hb]; rfl, (fun _ h => by cases h), fun y t h => by cases h; simpa using hb⟩
theorem numLen_le (l : List UInt8) : numLen l ≤ l.length := by
  unfold numLen
  have h1 := digs_le l
  split
  · rename_i h
    have h2 := digs_le (l.drop (digs l + 1))
    have h3 : l.drop (digs l) ≠ [] := fun e => by rw [e] at h; exact absurd h (by decide)
    have h4 : 0 < (l.drop (digs l)).length := List.length_pos_iff.2 h3
    rw [List.length_drop] at h2 h4
    omega
  · exact h1
theorem decodeL_width {l : List UInt8} (h : l ≠ []) : 1 ≤ (decodeL l).2 ∧ (decodeL l).2 ≤ l.length := by
  rw [decodeL_N]
  refine ⟨decodeN_pos _ _ _ _ _, decodeN_fits _ _ _ _ _ ?_⟩
  exact List.length_pos_iff.2 h
theorem nmLen_le : ∀ (g : Nat) (fb : Bool) (l : List UInt8), nmLen g fb l ≤ l.length
  | 0, _, _ => Nat.zero_le _
  | g + 1, fb, l => by
    rw [nmLen]
    by_cases hl : l = []
    · rw [if_pos hl]; exact Nat.zero_le _
    · rw [if_neg hl]
      split
      · have h1 := decodeL_width hl
        have h2 := nmLen_le g false (l.drop (decodeL l).2)
        rw [List.length_drop] at h2
        omega
      · exact Nat.zero_le _
theorem nmLen_fuel : ∀ (g h : Nat) (fb : Bool) (l : List UInt8), l.length ≤ g → l.length ≤ h → nmLen g fb l = nmLen h fb l
  | 0, h, fb, l, hg, hh => by
    have hl : l = [] := List.length_eq_zero_iff.1 (by omega)
    cases h with
    | zero => rfl
    | succ h => rw [nmLen, nmLen, if_pos hl]
  | g + 1, h, fb, l, hg, hh => by
    by_cases hl : l = []
    · cases h with
      | zero => rw [nmLen, nmLen, if_pos hl]
      | succ h => rw [nmLen, nmLen, if_pos hl, if_pos hl]
    · have h0 := List.length_pos_iff.2 hl
      obtain ⟨h, rfl⟩ : ∃ k, h = k + 1 := ⟨h - 1, by omega⟩
      have h1 := decodeL_width hl
      rw [nmLen, nmLen, if_neg hl, if_neg hl, nmLen_fuel g h false (l.drop (decodeL l).2) (by rw [List.length_drop]; omega) (by rw [List.length_drop]; omega)]
theorem nm_ascii (g : Nat) (fb : Bool) (b : UInt8) (t : List UInt8) (h : b.toNat < 128) : nmLen (g + 1) fb (b :: t) = if fitsQ fb b.toNat = true then 1 + nmLen g false t else 0 := by
  rw [nmLen, if_neg (by simp), decodeL_ascii b t h]
  rfl
theorem upTo_form {c : UInt8} : ∀ {t i : List UInt8}, upTo c t = some i → ∃ u, t = i ++ c :: u ∧ c ∉ i
  | [], _, h => by cases h
  | b :: t, i, h => by
    rw [upTo] at h
    by_cases hb : b = c
    · rw [if_pos hb] at h
      cases h
      exact ⟨t, by rw [hb]; rfl, by simp⟩
    · rw [if_neg hb] at h
      obtain ⟨j, hj, rfl⟩ := Option.map_eq_some_iff.1 h
      obtain ⟨u, h1, h2⟩ := upTo_form hj
      refine ⟨u, by rw [h1]; rfl, fun hm => ?_⟩
      rcases List.mem_cons.1 hm with h3 | h3
      · exact hb h3.symm
      · exact h2 h3
theorem upTo_at {c : UInt8} : ∀ {i : List UInt8} (u : List UInt8), c ∉ i → upTo c (i ++ c :: u) = some i
  | [], u, _ => by rw [List.nil_append, upTo, if_pos rfl]
  | b :: i, u, h => by
    have hb : b ≠ c := fun e => h (by rw [e]; exact List.mem_cons_self ..)
    rw [List.cons_append, upTo, if_neg hb, upTo_at u (fun hm => h (List.mem_cons_of_mem _ hm))]
    rfl
theorem upTo_none {c : UInt8} : ∀ {t : List UInt8}, upTo c t = none → c ∉ t
  | [], _ => by simp
  | b :: t, h => by
    rw [upTo] at h
    by_cases hb : b = c
    · rw [if_pos hb] at h; cases h
    · rw [if_neg hb] at h
      have h1 := upTo_none (t := t) (by cases he : upTo c t with | none => rfl | some x => rw [he] at h; cases h)
      intro hm
      rcases List.mem_cons.1 hm with h3 | h3
      · exact hb h3.symm
      · exact h1 h3
theorem behind_snoc (l : List Tk) (x : Tk) : behindQ (l ++ [x]) = lastQ (some x) := by
  unfold behindQ
  rw [List.getLast?_concat]

end Go.Proofs.YtkpgbcackphdbaaDoor
