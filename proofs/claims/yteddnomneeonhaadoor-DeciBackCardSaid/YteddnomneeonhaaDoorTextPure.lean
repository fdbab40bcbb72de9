/-
  Plain texts of numbers: how a text is read, as the document says it and as the reference goes over it, character by character; how a number is written; what is written is read as that number. No program, no condition.
-/
import Derived.Test.YteddnomneeonhaaDoorPure
import Derived.Test.YteddnomneeonhaaDoorTrim
import Derived.Lib.ItoaNum
import Derived.Lib.IndexMore
import Derived.Lib.TrimByte
namespace Go.Proofs.YteddnomneeonhaaDoor
open Go.Lib

def isDg (b : UInt8) : Bool := decide (48 ≤ b.toNat) && decide (b.toNat ≤ 57)
def dgV (b : UInt8) : Nat := b.toNat - 48
/-- The digits of a list behind u. -/
def valD : Nat → List UInt8 → Nat
  | u, [] => u
  | u, b :: t => valD (u * 10 + dgV b) t
/-- The first k digits of a list behind u, zeros where it ends. -/
def sixD : Nat → Nat → List UInt8 → Nat
  | u, 0, _ => u
  | u, k + 1, [] => sixD (u * 10) k []
  | u, k + 1, b :: t => sixD (u * 10 + dgV b) k t
/-- What stands ahead of the first point, and behind it. -/
def splitDot : List UInt8 → List UInt8 × List UInt8
  | [] => ([], [])
  | b :: t => if b = 46 then ([], t) else (b :: (splitDot t).1, (splitDot t).2)
def numOf (minus : Bool) (u : Nat) : Num × Int := if 1000000000000000 < u then (zeroN, 66) else (⟨false, sgnd minus u⟩, 0)
def goodZ (z : List UInt8) : Bool := (!decide ((splitDot z).1.length + (splitDot z).2.length = 0)) && (splitDot z).1.all isDg && (splitDot z).2.all isDg
def parseZ (minus : Bool) (z : List UInt8) : Num × Int := if goodZ z = true then numOf minus (sixD (valD 0 (splitDot z).1) 6 (splitDot z).2) else (nanN, 0)
def minusB (s : List UInt8) : Bool := [45].isPrefixOf s
def sizeT (s : List UInt8) : List UInt8 := if minusB s = true then s.drop 1 else s
def parseS (s : List UInt8) : Num × Int := parseZ (minusB s) (sizeT s)
def parseP (l : List UInt8) : Num × Int := parseS (trimL l)

/-! ### The cut at a point -/
theorem cut_hit {s sep : List UInt8} {i : Nat} (h : index s sep = i) : cut s sep = (s.take i, s.drop (i + sep.length), true) := by
  unfold cut
  rw [h, if_pos (by omega)]
  rfl
theorem cut_miss {s sep : List UInt8} (h : index s sep = -1) : cut s sep = (s, [], false) := by
  unfold cut
  rw [h, if_neg (by omega)]
theorem index_cons_one (b c : UInt8) (t : List UInt8) : index (b :: t) [c] = if (b == c) = true then 0 else if (index t [c] == -1) = true then -1 else index t [c] + 1 := by
  rw [index_one, index_one]
  rfl
theorem cut_dot : ∀ s : List UInt8, (cut s [46]).1 = (splitDot s).1 ∧ (cut s [46]).2.1 = (splitDot s).2
  | [] => ⟨rfl, rfl⟩
  | b :: t => by
    have ih := cut_dot t
    have hi := index_cons_one b 46 t
    have hge := index_ge t [46]
    by_cases hb : b = 46
    · subst hb
      have hi0 : index (46 :: t) [46] = ((0 : Nat) : Int) := by rw [hi]; rfl
      rw [cut_hit hi0]
      exact ⟨rfl, rfl⟩
    · have hb2 : ¬ (b == 46) = true := by simpa using hb
      rw [if_neg hb2] at hi
      have hs : splitDot (b :: t) = (b :: (splitDot t).1, (splitDot t).2) := if_neg hb
      rw [hs]
      by_cases hm : index t [46] = -1
      · rw [cut_miss hm] at ih
        rw [if_pos (by rw [hm]; rfl)] at hi
        rw [cut_miss hi]
        exact ⟨congrArg (b :: ·) ih.1, ih.2⟩
      · obtain ⟨k, hk⟩ := Int.eq_ofNat_of_zero_le (show 0 ≤ index t [46] by omega)
        rw [cut_hit hk] at ih
        rw [if_neg (by simpa using hm), hk] at hi
        rw [cut_hit (i := k + 1) hi]
        exact ⟨congrArg (b :: ·) ih.1, ih.2⟩

/-! ### The reference's way -/
def refLoop : List UInt8 → Nat → Nat → Bool → Nat → Option (Nat × Nat × Nat)
  | [], u, k, _, n => some (u, k, n)
  | b :: t, u, k, pt, n =>
    if b = 46 ∧ pt = false then refLoop t u k true n
    else if isDg b = false then none
    else if pt = true ∧ k = 6 then refLoop t u k pt (n + 1)
    else refLoop t (u * 10 + dgV b) (if pt = true then k + 1 else k) pt (n + 1)
def refFin (F : Nat → Num × Int) : Option (Nat × Nat × Nat) → Num × Int
  | none => (nanN, 0)
  | some (u, k, n) => if n = 0 then (nanN, 0) else F (u * 10 ^ (6 - k))

theorem sixD_nil : ∀ (k u : Nat), sixD u k [] = u * 10 ^ k
  | 0, u => by rw [Nat.pow_zero, Nat.mul_one]; rfl
  | k + 1, u => by
    have e : sixD u (k + 1) [] = sixD (u * 10) k [] := rfl
    rw [e, sixD_nil k (u * 10), Nat.pow_succ, Nat.mul_assoc u 10 (10 ^ k), Nat.mul_comm 10 (10 ^ k)]
theorem sixD_zero (u : Nat) (l : List UInt8) : sixD u 0 l = u := by cases l <;> rfl

theorem refLoop_none {b : UInt8} {t : List UInt8} {u k n : Nat} {pt : Bool} (h46 : ¬ (b = 46 ∧ pt = false)) (hb : isDg b = false) : refLoop (b :: t) u k pt n = none := by
  rw [refLoop, if_neg h46, if_pos hb]
theorem refLoop_dot {t : List UInt8} {u k n : Nat} : refLoop (46 :: t) u k false n = refLoop t u k true n := by
  rw [refLoop, if_pos ⟨rfl, rfl⟩]
theorem refLoop_full {b : UInt8} {t : List UInt8} {u n : Nat} (hb : isDg b = true) : refLoop (b :: t) u 6 true n = refLoop t u 6 true (n + 1) := by
  rw [refLoop, if_neg (fun h => by cases h.2), if_neg (fun h => by rw [hb] at h; cases h), if_pos ⟨rfl, rfl⟩]
theorem refLoop_place {b : UInt8} {t : List UInt8} {u k n : Nat} (hb : isDg b = true) (hk : k ≠ 6) : refLoop (b :: t) u k true n = refLoop t (u * 10 + dgV b) (k + 1) true (n + 1) := by
  rw [refLoop, if_neg (fun h => by cases h.2), if_neg (fun h => by rw [hb] at h; cases h), if_neg (fun h => hk h.2), if_pos rfl]
theorem refLoop_ahead {b : UInt8} {t : List UInt8} {u k n : Nat} (h46 : b ≠ 46) (hb : isDg b = true) : refLoop (b :: t) u k false n = refLoop t (u * 10 + dgV b) k false (n + 1) := by
  rw [refLoop, if_neg (fun h => h46 h.1), if_neg (fun h => by rw [hb] at h; cases h), if_neg (fun h => by cases h.1), if_neg (fun h => by cases h)]

theorem ref_behind (F : Nat → Num × Int) : ∀ (l : List UInt8) (u k n : Nat), k ≤ 6 → refFin F (refLoop l u k true n) = if n + l.length = 0 ∨ l.all isDg = false then (nanN, 0) else F (sixD u (6 - k) l)
  | [], u, k, n, hk => by
    rw [sixD_nil]
    show (if n = 0 then (nanN, 0) else F (u * 10 ^ (6 - k))) = if n + 0 = 0 ∨ true = false then (nanN, 0) else F (u * 10 ^ (6 - k))
    rw [Nat.add_zero]
    by_cases hn : n = 0
    · rw [if_pos hn, if_pos (Or.inl hn)]
    · rw [if_neg hn, if_neg (fun h => h.elim hn (fun h => by cases h))]
  | b :: t, u, k, n, hk => by
    cases hb : isDg b with
    | false =>
      rw [refLoop_none (fun h => by cases h.2) hb, if_pos (Or.inr (by rw [List.all_cons, hb, Bool.false_and]))]
      rfl
    | true =>
      have hall : (b :: t).all isDg = t.all isDg := by rw [List.all_cons, hb, Bool.true_and]
      have hlen : n + (b :: t).length = n + 1 + t.length := by rw [List.length_cons]; omega
      rw [hall, hlen]
      by_cases hk6 : k = 6
      · subst hk6
        rw [refLoop_full hb, ref_behind F t u 6 (n + 1) (by omega), Nat.sub_self, sixD_zero, sixD_zero]
      · have e : sixD u (6 - k) (b :: t) = sixD (u * 10 + dgV b) (6 - (k + 1)) t := by
          rw [show 6 - k = 6 - (k + 1) + 1 by omega]
          rfl
        rw [refLoop_place hb hk6, ref_behind F t _ (k + 1) (n + 1) (by omega), e]

theorem ref_ahead (F : Nat → Num × Int) : ∀ (z : List UInt8) (u n : Nat), refFin F (refLoop z u 0 false n) =
    if n + (splitDot z).1.length + (splitDot z).2.length = 0 ∨ (splitDot z).1.all isDg = false ∨ (splitDot z).2.all isDg = false then (nanN, 0) else F (sixD (valD u (splitDot z).1) 6 (splitDot z).2)
  | [], u, n => by
    show (if n = 0 then (nanN, 0) else F (u * 10 ^ 6)) = if n + 0 + 0 = 0 ∨ true = false ∨ true = false then (nanN, 0) else F (sixD u 6 [])
    rw [sixD_nil]
    by_cases hn : n = 0
    · rw [if_pos hn, if_pos (Or.inl (by omega))]
    · rw [if_neg hn, if_neg (fun h => h.elim (fun h => hn (by omega)) (fun h => by rcases h with h | h <;> cases h))]
  | b :: t, u, n => by
    by_cases h46 : b = 46
    · subst h46
      have hs : splitDot (46 :: t) = ([], t) := if_pos rfl
      rw [refLoop_dot, hs, ref_behind F t u 0 n (by omega)]
      show (if n + t.length = 0 ∨ t.all isDg = false then (nanN, 0) else F (sixD u 6 t)) = if n + 0 + t.length = 0 ∨ true = false ∨ t.all isDg = false then (nanN, 0) else F (sixD u 6 t)
      rw [Nat.add_zero]
      by_cases h1 : n + t.length = 0
      · rw [if_pos (Or.inl h1), if_pos (Or.inl h1)]
      · cases h2 : t.all isDg with
        | false => rw [if_pos (Or.inr rfl), if_pos (Or.inr (Or.inr rfl))]
        | true => rw [if_neg (fun h => h.elim h1 (fun h => by cases h)), if_neg (fun h => h.elim h1 (fun h => by rcases h with h | h <;> cases h))]
    · have hs : splitDot (b :: t) = (b :: (splitDot t).1, (splitDot t).2) := if_neg h46
      rw [hs]
      cases hb : isDg b with
      | false =>
        rw [refLoop_none (fun h => h46 h.1) hb, if_pos (Or.inr (Or.inl (by rw [List.all_cons, hb, Bool.false_and])))]
        rfl
      | true =>
        rw [refLoop_ahead h46 hb, ref_ahead F t _ (n + 1)]
        have hall : (b :: (splitDot t).1).all isDg = (splitDot t).1.all isDg := by rw [List.all_cons, hb, Bool.true_and]
        have hlen : n + (b :: (splitDot t).1).length = n + 1 + (splitDot t).1.length := by rw [List.length_cons]; omega
        show _ = if n + (b :: (splitDot t).1).length + (splitDot t).2.length = 0 ∨ (b :: (splitDot t).1).all isDg = false ∨ (splitDot t).2.all isDg = false then (nanN, 0) else F (sixD (valD (u * 10 + dgV b) (splitDot t).1) 6 (splitDot t).2)
        rw [hall, hlen]

theorem ref_parse (minus : Bool) (z : List UInt8) : refFin (numOf minus) (refLoop z 0 0 false 0) = parseZ minus z := by
  rw [ref_ahead]
  unfold parseZ goodZ
  generalize numOf minus (sixD (valD 0 (splitDot z).1) 6 (splitDot z).2) = x
  rw [Nat.zero_add]
  by_cases h1 : (splitDot z).1.length + (splitDot z).2.length = 0
  · rw [if_pos (Or.inl h1), if_neg (by simp only [h1, decide_true, Bool.not_true, Bool.false_and]; decide)]
  · cases h2 : (splitDot z).1.all isDg with
    | false => rw [if_pos (Or.inr (Or.inl rfl)), if_neg (by simp)]
    | true =>
      cases h3 : (splitDot z).2.all isDg with
      | false => rw [if_pos (Or.inr (Or.inr rfl)), if_neg (by simp)]
      | true => rw [if_neg (by simp only [h1, Bool.true_eq_false, or_self]; exact not_false), if_pos (by simp only [h1, decide_false, Bool.not_false, Bool.and_self])]

end Go.Proofs.YteddnomneeonhaaDoor
