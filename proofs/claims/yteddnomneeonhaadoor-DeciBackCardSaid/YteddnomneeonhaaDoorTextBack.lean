/-
  How a number is written, as the document says it; what is written is read as that number. No program, no condition.
-/
import Derived.Test.YteddnomneeonhaaDoorTextPure
namespace Go.Proofs.YteddnomneeonhaaDoor
open Go.Lib

/-- The six places of f, with the zeros ahead. -/
def sixT (f : Nat) : List UInt8 := (decDigits (1000000 + f)).drop 1
def fracT (f : Nat) : List UInt8 := if f = 0 then [] else 46 :: trimRightB (sixT f) 48
def signT (v : Int) : List UInt8 := if v < 0 then [45] else []
def wholeT (v : Int) : List UInt8 := decDigits (v.natAbs / 1000000) ++ fracT (v.natAbs % 1000000)
def textP (a : Num) : List UInt8 := if oddN a = true then [78, 97, 78] else signT a.v ++ wholeT a.v

theorem dg_toNat {d : Nat} (h : d < 10) : (UInt8.ofNat (48 + d)).toNat = 48 + d := by
  rw [UInt8.toNat_ofNat']
  omega
theorem dgV_of {d : Nat} (h : d < 10) : dgV (UInt8.ofNat (48 + d)) = d := by
  unfold dgV
  rw [dg_toNat h]
  omega
theorem isDg_of {d : Nat} (h : d < 10) : isDg (UInt8.ofNat (48 + d)) = true := by
  unfold isDg
  rw [dg_toNat h]
  simp
  omega

theorem valD_append : ∀ (l : List UInt8) (u : Nat) (b : UInt8), valD u (l ++ [b]) = valD u l * 10 + dgV b
  | [], _u, _b => rfl
  | c :: t, u, b => valD_append t (u * 10 + dgV c) b
theorem valD_scale : ∀ (l : List UInt8) (u : Nat), valD u l = u * 10 ^ l.length + valD 0 l
  | [], u => by
    show u = u * 10 ^ 0 + 0
    rw [Nat.pow_zero, Nat.mul_one, Nat.add_zero]
  | b :: t, u => by
    have h1 := valD_scale t (u * 10 + dgV b)
    have h2 := valD_scale t (0 * 10 + dgV b)
    show valD (u * 10 + dgV b) t = u * 10 ^ (t.length + 1) + valD (0 * 10 + dgV b) t
    rw [h1, h2, Nat.add_mul, Nat.zero_mul, Nat.zero_add, Nat.pow_succ, Nat.mul_assoc u 10, Nat.mul_comm 10 (10 ^ t.length)]
    omega
theorem valD_lt : ∀ (l : List UInt8), l.all isDg = true → valD 0 l < 10 ^ l.length
  | [], _ => Nat.one_pos
  | b :: t, h => by
    rw [List.all_cons, Bool.and_eq_true] at h
    have ih := valD_lt t h.2
    have hb : dgV b ≤ 9 := by
      have := h.1
      unfold isDg at this
      unfold dgV
      simp at this
      omega
    show valD (0 * 10 + dgV b) t < 10 ^ (t.length + 1)
    rw [valD_scale, Nat.zero_mul, Nat.zero_add, Nat.pow_succ]
    have : dgV b * 10 ^ t.length ≤ 9 * 10 ^ t.length := Nat.mul_le_mul_right _ hb
    omega

theorem decDigits_dg (u : Nat) : (decDigits u).all isDg = true := by
  induction u using Nat.strongRecOn with
  | _ u ih =>
    rw [decDigits]
    split
    · rename_i h
      rw [List.all_cons, isDg_of h]
      rfl
    · rw [List.all_append, ih (u / 10) (by omega), List.all_cons, isDg_of (Nat.mod_lt _ (by decide))]
      rfl
theorem decDigits_val (u : Nat) : valD 0 (decDigits u) = u := by
  induction u using Nat.strongRecOn with
  | _ u ih =>
    rw [decDigits]
    split
    · rename_i h
      show 0 * 10 + dgV (UInt8.ofNat (48 + u)) = u
      rw [dgV_of h]
      omega
    · rw [valD_append, ih (u / 10) (by omega), dgV_of (Nat.mod_lt _ (by decide))]
      omega
theorem decDigits_cons (u : Nat) : ∃ b t, decDigits u = b :: t := by
  have h := decDigits_length u
  have h2 := nDigits_pos u
  cases hd : decDigits u with
  | nil => rw [hd] at h; simp at h; omega
  | cons b t => exact ⟨b, t, rfl⟩

theorem six_split {f : Nat} (hf : f < 1000000) : ∃ x, decDigits (1000000 + f) = x :: sixT f ∧ (sixT f).length = 6 ∧ (sixT f).all isDg = true ∧ valD 0 (sixT f) = f := by
  obtain ⟨x, t, h⟩ := decDigits_cons (1000000 + f)
  have hs : sixT f = t := by unfold sixT; rw [h]; rfl
  have hl := decDigits_length (1000000 + f)
  rw [nDigits_unique 6 (1000000 + f) (by omega) (by omega), h, List.length_cons] at hl
  have hd := decDigits_dg (1000000 + f)
  rw [h, List.all_cons, Bool.and_eq_true] at hd
  have hv := decDigits_val (1000000 + f)
  rw [h] at hv
  have hv2 : dgV x * 1000000 + valD 0 t = 1000000 + f := by
    have e : valD 0 (x :: t) = valD (0 * 10 + dgV x) t := rfl
    rw [e, valD_scale, Nat.zero_mul, Nat.zero_add, show t.length = 6 by omega] at hv
    exact hv
  have hlt := valD_lt t hd.2
  rw [show t.length = 6 by omega] at hlt
  have hlt2 : valD 0 t < 1000000 := hlt
  rw [hs]
  exact ⟨x, h, by omega, hd.2, by omega⟩

theorem trim_pad (l : List UInt8) (c : UInt8) : ∃ n, l = trimRightB l c ++ List.replicate n c := by
  have h := List.takeWhile_append_dropWhile (p := (· == c)) (l := l.reverse)
  have hr : l.reverse.takeWhile (· == c) = List.replicate (l.reverse.takeWhile (· == c)).length c := by
    refine List.eq_replicate_iff.2 ⟨rfl, fun b hb => ?_⟩
    have := List.all_eq_true.1 (List.all_takeWhile (p := (· == c)) (l := l.reverse)) b hb
    simpa using this
  refine ⟨(l.reverse.takeWhile (· == c)).length, ?_⟩
  unfold trimRightB
  have h2 := congrArg List.reverse h
  rw [List.reverse_append, List.reverse_reverse] at h2
  generalize l.reverse.takeWhile (· == c) = X at *
  rw [hr, List.reverse_replicate] at h2
  exact h2.symm

theorem sixD_pad : ∀ (l : List UInt8) (k u : Nat), l.length ≤ k → sixD u k l = valD u (l ++ List.replicate (k - l.length) 48)
  | [], 0, u, _ => rfl
  | [], k + 1, u, _ => by
    have ih := sixD_pad [] k (u * 10) (Nat.zero_le _)
    show sixD (u * 10) k [] = valD u (List.replicate (k + 1) 48)
    rw [ih, List.replicate_succ]
    show valD (u * 10) (List.replicate k 48) = valD (u * 10 + dgV 48) (List.replicate k 48)
    rw [show dgV 48 = 0 from by decide, Nat.add_zero]
  | b :: t, 0, u, h => by simp at h
  | b :: t, k + 1, u, h => by
    have ih := sixD_pad t k (u * 10 + dgV b) (by simp at h; omega)
    show sixD (u * 10 + dgV b) k t = valD (u * 10 + dgV b) (t ++ List.replicate (k + 1 - (t.length + 1)) 48)
    rw [ih, show k + 1 - (t.length + 1) = k - t.length by omega]

theorem splitDot_digits : ∀ (l r : List UInt8), l.all isDg = true → splitDot (l ++ 46 :: r) = (l, r) ∧ splitDot l = (l, [])
  | [], r, _ => ⟨rfl, rfl⟩
  | b :: t, r, h => by
    rw [List.all_cons, Bool.and_eq_true] at h
    have hb : b ≠ 46 := fun e => by rw [e] at h; exact absurd h.1 (by decide)
    obtain ⟨i1, i2⟩ := splitDot_digits t r h.2
    constructor
    · rw [List.cons_append, splitDot, if_neg hb, i1]
    · rw [splitDot, if_neg hb, i2]

/-- The characters of a number's text. -/
def inText (b : UInt8) : Bool := isDg b || b == 45 || b == 46
theorem inText_bl {b : UInt8} (h : inText b = true) : isBl b = false := by
  unfold inText isDg at h
  unfold isBl pBl
  simp only [Bool.or_eq_true, Bool.and_eq_true, decide_eq_true_eq, beq_iff_eq] at h
  simp only [Bool.or_eq_false_iff, beq_eq_false_iff_ne, ne_eq]
  rcases h with (h | h) | h
  · omega
  · subst h; decide
  · subst h; decide
theorem trimL_text (l : List UInt8) (h : l.all inText = true) : trimL l = l := by
  have hl : lead l = 0 := by
    cases l with
    | nil => rfl
    | cons b t =>
      rw [List.all_cons, Bool.and_eq_true] at h
      rw [lead, if_neg (by rw [inText_bl h.1]; decide)]
  unfold trimL
  rw [hl, List.drop_zero]
  have hr : rl l l.length = l.length := by
    cases hn : l.length with
    | zero => rfl
    | succ n =>
      have hg : inText (l.getD n 0) = true := by
        have hlt : n < l.length := by omega
        rw [List.getD_eq_getElem?_getD, List.getElem?_eq_getElem hlt, Option.getD_some]
        exact List.all_eq_true.1 h _ (List.getElem_mem hlt)
      rw [rl, if_neg (by rw [inText_bl hg]; decide)]
  rw [hr, List.take_length]
theorem all_inText {l : List UInt8} (h : l.all isDg = true) : l.all inText = true := by
  rw [List.all_eq_true] at h ⊢
  intro b hb
  unfold inText
  rw [h b hb]
  rfl

theorem numOf_fit {g : Bool} {n : Nat} {v : Int} (h : sgnd g n = v) (h0 : -1000000000000000 ≤ v) (h1 : v ≤ 1000000000000000) : numOf g n = (⟨false, v⟩, 0) := by
  unfold numOf
  have hn : ¬ 1000000000000000 < n := by
    unfold sgnd at h
    split at h <;> omega
  rw [if_neg hn, h]

/-- The size's text is read as the size. -/
theorem size_back (g : Bool) (v : Int) : parseZ g (wholeT v) = numOf g v.natAbs ∧ (wholeT v).all inText = true ∧ minusB (wholeT v) = false := by
  have hd := decDigits_dg (v.natAbs / 1000000)
  have hv := decDigits_val (v.natAbs / 1000000)
  obtain ⟨b, t, hbt⟩ := decDigits_cons (v.natAbs / 1000000)
  have hmin : ∀ r, minusB (decDigits (v.natAbs / 1000000) ++ r) = false := by
    intro r
    rw [hbt]
    rw [hbt, List.all_cons, Bool.and_eq_true] at hd
    have hb : b ≠ 45 := fun e => by rw [e] at hd; exact absurd hd.1 (by decide)
    unfold minusB
    rw [List.cons_append, List.isPrefixOf]
    have : ((45 : UInt8) == b) = false := by simpa using fun e => hb e.symm
    rw [this, Bool.false_and]
  have hne : (decDigits (v.natAbs / 1000000)).length ≠ 0 := by rw [hbt]; simp
  by_cases hf : v.natAbs % 1000000 = 0
  · have hw : wholeT v = decDigits (v.natAbs / 1000000) := by
      unfold wholeT fracT
      rw [if_pos hf, List.append_nil]
    obtain ⟨_, hs⟩ := splitDot_digits (decDigits (v.natAbs / 1000000)) [] hd
    rw [hw]
    refine ⟨?_, all_inText hd, by have := hmin []; rwa [List.append_nil] at this⟩
    unfold parseZ goodZ
    rw [hs]
    simp only [List.length_nil, Nat.add_zero, hne, decide_false, Bool.not_false, hd, List.all_nil, Bool.and_self, if_true]
    rw [sixD_nil, hv, show v.natAbs / 1000000 * 10 ^ 6 = v.natAbs by omega]
  · obtain ⟨x, h1, h2, h3, h4⟩ := six_split (f := v.natAbs % 1000000) (Nat.mod_lt _ (by decide))
    obtain ⟨T, hT⟩ : ∃ T, trimRightB (sixT (v.natAbs % 1000000)) 48 = T := ⟨_, rfl⟩
    have hw : wholeT v = decDigits (v.natAbs / 1000000) ++ 46 :: T := by
      unfold wholeT fracT
      rw [if_neg hf, hT]
    obtain ⟨n, hn⟩ := trim_pad (sixT (v.natAbs % 1000000)) 48
    rw [hT] at hn
    have hTd : T.all isDg = true := by
      rw [hn, List.all_append, Bool.and_eq_true] at h3
      exact h3.1
    have hTl : T.length + n = 6 := by
      have := congrArg List.length hn
      rw [h2, List.length_append, List.length_replicate] at this
      omega
    obtain ⟨hs, _⟩ := splitDot_digits (decDigits (v.natAbs / 1000000)) T hd
    rw [hw]
    refine ⟨?_, ?_, hmin _⟩
    · unfold parseZ goodZ
      rw [hs]
      have hne2 : ¬ (decDigits (v.natAbs / 1000000)).length + T.length = 0 := by omega
      simp only [hne2, decide_false, Bool.not_false, hd, hTd, Bool.and_self, if_true]
      rw [hv, sixD_pad T 6 _ (by omega), show 6 - T.length = n by omega, ← hn, valD_scale, h2, h4]
      rw [show v.natAbs / 1000000 * 10 ^ 6 + v.natAbs % 1000000 = v.natAbs by omega]
    · rw [List.all_append, all_inText hd, List.all_cons, all_inText hTd]
      decide

theorem parse_text {a : Num} (h : oddN a = false) : parseP (textP a) = (a, 0) := by
  obtain ⟨hn, h0, h1⟩ := oddN_false.1 h
  have ht : textP a = signT a.v ++ wholeT a.v := by unfold textP; rw [h, if_neg (by decide)]
  obtain ⟨s1, s2, s3⟩ := size_back (negB a.v) a.v
  have hall : (signT a.v ++ wholeT a.v).all inText = true := by
    rw [List.all_append, s2, Bool.and_true]
    unfold signT
    split <;> decide
  rw [ht]
  unfold parseP
  rw [trimL_text _ hall]
  have hfit : numOf (negB a.v) a.v.natAbs = (a, 0) := by
    rw [numOf_fit (sgnd_self a.v) h0 h1, known_eta h]
  unfold parseS signT
  by_cases hneg : a.v < 0
  · have hb : negB a.v = true := by simpa [negB] using hneg
    rw [if_pos hneg]
    have hm : minusB ([45] ++ wholeT a.v) = true := rfl
    have hz : sizeT ([45] ++ wholeT a.v) = wholeT a.v := by unfold sizeT; rw [hm]; rfl
    rw [hm, hz, ← hb, s1, hfit]
  · have hb : negB a.v = false := by simpa [negB] using hneg
    rw [if_neg hneg, List.nil_append, s3]
    have hz : sizeT (wholeT a.v) = wholeT a.v := by unfold sizeT; rw [s3]; rfl
    rw [hz, ← hb, s1, hfit]
theorem parse_nan : parseP [78, 97, 78] = (nanN, 0) := by decide +kernel

end Go.Proofs.YteddnomneeonhaaDoor
