/-
  The tokens of a document that tells a rune by two references, and of characters alone. Of no program. No condition. A number's digits, as the law writes them. Condition: the base is 10 or 16, the number fits into 32 bits.
-/
import Derived.Test.YtemohjodihcdfaaGreatDoorXOk
import Derived.Test.YtemohjodihcdfaaGreatDoorXVw
namespace Go.Proofs.YtemohjodihcdfaaGreatDoor
open Go.RowKit Go.Lib Go.Joins

/-- A digit's letter. -/
def digC (d : Nat) : UInt8 := if d < 10 then UInt8.ofNat (48 + d) else UInt8.ofNat (87 + d)
/-- A number's digits, ahead of others. -/
def numG (base : Nat) : Nat → Nat → List UInt8 → List UInt8
  | 0, _, acc => acc
  | g + 1, v, acc => if v = 0 then acc else numG base g (v / base) (digC (v % base) :: acc)
def numL (base : Nat) (n : Int) : List UInt8 := if n = 0 then [48] else if n < 0 then 45 :: numG base n.natAbs n.natAbs [] else numG base n.natAbs n.natAbs []
theorem digC_low : ∀ d : Fin 16, digS (digC d.val) = d.val ∧ 48 ≤ (digC d.val).toNat ∧ (digC d.val).toNat < 103 ∧ digC d.val ≠ 59 ∧ digC d.val ≠ 120 := by decide
theorem numG_zero (base g : Nat) (acc : List UInt8) : numG base g 0 acc = acc := by
  cases g with
  | zero => rfl
  | succ g => rw [numG, if_pos rfl]
theorem numG_digs {base : Nat} (h2 : 2 ≤ base) (h16 : base ≤ 16) : ∀ (g v : Nat) (acc : List UInt8), 0 < v → v ≤ g → digsS base 0 (numG base g v acc) = digsS base v acc
  | 0, v, acc, h0, hg => by omega
  | g + 1, v, acc, h0, hg => by
    have hm : v % base < base := Nat.mod_lt _ (by omega)
    have hd := (digC_low ⟨v % base, by omega⟩).1
    dsimp only at hd
    have hstep : ∀ a, a * base + v % base = v → digsS base a (digC (v % base) :: acc) = digsS base v acc := fun a ha => by
      rw [digsS, hd, if_pos hm, ha]
    have hdm := Nat.div_add_mod v base
    rw [Nat.mul_comm] at hdm
    rw [numG, if_neg (by omega)]
    by_cases hz : v / base = 0
    · rw [hz, numG_zero]
      rw [hz] at hdm
      exact hstep 0 hdm
    · rw [numG_digs h2 h16 g (v / base) _ (Nat.pos_of_ne_zero hz) (by have := Nat.div_lt_self h0 (show 1 < base by omega); omega)]
      exact hstep _ hdm
theorem numG_mem {base : Nat} (h2 : 2 ≤ base) (h16 : base ≤ 16) (Q : UInt8 → Prop) (hQ : ∀ d : Fin 16, Q (digC d.val)) : ∀ (g v : Nat) (acc : List UInt8), (∀ x ∈ acc, Q x) → ∀ x ∈ numG base g v acc, Q x
  | 0, _, _, h => h
  | g + 1, v, acc, h => by
    rw [numG]
    split
    · exact h
    · refine numG_mem h2 h16 Q hQ g _ _ fun x hx => ?_
      rcases List.mem_cons.1 hx with hx | hx
      · rw [hx]; exact hQ ⟨v % base, by have := Nat.mod_lt v (show 0 < base by omega); omega⟩
      · exact h x hx
theorem numG_len {base : Nat} (h2 : 2 ≤ base) : ∀ (k g v : Nat) (acc : List UInt8), v < 2 ^ k → (numG base g v acc).length ≤ acc.length + k
  | 0, g, v, acc, h => by
    rw [show v = 0 by omega, numG_zero]
    omega
  | k + 1, 0, v, acc, h => by rw [numG]; omega
  | k + 1, g + 1, v, acc, h => by
    rw [numG]
    split
    · omega
    · have h3 : v / base ≤ v / 2 := Nat.div_le_div_left h2 (by omega)
      have := numG_len h2 k g (v / base) (digC (v % base) :: acc) (by rw [Nat.pow_succ] at h; omega)
      rw [List.length_cons] at this
      omega
theorem numG_ne {base : Nat} : ∀ (g v : Nat) (acc : List UInt8), (acc ≠ [] ∨ (0 < v ∧ v ≤ g)) → numG base g v acc ≠ []
  | 0, v, acc, h => by
    rcases h with h | h
    · exact h
    · omega
  | g + 1, v, acc, h => by
    rw [numG]
    split
    · next hv =>
      rcases h with h | h
      · exact h
      · omega
    · exact numG_ne g _ _ (.inl (List.cons_ne_nil _ _))
/-- A letter that a number's text has. -/
def numC (x : UInt8) : Prop := 45 ≤ x.toNat ∧ x.toNat < 103 ∧ x ≠ 59 ∧ x ≠ 120
theorem numC_dig (d : Fin 16) : numC (digC d.val) := by
  obtain ⟨_, h1, h2, h3, h4⟩ := digC_low d
  exact ⟨by omega, h2, h3, h4⟩
theorem numL_mem {base : Nat} (h2 : 2 ≤ base) (h16 : base ≤ 16) (n : Int) : ∀ x ∈ numL base n, numC x := by
  have hG := numG_mem h2 h16 numC numC_dig n.natAbs n.natAbs [] (fun x h => by cases h)
  intro x hx
  unfold numL at hx
  split at hx
  · rw [List.mem_singleton.1 hx]; exact ⟨by decide, by decide, by decide, by decide⟩
  · split at hx
    · rcases List.mem_cons.1 hx with h | h
      · rw [h]; exact ⟨by decide, by decide, by decide, by decide⟩
      · exact hG x h
    · exact hG x hx
theorem numL_len {base : Nat} (h2 : 2 ≤ base) {n : Int} (h : n.natAbs < 2 ^ 32) : (numL base n).length ≤ 33 := by
  have := numG_len h2 32 n.natAbs n.natAbs [] h
  rw [List.length_nil] at this
  unfold numL
  split
  · show 1 ≤ 33; omega
  · split
    · rw [List.length_cons]; omega
    · omega
theorem numL_num {base : Nat} (h2 : 2 ≤ base) (h16 : base ≤ 16) (n : Int) : numS base (numL base n) = if 0 ≤ n ∧ n < 2147483648 then some n.toNat else none := by
  unfold numL
  by_cases h0 : n = 0
  · rw [if_pos h0, h0, if_pos (by omega)]
    unfold numS
    rw [if_neg (List.cons_ne_nil _ _), digsS, show digS 48 = 0 from by decide, if_pos (by omega), digsS]
    show (if 0 * base + 0 < 2147483648 then some (0 * base + 0) else none) = _
    rw [Nat.zero_mul, if_pos (by omega)]
    rfl
  · rw [if_neg h0]
    by_cases hn : n < 0
    · rw [if_pos hn, if_neg (by omega)]
      unfold numS
      rw [if_neg (List.cons_ne_nil _ _), digsS, show digS 45 = 99 from by decide, if_neg (by omega)]
      rfl
    · rw [if_neg hn]
      have hp : 0 < n.natAbs := by omega
      unfold numS
      rw [if_neg (numG_ne _ _ _ (.inr ⟨hp, Nat.le_refl _⟩)), numG_digs h2 h16 _ _ _ hp (Nat.le_refl _), digsS]
      show (if n.natAbs < 2147483648 then some n.natAbs else none) = _
      by_cases hl : n < 2147483648
      · rw [if_pos (by omega), if_pos (by omega)]
        congr 1
        omega
      · rw [if_neg (by omega), if_neg (by omega)]
theorem cutS_at (c : UInt8) (t : List UInt8) : ∀ a : List UInt8, (∀ x ∈ a, x ≠ c) → cutS [c] (a ++ c :: t) = some (a, t)
  | [], _ => by
    rw [List.nil_append, cutS, if_pos (by show (c == c && true) = true; simp)]
    rfl
  | x :: a, h => by
    rw [List.cons_append, cutS, if_neg, cutS_at c t a (fun y hy => h y (List.mem_cons_of_mem _ hy))]
    · rfl
    · show ¬ (c == x && true) = true
      rw [Bool.and_true, beq_iff_eq]
      exact fun e => h x (List.mem_cons_self ..) e.symm
theorem Ok8.ascii : ∀ {l : List UInt8}, (∀ x ∈ l, 32 ≤ x.toNat ∧ x.toNat < 128) → Ok8 l
  | [], _ => .nil
  | x :: l, h => by
    have h1 := h x (List.mem_cons_self ..)
    exact (Ok8.ascii (fun y hy => h y (List.mem_cons_of_mem _ hy))).cons h1.2 ((chars_nat _).2 (by omega))
/-- The document of a rune, told twice. -/
def pdoc (n : Int) : List UInt8 := [60, 97, 62, 38, 35] ++ numL 10 n ++ [59, 38, 35, 120] ++ numL 16 n ++ [59, 60, 47, 97, 62]
theorem pdoc_eq (n : Int) : pdoc n = 60 :: 97 :: 62 :: 38 :: 35 :: (numL 10 n ++ 59 :: 38 :: 35 :: 120 :: (numL 16 n ++ [59, 60, 47, 97, 62])) := by
  unfold pdoc
  simp only [List.cons_append, List.nil_append, List.append_assoc]
theorem pdoc_ok (n : Int) : Ok8 (pdoc n) := by
  refine Ok8.ascii fun x hx => ?_
  rw [pdoc_eq] at hx
  simp only [List.mem_cons, List.mem_append, List.not_mem_nil, or_false] at hx
  have h10 := numL_mem (base := 10) (by decide) (by decide) n x
  have h16 := numL_mem (base := 16) (by decide) (by decide) n x
  unfold numC at h10 h16
  rcases hx with h | h | h | h | h | h | h | h | h | h | h | h | h | h | h | h
  all_goals first
    | (rw [h]; decide)
    | (have := h10 h; omega)
    | (have := h16 h; omega)
theorem pdoc_len {n : Int} (h : n.natAbs < 2 ^ 32) : (pdoc n).length ≤ 100 := by
  have h1 := numL_len (base := 10) (by decide) h
  have h2 := numL_len (base := 16) (by decide) h
  rw [pdoc_eq]
  simp only [List.length_cons, List.length_append, List.length_nil]
  omega
theorem told_dec (n : Int) : toldS (35 :: numL 10 n) = charS (numS 10 (numL 10 n)) := by
  unfold toldS
  rw [if_neg (by intro h; injection h with h _; cases h), if_neg (by intro h; injection h with h _; cases h), if_neg (by intro h; injection h with h _; cases h), if_neg (by intro h; injection h with h _; cases h), if_neg (by intro h; injection h with h _; cases h), if_neg, if_pos (by rfl)]
  · rfl
  · intro h
    cases hd : numL 10 n with
    | nil => rw [hd] at h; cases h
    | cons x t =>
      rw [hd] at h
      have h2 : ((35 : UInt8) == 35 && ((120 : UInt8) == x && true)) = true := h
      rw [Bool.and_true, Bool.and_eq_true, beq_iff_eq, beq_iff_eq] at h2
      exact (numL_mem (base := 10) (by decide) (by decide) n x (by rw [hd]; exact List.mem_cons_self ..)).2.2.2 h2.2.symm
theorem told_hex (n : Int) : toldS (35 :: 120 :: numL 16 n) = charS (numS 16 (numL 16 n)) := by
  unfold toldS
  rw [if_neg (by intro h; injection h with h _; cases h), if_neg (by intro h; injection h with h _; cases h), if_neg (by intro h; injection h with h _; cases h), if_neg (by intro h; injection h with h _; cases h), if_neg (by intro h; injection h with h _; cases h), if_pos (by rfl)]
  rfl
theorem ref_dec (n : Int) (i : Nat) (t : List UInt8) : refS i (38 :: 35 :: (numL 10 n ++ 59 :: t)) = match charS (numS 10 (numL 10 n)) with | none => .no 5 i | some v => .ok v (i + (1 + (35 :: numL 10 n).length + 1)) t := by
  unfold refS
  rw [show (38 :: 35 :: (numL 10 n ++ 59 :: t)).drop 1 = (35 :: numL 10 n) ++ 59 :: t from rfl, cutS_at 59 t (35 :: numL 10 n) (fun x hx => by
    rcases List.mem_cons.1 hx with h | h
    · rw [h]; decide
    · exact (numL_mem (base := 10) (by decide) (by decide) n x h).2.2.1)]
  dsimp only
  rw [told_dec]
  cases charS (numS 10 (numL 10 n)) <;> rfl
theorem ref_hex (n : Int) (i : Nat) (t : List UInt8) : refS i (38 :: 35 :: 120 :: (numL 16 n ++ 59 :: t)) = match charS (numS 16 (numL 16 n)) with | none => .no 5 i | some v => .ok v (i + (1 + (35 :: 120 :: numL 16 n).length + 1)) t := by
  unfold refS
  rw [show (38 :: 35 :: 120 :: (numL 16 n ++ 59 :: t)).drop 1 = (35 :: 120 :: numL 16 n) ++ 59 :: t from rfl, cutS_at 59 t (35 :: 120 :: numL 16 n) (fun x hx => by
    rcases List.mem_cons.1 hx with h | h
    · rw [h]; decide
    · rcases List.mem_cons.1 h with h | h
      · rw [h]; decide
      · exact (numL_mem (base := 16) (by decide) (by decide) n x h).2.2.1)]
  dsimp only
  rw [told_hex]
  cases charS (numS 16 (numL 16 n)) <;> rfl
theorem charS_num {base : Nat} (h2 : 2 ≤ base) (h16 : base ≤ 16) {n : Int} (hn : -2147483648 ≤ n ∧ n < 2147483648) : charS (numS base (numL base n)) = if inTab charsT n = true then some n.toNat else none := by
  rw [numL_num h2 h16]
  by_cases h0 : 0 ≤ n
  · rw [if_pos ⟨h0, hn.2⟩]
    show (if inTab charsT ((n.toNat : Nat) : Int) = true then some n.toNat else none) = _
    rw [Int.toNat_of_nonneg h0]
  · rw [if_neg (by omega), if_neg]
    · rfl
    · intro h
      simp only [inTab, charsT, List.any_cons, List.any_nil, inPair, Bool.or_false, Bool.or_eq_true, Bool.and_eq_true, decide_eq_true_eq] at h
      omega
theorem run_none {x : UInt8} (hx : endS none x = true) (r : List UInt8) : runS none (x :: r) = [] ∧ restS none (x :: r) = x :: r := by
  unfold runS restS
  rw [List.takeWhile_cons, List.dropWhile_cons]
  simp [hx]
theorem mix_ref (g i : Nat) (r : List UInt8) : mixG none (g + 1) i (38 :: r) = (refS i (38 :: r)).then fun n j t2 => (mixG none g j t2).then fun u k t3 => .ok (encB n ++ u) k t3 := by
  obtain ⟨h1, h2⟩ := run_none (x := 38) (by decide) r
  rw [mixG, h1, h2]
  have ht : turnS none i [] = .ok [] := rfl
  rw [ht]
  dsimp only
  rw [if_pos (by rfl), List.length_nil, Nat.add_zero]
  rfl
theorem mix_end (g i : Nat) (r : List UInt8) : mixG none (g + 1) i (60 :: r) = .ok [] i (60 :: r) := by
  obtain ⟨h1, h2⟩ := run_none (x := 60) (by decide) r
  rw [mixG, h1, h2]
  have ht : turnS none i [] = .ok [] := rfl
  rw [ht]
  dsimp only
  rw [if_neg (by
    intro h
    have h3 : ((38 : UInt8) == 60 && true) = true := h
    cases h3)]
  rfl
theorem tab62 : inTab charsT (((62 : UInt8).toNat : Nat) : Int) = true := by kernel_rfl
theorem start_tok (r : List UInt8) (h : 6 ≤ r.length) : tokS 0 (60 :: 97 :: 62 :: r) = .ok ⟨1, 0, [97], [], []⟩ 3 r := by
  have hl : (60 :: 97 :: 62 :: r).length = r.length + 3 := by simp only [List.length_cons]
  unfold tokS lenS
  rw [if_neg (by
    intro h2
    have : [60].isPrefixOf (60 :: 97 :: 62 :: r) = true := rfl
    rw [this] at h2
    cases h2)]
  rw [opens_miss [60, 33, 45, 45] 0 _ (by rw [hl]; show 4 ≤ _; omega) rfl, Sx.then_ok, if_neg (by decide)]
  rw [opens_miss [60, 33, 91, 67, 68, 65, 84, 65, 91] 0 _ (by rw [hl]; show 9 ≤ _; omega) rfl, Sx.then_ok, if_neg (by decide)]
  rw [opens_miss [60, 33] 0 _ (by rw [hl]; show 2 ≤ _; omega) rfl, Sx.then_ok, if_neg (by decide)]
  rw [opens_miss [60, 63] 0 _ (by rw [hl]; show 2 ≤ _; omega) rfl, Sx.then_ok, if_neg (by decide)]
  rw [opens_miss [60, 47] 0 _ (by rw [hl]; show 2 ≤ _; omega) rfl, Sx.then_ok, if_neg (by decide)]
  have ho : opensS [60] 0 (60 :: 97 :: 62 :: r) = .ok true 1 (97 :: 62 :: r) := by
    unfold opensS
    rw [if_neg (by rw [hl]; show ¬ (_ < 1 ∧ _); omega), if_pos (show [60].isPrefixOf (60 :: 97 :: 62 :: r) = true from rfl)]
    rfl
  rw [ho, Sx.then_ok, if_pos rfl]
  dsimp only
  unfold startS
  rw [name_one 97 62 _ 1 (by decide) tab97 (by kernel_rfl) (by decide) tab62 (by kernel_rfl), Sx.then_ok, tagG, blanks_none _ 62 _ (by decide), Sx.then_ok, peekS, Sx.then_ok, if_neg (by decide), if_pos rfl, mustS, if_pos rfl, Sx.then_ok, Sx.then_ok, Sx.then_ok]
set_option maxRecDepth 100000 in
theorem end_tok (i : Nat) : tokS i [60, 47, 97, 62] = .ok ⟨3, i, [97], [], []⟩ (i + 4) [] := by
  unfold tokS lenS
  rw [if_neg (by decide), opens_miss [60, 33, 45, 45] i _ (by decide) rfl, Sx.then_ok, if_neg (by decide)]
  have hs : opensS [60, 33, 91, 67, 68, 65, 84, 65, 91] i [60, 47, 97, 62] = .ok false i [60, 47, 97, 62] := by
    unfold opensS
    rw [if_neg (by decide), if_neg (by decide)]
  rw [hs, Sx.then_ok, if_neg (by decide), opens_miss [60, 33] i _ (by decide) rfl, Sx.then_ok, if_neg (by decide), opens_miss [60, 63] i _ (by decide) rfl, Sx.then_ok, if_neg (by decide)]
  have ho : opensS [60, 47] i [60, 47, 97, 62] = .ok true (i + 2) [97, 62] := by
    unfold opensS
    rw [if_neg (by decide), if_pos (by decide)]
    rfl
  rw [ho, Sx.then_ok, if_pos rfl]
  dsimp only
  unfold endTagS
  rw [name_one 97 62 _ (i + 2) (by decide) tab97 (by kernel_rfl) (by decide) tab62 (by kernel_rfl), Sx.then_ok, blanks_none _ 62 _ (by decide), Sx.then_ok, mustS, if_pos rfl, Sx.then_ok, Sx.then_ok]
theorem toks_nilp (g i : Nat) : toksG g i [] = .ok [] i [] := by
  cases g with
  | zero => rfl
  | succ g => rw [toksG, if_pos rfl]
theorem declS_not (b : List UInt8) (h : [60, 63].isPrefixOf b = false) : declS b = .ok () 0 b := by
  unfold declS
  refine if_neg fun h2 => ?_
  have h3 : [60, 63] <+: b := List.IsPrefix.trans ⟨[120, 109, 108], rfl⟩ (List.isPrefixOf_iff_prefix.1 h2.1)
  rw [List.isPrefixOf_iff_prefix.2 h3] at h
  cases h
/-- A rune told by references of both bases. -/
theorem plain_rune {n : Int} (hn : -2147483648 ≤ n ∧ n < 2147483648) : if inTab charsT n = true then ∃ x y j, allS (pdoc n) = .ok [x, ⟨4, 3, [], encB n.toNat ++ encB n.toNat, []⟩, y] j [] else allS (pdoc n) = .no 5 3 := by
  have hl := pdoc_len (n := n) (by omega)
  have hb : badZ (fs (pdoc n)) (pdoc n).length = -1 := bad_of_ok (pdoc_ok n)
  have ha : allS (pdoc n) = toksG ((pdoc n).length + 1) 0 (pdoc n) := by
    unfold allS
    rw [if_neg (by omega), hb, if_neg (by decide), declS_not _ (by rw [pdoc_eq]; rfl), Sx.then_ok]
  obtain ⟨r1, hr1⟩ : ∃ r1, (38 :: 35 :: (numL 10 n ++ 59 :: 38 :: 35 :: 120 :: (numL 16 n ++ [59, 60, 47, 97, 62])) : List UInt8) = r1 := ⟨_, rfl⟩
  have hr2 : pdoc n = 60 :: 97 :: 62 :: r1 := by rw [← hr1, pdoc_eq]
  have hlr : 6 ≤ r1.length := by rw [← hr1]; simp only [List.length_cons, List.length_append, List.length_nil]; omega
  obtain ⟨g, hg⟩ : ∃ g, (pdoc n).length = g + 1 + 1 := ⟨(pdoc n).length - 2, by rw [hr2]; simp only [List.length_cons]; omega⟩
  have hd := charS_num (base := 10) (by decide) (by decide) hn
  have hx := charS_num (base := 16) (by decide) (by decide) hn
  rw [ha, hg, hr2, toksG, if_neg (List.cons_ne_nil _ _), start_tok r1 hlr, Sx.then_ok]
  obtain ⟨m, hm⟩ : ∃ m, r1.length + 1 = m + 1 + 1 + 1 := ⟨r1.length - 2, by omega⟩
  have htok : tokS 3 r1 = (mixG none (m + 1 + 1 + 1) 3 r1).then fun u j t => .ok ⟨4, 3, [], u, []⟩ j t := by
    unfold tokS mixS
    rw [if_pos (by rw [← hr1]; rfl), hm]
  have hmix : mixG none (m + 1 + 1 + 1) 3 r1 = if inTab charsT n = true then .ok (encB n.toNat ++ encB n.toNat) (3 + (1 + (35 :: numL 10 n).length + 1) + (1 + (35 :: 120 :: numL 16 n).length + 1)) [60, 47, 97, 62] else .no 5 3 := by
    rw [← hr1, mix_ref, ref_dec, hd]
    by_cases hc : inTab charsT n = true
    · rw [if_pos hc, if_pos hc]
      dsimp only
      rw [Sx.then_ok, mix_ref, ref_hex, hx, if_pos hc]
      dsimp only
      rw [Sx.then_ok, mix_end, Sx.then_ok, Sx.then_ok, List.append_nil]
    · rw [if_neg hc, if_neg hc]
      rfl
  have hne : r1 ≠ [] := by rw [← hr1]; exact List.cons_ne_nil _ _
  by_cases hc : inTab charsT n = true
  · rw [if_pos hc]
    rw [if_pos hc] at hmix
    rw [toksG, if_neg hne, htok, hmix, Sx.then_ok, Sx.then_ok]
    cases g with
    | zero =>
      exfalso
      rw [hr2] at hg
      simp only [List.length_cons] at hg
      omega
    | succ g =>
      rw [toksG, if_neg (List.cons_ne_nil _ _), end_tok, Sx.then_ok, toks_nilp, Sx.then_ok, Sx.then_ok, Sx.then_ok]
      exact ⟨_, _, _, rfl⟩
  · rw [if_neg hc]
    rw [if_neg hc] at hmix
    rw [toksG, if_neg hne, htok, hmix]
    rfl
/-- Characters alone. -/
theorem plain_chars {s : List UInt8} (hs : s.length ≤ 4096) (h : ∀ x ∈ s, x ≠ 60 ∧ x ≠ 38 ∧ x ≠ 93) : allS s = if 0 ≤ badL s then .no 1 (badL s).toNat else if s = [] then .ok [] 0 [] else .ok [⟨4, 0, [], eols s, []⟩] s.length [] := by
  unfold allS
  rw [if_neg (by omega)]
  show (if 0 ≤ badL s then _ else _) = _
  by_cases hb : 0 ≤ badL s
  · rw [if_pos hb, if_pos hb]; rfl
  · rw [if_neg hb, if_neg hb]
    have hd : declS s = .ok () 0 s := declS_not s (by
      cases s with
      | nil => rfl
      | cons x t =>
        show ((60 : UInt8) == x && _) = false
        rw [beq_eq_false_iff_ne.2 (fun e => (h x (List.mem_cons_self ..)).1 e.symm)]
        rfl)
    rw [hd, Sx.then_ok]
    cases s with
    | nil => rw [if_pos rfl]; rfl
    | cons x t =>
      rw [if_neg (List.cons_ne_nil _ _), toksG, if_neg (List.cons_ne_nil _ _)]
      have hrun : runS none (x :: t) = x :: t ∧ restS none (x :: t) = [] := by
        have hall : ∀ l : List UInt8, (∀ x ∈ l, x ≠ 60 ∧ x ≠ 38 ∧ x ≠ 93) → runS none l = l ∧ restS none l = [] := by
          intro l
          induction l with
          | nil => intro _; exact ⟨rfl, rfl⟩
          | cons y l ih =>
            intro hl
            have hy := hl y (List.mem_cons_self ..)
            have he : endS none y = false := by
              unfold endS
              rw [beq_eq_false_iff_ne.2 hy.1, beq_eq_false_iff_ne.2 hy.2.1]
              rfl
            obtain ⟨h1, h2⟩ := ih fun z hz => hl z (List.mem_cons_of_mem _ hz)
            unfold runS at h1
            unfold restS at h2
            unfold runS restS
            rw [List.takeWhile_cons, List.dropWhile_cons]
            simp only [he, Bool.not_false, if_true]
            exact ⟨by rw [h1], h2⟩
        exact hall _ h
      have hat : ∀ l : List UInt8, (∀ x ∈ l, x ≠ 60 ∧ x ≠ 38 ∧ x ≠ 93) → cutS [93, 93, 62] l = none := by
        intro l
        induction l with
        | nil => intro _; rfl
        | cons y l ih =>
          intro hl
          rw [cutS, if_neg, ih fun z hz => hl z (List.mem_cons_of_mem _ hz)]
          · rfl
          · intro h2
            have h3 : ((93 : UInt8) == y && _) = true := h2
            rw [Bool.and_eq_true, beq_iff_eq] at h3
            exact (hl y (List.mem_cons_self ..)).2.2 h3.1.symm
      have htok : tokS 0 (x :: t) = .ok ⟨4, 0, [], eols (x :: t), []⟩ (x :: t).length [] := by
        unfold tokS
        rw [if_pos (by
          show ((60 : UInt8) == x && true) = false
          rw [beq_eq_false_iff_ne.2 (fun e => (h x (List.mem_cons_self ..)).1 e.symm)]
          rfl)]
        unfold mixS
        rw [mixG, hrun.1, hrun.2]
        have htn : turnS none 0 (x :: t) = .ok (eols (x :: t)) := by
          unfold turnS atS
          rw [hat _ h]
          rfl
        rw [htn]
        dsimp only
        rw [if_neg (by decide), Sx.then_ok, Nat.zero_add]
      rw [htok, Sx.then_ok, toks_nilp, Sx.then_ok]

end Go.Proofs.YtemohjodihcdfaaGreatDoor
namespace Go.Proofs.YtemohjodihcdfaaGreatDoor
open Go.RowKit Go.Lib Go.Joins

def hexL : List UInt8 := [48, 49, 50, 51, 52, 53, 54, 55, 56, 57, 97, 98, 99, 100, 101, 102]
theorem hex_at : ∀ d : Fin 16, hexL[d.val]? = some (digC d.val) := by decide
theorem hex_cut (d : Nat) (h : d < 16) : (⟨#[48, 49, 50, 51, 52, 53, 54, 55, 56, 57, 97, 98, 99, 100, 101, 102]⟩ : ByteArray).extract d (d + 1) = strB [digC d] :=
  strB_one hexL d (digC d) (hex_at ⟨d, h⟩)
set_option maxRecDepth 100000 in
set_option maxHeartbeats 4000000 in
theorem number_calls (base : Nat) (hb : base = 10 ∨ base = 16) (n : Int) (hn : -2147483648 ≤ n ∧ n < 2147483648) (w : World) : Calls Tryz.prog 16 #[.int .i64 n, .int .i64 (base : Int)] w (Leaves (.string (strB (numL base n))) w) := by
  have hb2 : 2 ≤ base := by omega
  have hb16 : base ≤ 16 := by omega
  have hbz : ((base : Int) == 0) = false := by rw [beq_eq_false_iff_ne]; omega
  obtain ⟨R, hR⟩ : ∃ R, numL base n = R := ⟨_, rfl⟩
  rw [hR]
  have HR := Lib.hid hR
  clear hR
  by_cases h0 : n = 0
  · have h0b : (n == 0) = true := by rw [h0]; rfl
    have HF : Hid (strB R = ⟨#[48]⟩) := Lib.hid (by rw [← HR.out, h0]; rfl)
    rw [HF.out]
    clear hb
    go_enter Tryz.func16, Tryz.ntmps16
    go_wp2_with fail
    go_ret
    exact ⟨rfl, Below.refl _ _⟩
  have h0b : (n == 0) = false := by rw [beq_eq_false_iff_ne]; exact h0
  obtain ⟨m, hm⟩ : ∃ m : Nat, n.natAbs = m := ⟨_, rfl⟩
  have hml : m ≤ 2147483648 := by omega
  have hm0 : 0 < m := by omega
  by_cases hneg : n < 0
  · have hnw : IntKind.i64.wrap (-n) = (m : Int) := by rw [IntWalk.i64_in _ (by omega)]; omega
    have hnd : decide (n < 0) = true := decide_eq_true hneg
    have HR2 : Hid (R = 45 :: numG base m m []) := Lib.hid (by rw [← HR.out]; unfold numL; rw [if_neg h0, if_pos hneg, hm])
    clear HR hb hm hn h0
    go_enter Tryz.func16, Tryz.ntmps16
    go_wp2_with fail
    clear hnw h0b
    go_loopg [5, 6] m (fun g s5 s6 wr => ∃ (v : Nat) (acc : List UInt8), s5 = .string (strB acc) ∧ s6 = .int .i64 (v : Int) ∧ v ≤ g ∧ acc.length + v ≤ m ∧ R = 45 :: numG base g v acc ∧ Below w.heap.size w wr)
    case atStart => exact ⟨m, [], rfl, rfl, Nat.le_refl _, by simp, HR2.out, Below.refl _ _⟩
    case round =>
      obtain ⟨v, acc, rfl, rfl, hvg, hal, hq, hb⟩ := hrel
      have HQ := Lib.hid hq
      have HB := Lib.hid hb
      have has : (strB acc).size = acc.length := rfl
      obtain ⟨sa, hsa⟩ : ∃ z, strB acc = z := ⟨_, rfl⟩
      rw [hsa] at has ⊢
      have HSA := Lib.hid hsa
      clear hq hsa HR2 hb
      by_cases hv : v = 0
      · have hvd2 : decide ((0 : Int) < (v : Int)) = false := by simp; omega
        have HF : Hid ((⟨#[45]⟩ : ByteArray) ++ sa = strB R) := Lib.hid (by rw [HQ.out, hv, numG_zero, ← HSA.out]; exact strB_app [45] acc)
        have hcat : ¬ (9223372036854775807 < 1 + sa.size) := by omega
        clear HQ HSA
        go_wp2_with fail
        rw [HF.out]
        go_ret
        exact ⟨rfl, HB.out⟩
      · have hvd2 : decide ((0 : Int) < (v : Int)) = true := by simp; omega
        obtain ⟨g', rfl⟩ : ∃ g', gk = g' + 1 := ⟨gk - 1, by omega⟩
        obtain ⟨d, hd⟩ : ∃ d, v % base = d := ⟨_, rfl⟩
        obtain ⟨u, hu⟩ : ∃ u, v / base = u := ⟨_, rfl⟩
        have hd16 : d < 16 := by have := Nat.mod_lt v (show 0 < base by omega); omega
        have hut : u < v := by rw [← hu]; exact Nat.div_lt_self (by omega) (by omega)
        have hrem : (v : Int).tmod (base : Int) = (d : Int) := by rw [← hd]; rfl
        have hquo : (v : Int).tdiv (base : Int) = (u : Int) := by rw [← hu]; rfl
        have hwd : IntKind.i64.wrap (d : Int) = (d : Int) := IntWalk.i64_in _ (by omega)
        have hwd1 : IntKind.i64.wrap ((d : Int) + 1) = (d : Int) + 1 := IntWalk.i64_in _ (by omega)
        have hwu : IntKind.i64.wrap (u : Int) = (u : Int) := IntWalk.i64_in _ (by omega)
        have hsl : ∀ W, (Instr.slice 9 (.string ⟨#[48, 49, 50, 51, 52, 53, 54, 55, 56, 57, 97, 98, 99, 100, 101, 102]⟩) (some (.int .i64 (d : Int))) (some (.int .i64 ((d : Int) + 1))) none).run Tryz.prog W = .ok (.string (strB [digC d])) W := fun W => by
          rw [run_slice_string (P := Tryz.prog) W 9 _ .i64 .i64 (d : Int) ((d : Int) + 1) Tryz.underlying9 (by omega) (by omega) (by show (d : Int) + 1 ≤ 16; omega), show ((d : Int) + 1).toNat = d + 1 by omega, Int.toNat_natCast, hex_cut d hd16]
        have hds : (strB [digC d]).size = 1 := rfl
        have HF : Hid (strB [digC d] ++ sa = strB (digC d :: acc)) := Lib.hid (by rw [← HSA.out]; exact strB_app [digC d] acc)
        have HQ2 : Hid (R = 45 :: numG base g' u (digC d :: acc)) := Lib.hid (by rw [HQ.out, numG, if_neg hv, hd, hu])
        obtain ⟨sd, hsd⟩ : ∃ z, strB [digC d] = z := ⟨_, rfl⟩
        rw [hsd] at hsl hds HF
        have hcat : ¬ (9223372036854775807 < sd.size + sa.size) := by omega
        clear hd hu HQ HSA hsd hd16
        go_wp2_with fail
        go_quiet (fail)
        go_wp2_with fail
        rw [HF.out]
        go_roundg g'
        case measure => omega
        case rel => exact ⟨u, digC d :: acc, rfl, rfl, by omega, by rw [List.length_cons]; omega, HQ2.out, below_drewNv HB.out _⟩
  · obtain rfl : n = (m : Int) := by omega
    have hnd : decide ((m : Int) < 0) = false := decide_eq_false hneg
    have HR2 : Hid (R = numG base m m []) := Lib.hid (by rw [← HR.out]; unfold numL; rw [if_neg h0, if_neg hneg, hm])
    clear HR hb hm hn h0
    go_enter Tryz.func16, Tryz.ntmps16
    go_wp2_with fail
    clear h0b
    go_loopg [5, 6] m (fun g s5 s6 wr => ∃ (v : Nat) (acc : List UInt8), s5 = .string (strB acc) ∧ s6 = .int .i64 (v : Int) ∧ v ≤ g ∧ acc.length + v ≤ m ∧ R = numG base g v acc ∧ Below w.heap.size w wr)
    case atStart => exact ⟨m, [], rfl, rfl, Nat.le_refl _, by simp, HR2.out, Below.refl _ _⟩
    case round =>
      obtain ⟨v, acc, rfl, rfl, hvg, hal, hq, hb⟩ := hrel
      have HQ := Lib.hid hq
      have HB := Lib.hid hb
      have has : (strB acc).size = acc.length := rfl
      obtain ⟨sa, hsa⟩ : ∃ z, strB acc = z := ⟨_, rfl⟩
      rw [hsa] at has ⊢
      have HSA := Lib.hid hsa
      clear hq hsa HR2 hb
      by_cases hv : v = 0
      · have hvd2 : decide ((0 : Int) < (v : Int)) = false := by simp; omega
        have HF : Hid (sa = strB R) := Lib.hid (by rw [HQ.out, hv, numG_zero, HSA.out])
        clear HQ HSA
        go_wp2_with fail
        rw [HF.out]
        go_ret
        exact ⟨rfl, HB.out⟩
      · have hvd2 : decide ((0 : Int) < (v : Int)) = true := by simp; omega
        obtain ⟨g', rfl⟩ : ∃ g', gk = g' + 1 := ⟨gk - 1, by omega⟩
        obtain ⟨d, hd⟩ : ∃ d, v % base = d := ⟨_, rfl⟩
        obtain ⟨u, hu⟩ : ∃ u, v / base = u := ⟨_, rfl⟩
        have hd16 : d < 16 := by have := Nat.mod_lt v (show 0 < base by omega); omega
        have hut : u < v := by rw [← hu]; exact Nat.div_lt_self (by omega) (by omega)
        have hrem : (v : Int).tmod (base : Int) = (d : Int) := by rw [← hd]; rfl
        have hquo : (v : Int).tdiv (base : Int) = (u : Int) := by rw [← hu]; rfl
        have hwd : IntKind.i64.wrap (d : Int) = (d : Int) := IntWalk.i64_in _ (by omega)
        have hwd1 : IntKind.i64.wrap ((d : Int) + 1) = (d : Int) + 1 := IntWalk.i64_in _ (by omega)
        have hwu : IntKind.i64.wrap (u : Int) = (u : Int) := IntWalk.i64_in _ (by omega)
        have hsl : ∀ W, (Instr.slice 9 (.string ⟨#[48, 49, 50, 51, 52, 53, 54, 55, 56, 57, 97, 98, 99, 100, 101, 102]⟩) (some (.int .i64 (d : Int))) (some (.int .i64 ((d : Int) + 1))) none).run Tryz.prog W = .ok (.string (strB [digC d])) W := fun W => by
          rw [run_slice_string (P := Tryz.prog) W 9 _ .i64 .i64 (d : Int) ((d : Int) + 1) Tryz.underlying9 (by omega) (by omega) (by show (d : Int) + 1 ≤ 16; omega), show ((d : Int) + 1).toNat = d + 1 by omega, Int.toNat_natCast, hex_cut d hd16]
        have hds : (strB [digC d]).size = 1 := rfl
        have HF : Hid (strB [digC d] ++ sa = strB (digC d :: acc)) := Lib.hid (by rw [← HSA.out]; exact strB_app [digC d] acc)
        have HQ2 : Hid (R = numG base g' u (digC d :: acc)) := Lib.hid (by rw [HQ.out, numG, if_neg hv, hd, hu])
        obtain ⟨sd, hsd⟩ : ∃ z, strB [digC d] = z := ⟨_, rfl⟩
        rw [hsd] at hsl hds HF
        have hcat : ¬ (9223372036854775807 < sd.size + sa.size) := by omega
        clear hd hu HQ HSA hsd hd16
        go_wp2_with fail
        go_quiet (fail)
        go_wp2_with fail
        rw [HF.out]
        go_roundg g'
        case measure => omega
        case rel => exact ⟨u, digC d :: acc, rfl, rfl, by omega, by rw [List.length_cons]; omega, HQ2.out, below_drewNv HB.out _⟩

end Go.Proofs.YtemohjodihcdfaaGreatDoor
