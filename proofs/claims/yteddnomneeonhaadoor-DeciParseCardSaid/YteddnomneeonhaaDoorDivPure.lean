/-
  Plain numbers: a number of two words divided by one of one word, digit by digit, as in the school: the quotient's two digits, and that each loop's guess falls to its digit. No program, no condition.
-/
import Derived.Lib.ItoaNum
namespace Go.Proofs.YteddnomneeonhaaDoor

/-- The cut of a two-word number by one word, digit by digit: what holds at a digit's loop. -/
theorem dig_split (q r u n h l : Nat) (hq : q * h + r = u) : q * (h * 4294967296 + l) + (4294967296 * r + n) = u * 4294967296 + n + q * l := by
  subst hq
  rw [Nat.mul_add, Nat.add_mul, ← Nat.mul_assoc]
  omega

theorem dig_big {q r u n h l : Nat} (hq : q * h + r = u) (hc : 4294967296 * r + n < q * l) : (u * 4294967296 + n) / (h * 4294967296 + l) < q := by
  have := dig_split q r u n h l hq
  have hy : 0 < h * 4294967296 + l := by
    rcases Nat.eq_zero_or_pos (h * 4294967296 + l) with h0 | h0
    · have : l = 0 := by omega
      subst this; simp at hc
    · exact h0
  rw [Nat.div_lt_iff_lt_mul hy]
  omega

theorem dig_small {q r u n h l : Nat} (hq : q * h + r = u) (hc : q * l ≤ 4294967296 * r + n) (hy : 0 < h * 4294967296 + l) : q ≤ (u * 4294967296 + n) / (h * 4294967296 + l) := by
  have := dig_split q r u n h l hq
  rw [Nat.le_div_iff_mul_le hy]
  omega

theorem dig_top {u n h l : Nat} (hu : u < h * 4294967296 + l) (hn : n < 4294967296) : (u * 4294967296 + n) / (h * 4294967296 + l) < 4294967296 := by
  rw [Nat.div_lt_iff_lt_mul (by omega)]
  omega

/-- The first guess is at most two too great. -/
theorem dig_guess {u h l : Nat} (hu : u < h * 4294967296 + l) (hl : l < 4294967296) (hh : 2147483648 ≤ h) : u / h ≤ 4294967297 := by
  have : u / h < 4294967298 := by
    rw [Nat.div_lt_iff_lt_mul (by omega)]
    omega
  omega

theorem dig_first {u n h l : Nat} (hh : 0 < h) : (u * 4294967296 + n) / (h * 4294967296 + l) ≤ u / h ∨ 4294967296 ≤ n := by
  rcases Nat.lt_or_ge n 4294967296 with hn | hn
  · left
    rw [Nat.le_div_iff_mul_le hh]
    have h1 := Nat.div_mul_le_self (u * 4294967296 + n) (h * 4294967296 + l)
    generalize (u * 4294967296 + n) / (h * 4294967296 + l) = q at *
    rw [Nat.mul_add, ← Nat.mul_assoc] at h1
    omega
  · exact Or.inr hn

/-- Behind the break. -/
theorem dig_break {q r u n h l : Nat} (hq : q * h + r = u) (hr : 4294967296 ≤ r) (hl : l < 4294967296) (hqt : q ≤ 4294967296) (hy : 0 < h * 4294967296 + l) : q ≤ (u * 4294967296 + n) / (h * 4294967296 + l) := by
  refine dig_small hq ?_ hy
  have h1 : q * l ≤ 4294967296 * 4294967295 := Nat.mul_le_mul hqt (by omega)
  omega

/-- A round of a digit's loop: it goes on, or leaves by the break with the digit, or by the test with the digit. -/
theorem dig_round {q r u n h l T : Nat} (hT : (u * 4294967296 + n) / (h * 4294967296 + l) = T) (hu : u < h * 4294967296 + l) (hn : n < 4294967296) (hl : l < 4294967296) (_hh : 0 < h)
    (hq : q * h + r = u) (hTq : T ≤ q) (hqt : q ≤ 4294967297) :
    (T < q ∧ 4294967296 ≤ q ∧ r + h < 4294967296) ∨ (T < q ∧ q < 4294967296 ∧ 4294967296 * r + n < q * l ∧ r + h < 4294967296) ∨
    (q = T + 1 ∧ 4294967296 ≤ q ∧ 4294967296 ≤ r + h) ∨ (q = T + 1 ∧ q < 4294967296 ∧ 4294967296 * r + n < q * l ∧ 4294967296 ≤ r + h) ∨
    (q = T ∧ q < 4294967296 ∧ q * l ≤ 4294967296 * r + n) := by
  have hy : 0 < h * 4294967296 + l := by omega
  have htop := dig_top hu hn
  rw [hT] at htop
  by_cases hc : 4294967296 ≤ q ∨ 4294967296 * r + n < q * l
  · have hlt : T < q := by
      rcases hc with hc | hc
      · omega
      · have := dig_big hq hc
        rwa [hT] at this
    have hstep : (q - 1) * h + (r + h) = u := by
      obtain ⟨p, rfl⟩ : ∃ p, q = p + 1 := ⟨q - 1, by omega⟩
      rw [Nat.add_mul, Nat.one_mul] at hq
      show p * h + (r + h) = u
      omega
    by_cases hr : r + h < 4294967296
    · rcases Nat.lt_or_ge q 4294967296 with h1 | h1
      · rcases hc with hc | hc
        · omega
        · exact Or.inr (Or.inl ⟨hlt, h1, hc, hr⟩)
      · exact Or.inl ⟨hlt, h1, hr⟩
    · have hle := dig_break (n := n) (l := l) hstep (by omega) hl (by omega) hy
      rw [hT] at hle
      rcases Nat.lt_or_ge q 4294967296 with h1 | h1
      · rcases hc with hc | hc
        · omega
        · exact Or.inr (Or.inr (Or.inr (Or.inl ⟨by omega, h1, hc, by omega⟩)))
      · exact Or.inr (Or.inr (Or.inl ⟨by omega, h1, by omega⟩))
  · have h1 : q < 4294967296 := by omega
    have h2 : q * l ≤ 4294967296 * r + n := by omega
    have := dig_small hq h2 hy
    rw [hT] at this
    exact Or.inr (Or.inr (Or.inr (Or.inr ⟨by omega, h1, h2⟩)))

theorem two_digits (x y n0 : Nat) (hy : 0 < y) : (x * 4294967296 + n0) / y = x / y * 4294967296 + (x % y * 4294967296 + n0) / y := by
  have h := Nat.div_add_mod x y
  have e : x * 4294967296 + n0 = (x % y * 4294967296 + n0) + y * (x / y * 4294967296) := by
    rw [← Nat.mul_assoc]
    generalize y * (x / y) = z at *
    omega
  rw [e, Nat.add_mul_div_left _ _ hy]
  omega

/-- The same over whole numbers. -/
theorem dig_roundI {q r u n h l T : Int} (hT : (u * 4294967296 + n) / (h * 4294967296 + l) = T) (hu : u < h * 4294967296 + l) (hn0 : 0 ≤ n) (hn : n < 4294967296) (hl0 : 0 ≤ l) (hl : l < 4294967296) (hh : 0 < h)
    (hq : q * h + r = u) (hr0 : 0 ≤ r) (hT0 : 0 ≤ T) (hTq : T ≤ q) (hqt : q ≤ 4294967297) :
    (T < q ∧ 4294967296 ≤ q ∧ r + h < 4294967296) ∨ (T < q ∧ q < 4294967296 ∧ 4294967296 * r + n < q * l ∧ r + h < 4294967296) ∨
    (q = T + 1 ∧ 4294967296 ≤ q ∧ 4294967296 ≤ r + h) ∨ (q = T + 1 ∧ q < 4294967296 ∧ 4294967296 * r + n < q * l ∧ 4294967296 ≤ r + h) ∨
    (q = T ∧ q < 4294967296 ∧ q * l ≤ 4294967296 * r + n) := by
  obtain ⟨q', rfl⟩ := Int.eq_ofNat_of_zero_le (show 0 ≤ q by omega)
  obtain ⟨r', rfl⟩ := Int.eq_ofNat_of_zero_le hr0
  obtain ⟨n', rfl⟩ := Int.eq_ofNat_of_zero_le hn0
  obtain ⟨h', rfl⟩ := Int.eq_ofNat_of_zero_le (show 0 ≤ h by omega)
  obtain ⟨l', rfl⟩ := Int.eq_ofNat_of_zero_le hl0
  obtain ⟨T', rfl⟩ := Int.eq_ofNat_of_zero_le hT0
  have hq2 : u = ((q' * h' + r' : Nat) : Int) := by rw [← hq, Int.natCast_add, Int.natCast_mul]
  subst hq2
  have e1 : ((q' : Int) * l') = ((q' * l' : Nat) : Int) := (Int.natCast_mul _ _).symm
  have hT2 : ((q' * h' + r') * 4294967296 + n') / (h' * 4294967296 + l') = T' := by
    have : ((((q' * h' + r') * 4294967296 + n') / (h' * 4294967296 + l') : Nat) : Int) = (T' : Int) := by
      rw [← hT]
      simp [Int.natCast_ediv]
    omega
  have := dig_round hT2 (by omega) (by omega) (by omega) (by omega) rfl (by omega) (by omega)
  rw [e1]
  omega

theorem norm_bits {y : Nat} (h0 : 0 < y) (h1 : y < 9223372036854775808) :
    ∃ s : Nat, (64 - (Lib.bitLen y : Int)) = (s : Int) ∧ 1 ≤ s ∧ s ≤ 63 ∧ 9223372036854775808 ≤ y * 2 ^ s ∧ y * 2 ^ s < 18446744073709551616 := by
  have hb := Lib.bitLenAux_bounds 64 y (by omega) (by omega)
  have e : Lib.bitLen y = Lib.bitLenAux 64 y := rfl
  rw [← e] at hb
  obtain ⟨hb1, hb2, hb3⟩ := hb
  have hl : Lib.bitLen y ≤ 63 := by
    rcases Nat.lt_or_ge 63 (Lib.bitLen y) with h | h
    · have : 2 ^ 63 ≤ 2 ^ (Lib.bitLen y - 1) := Nat.pow_le_pow_right (by decide) (by omega)
      omega
    · exact h
  refine ⟨64 - Lib.bitLen y, by omega, by omega, by omega, ?_, ?_⟩
  · have h2 : 2 ^ (Lib.bitLen y - 1) * 2 ^ (64 - Lib.bitLen y) ≤ y * 2 ^ (64 - Lib.bitLen y) := Nat.mul_le_mul_right _ hb2
    rw [← Nat.pow_add, show Lib.bitLen y - 1 + (64 - Lib.bitLen y) = 63 by omega] at h2
    omega
  · have h2 : y * 2 ^ (64 - Lib.bitLen y) < 2 ^ Lib.bitLen y * 2 ^ (64 - Lib.bitLen y) := Nat.mul_lt_mul_of_pos_right hb3 (Nat.pow_pos (by decide))
    rw [← Nat.pow_add, show Lib.bitLen y + (64 - Lib.bitLen y) = 64 by omega] at h2
    omega

end Go.Proofs.YteddnomneeonhaaDoor
