/-
  The reference's Next and the program's are one function of the bytes: what decodes is what its own bytes stand for. Condition: each is a byte.
-/
import Derived.Test.YtkpgbcackphdbaaDoorRefNext
import Derived.Test.YtkpgbcackphdbaaDoorNext
namespace Go.Proofs.YtkpgbcackphdbaaDoor
set_option linter.unusedVariables false
open Go.RowKit Go.Lib

theorem chars_nat (m : Nat) : (inTab charsT (m : Int) = true) ↔ (m = 9 ∨ m = 10 ∨ m = 13 ∨ (32 ≤ m ∧ m ≤ 55295) ∨ (57344 ≤ m ∧ m ≤ 65533) ∨ (65536 ≤ m ∧ m ≤ 1114111)) := by
  simp only [inTab, charsT, List.any_cons, List.any_nil, inPair, Bool.or_false, Bool.or_eq_true, Bool.and_eq_true, decide_eq_true_eq]
  omega

theorem encL_nat (m : Nat) : encL (m : Int) = encN m := by
  unfold encL
  rw [if_neg (by omega), Int.toNat_natCast]

/-- The bytes of n are those of v. -/
theorem enc_is (v n b0 b1 b2 b3 : Nat) (g : Nat → Nat) (hg0 : g 0 = b0) (hg1 : g 1 = b1) (hg2 : g 2 = b2) (hg3 : g 3 = b3) :
    ((encN v).length = n ∧ ∀ i, i < n → nth (encN v) i = g i) ↔
      (n = 0 ∧ (1114111 < v ∨ (55296 ≤ v ∧ v ≤ 57343))) ∨
      (n = 1 ∧ v < 128 ∧ b0 = v) ∨
      (n = 2 ∧ 128 ≤ v ∧ v < 2048 ∧ b0 = 192 + v / 64 ∧ b1 = 128 + v % 64) ∨
      (n = 3 ∧ 2048 ≤ v ∧ v < 65536 ∧ ¬ (55296 ≤ v ∧ v ≤ 57343) ∧ b0 = 224 + v / 4096 ∧ b1 = 128 + v / 64 % 64 ∧ b2 = 128 + v % 64) ∨
      (n = 4 ∧ 65536 ≤ v ∧ v ≤ 1114111 ∧ b0 = 240 + v / 262144 ∧ b1 = 128 + v / 4096 % 64 ∧ b2 = 128 + v / 64 % 64 ∧ b3 = 128 + v % 64) := by
  have all1 : (∀ i, i < 1 → nth (encN v) i = g i) ↔ nth (encN v) 0 = g 0 := ⟨fun h => h 0 (by omega), fun h i hi => by
    rcases (show i = 0 from by omega) with rfl
    exact h⟩
  have all2 : (∀ i, i < 2 → nth (encN v) i = g i) ↔ (nth (encN v) 0 = g 0 ∧ nth (encN v) 1 = g 1) := ⟨fun h => ⟨h 0 (by omega), h 1 (by omega)⟩, fun h i hi => by
    rcases (show i = 0 ∨ i = 1 from by omega) with rfl | rfl
    · exact h.1
    · exact h.2⟩
  have all3 : (∀ i, i < 3 → nth (encN v) i = g i) ↔ (nth (encN v) 0 = g 0 ∧ nth (encN v) 1 = g 1 ∧ nth (encN v) 2 = g 2) := ⟨fun h => ⟨h 0 (by omega), h 1 (by omega), h 2 (by omega)⟩, fun h i hi => by
    rcases (show i = 0 ∨ i = 1 ∨ i = 2 from by omega) with rfl | rfl | rfl
    · exact h.1
    · exact h.2.1
    · exact h.2.2⟩
  have all4 : (∀ i, i < 4 → nth (encN v) i = g i) ↔ (nth (encN v) 0 = g 0 ∧ nth (encN v) 1 = g 1 ∧ nth (encN v) 2 = g 2 ∧ nth (encN v) 3 = g 3) := ⟨fun h => ⟨h 0 (by omega), h 1 (by omega), h 2 (by omega), h 3 (by omega)⟩, fun h i hi => by
    rcases (show i = 0 ∨ i = 1 ∨ i = 2 ∨ i = 3 from by omega) with rfl | rfl | rfl | rfl
    · exact h.1
    · exact h.2.1
    · exact h.2.2.1
    · exact h.2.2.2⟩
  rw [hg0] at all1 all2 all3 all4
  rw [hg1] at all2 all3 all4
  rw [hg2] at all3 all4
  rw [hg3] at all4
  have key : ∀ m, (encN v).length = m → (((encN v).length = n ∧ ∀ i, i < n → nth (encN v) i = g i) ↔ (n = m ∧ ∀ i, i < m → nth (encN v) i = g i)) := fun m hm => by
    rw [hm]
    constructor
    · rintro ⟨rfl, h⟩
      exact ⟨rfl, h⟩
    · rintro ⟨rfl, h⟩
      exact ⟨rfl, h⟩
  by_cases c0 : 1114111 < v ∨ (55296 ≤ v ∧ v ≤ 57343)
  · have he : encN v = [] := by unfold encN; rw [if_pos c0]
    rw [key 0 (by rw [he]; rfl)]
    constructor
    · rintro ⟨h, _⟩
      exact Or.inl ⟨h, c0⟩
    · intro h
      exact ⟨by omega, fun i hi => by omega⟩
  · by_cases c1 : v < 128
    · have he : encN v = [v] := by unfold encN; rw [if_neg c0, if_pos c1]
      rw [key 1 (by rw [he]; rfl), all1, he]
      simp only [nth, List.getD_cons_zero]
      omega
    · by_cases c2 : v < 2048
      · have he : encN v = [192 + v / 64, 128 + v % 64] := by unfold encN; rw [if_neg c0, if_neg c1, if_pos c2]
        rw [key 2 (by rw [he]; rfl), all2, he]
        simp only [nth, List.getD_cons_zero, List.getD_cons_succ]
        omega
      · by_cases c3 : v < 65536
        · have he : encN v = [224 + v / 4096, 128 + v / 64 % 64, 128 + v % 64] := by unfold encN; rw [if_neg c0, if_neg c1, if_neg c2, if_pos c3]
          rw [key 3 (by rw [he]; rfl), all3, he]
          simp only [nth, List.getD_cons_zero, List.getD_cons_succ]
          omega
        · have he : encN v = [240 + v / 262144, 128 + v / 4096 % 64, 128 + v / 64 % 64, 128 + v % 64] := by unfold encN; rw [if_neg c0, if_neg c1, if_neg c2, if_neg c3]
          rw [key 4 (by rw [he]; rfl), all4, he]
          simp only [nth, List.getD_cons_zero, List.getD_cons_succ]
          omega

theorem sameTo_iff (l : List Nat) (f : Nat → Nat) (p : Nat) : ∀ n, sameTo l f p n = true ↔ ∀ i, i < n → nth l i = f (p + i)
  | 0 => by simp [sameTo]
  | n + 1 => by
    rw [sameTo, Bool.and_eq_true, sameTo_iff l f p n, beq_iff_eq]
    constructor
    · rintro ⟨h, h2⟩ i hi
      by_cases hin : i = n
      · rw [hin]; exact h2
      · exact h i (by omega)
    · intro h
      exact ⟨fun i hi => h i (by omega), h n (by omega)⟩

theorem fits_iff (f : Nat → Nat) (p n : Nat) : fits f p n = true ↔ (inTab charsT (vAt f p n n) = true ∧ ((encN (vAt f p n n)).length = n ∧ ∀ i, i < n → nth (encN (vAt f p n n)) i = f (p + i))) := by
  unfold fits
  rw [encL_nat, Bool.and_eq_true, Bool.and_eq_true, beq_iff_eq, sameTo_iff]
  constructor
  · rintro ⟨⟨h1, h2⟩, h3⟩
    exact ⟨h2, h1, h3⟩
  · rintro ⟨h2, h1, h3⟩
    exact ⟨⟨h1, h2⟩, h3⟩

theorem v1 (f : Nat → Nat) (p : Nat) : vAt f p 1 1 = f p % 256 := by simp [vAt, md]
theorem v2 (f : Nat → Nat) (p : Nat) : vAt f p 2 2 = f p % 32 * 64 + f (p + 1) % 64 := by simp [vAt, md]
theorem v3 (f : Nat → Nat) (p : Nat) : vAt f p 3 3 = (f p % 16 * 64 + f (p + 1) % 64) * 64 + f (p + 2) % 64 := by simp [vAt, md]
theorem v4 (f : Nat → Nat) (p : Nat) : vAt f p 4 4 = ((f p % 8 * 64 + f (p + 1) % 64) * 64 + f (p + 2) % 64) * 64 + f (p + 3) % 64 := by simp [vAt, md]

theorem fits_1 (f : Nat → Nat) (p x0 x1 x2 x3 : Nat) (h0 : f p = x0) (h1 : f (p + 1) = x1) (h2 : f (p + 2) = x2) (h3 : f (p + 3) = x3) (l0 : x0 < 256) (l1 : x1 < 256) (l2 : x2 < 256) (l3 : x3 < 256) :
    fits f p 1 = true ↔ (x0 < 128) ∧ inTab charsT ((x0 : Nat) : Int) = true := by
  have hv : vAt f p 1 1 = x0 := by rw [v1, h0]; omega
  rw [fits_iff, hv, enc_is x0 1 x0 x1 x2 x3 (fun i => f (p + i)) h0 h1 h2 h3]
  constructor
  · rintro ⟨hc, h⟩
    exact ⟨by omega, hc⟩
  · rintro ⟨h, hc⟩
    exact ⟨hc, by omega⟩

theorem fits_2 (f : Nat → Nat) (p x0 x1 x2 x3 : Nat) (h0 : f p = x0) (h1 : f (p + 1) = x1) (h2 : f (p + 2) = x2) (h3 : f (p + 3) = x3) (l0 : x0 < 256) (l1 : x1 < 256) (l2 : x2 < 256) (l3 : x3 < 256) :
    fits f p 2 = true ↔ (x0 / 32 = 6 ∧ x1 / 64 = 2 ∧ (x0 % 32 * 64 + x1 % 64) ≥ 128) ∧ inTab charsT (((x0 % 32 * 64 + x1 % 64) : Nat) : Int) = true := by
  have hv : vAt f p 2 2 = (x0 % 32 * 64 + x1 % 64) := by rw [v2, h0, h1]
  rw [fits_iff, hv, enc_is (x0 % 32 * 64 + x1 % 64) 2 x0 x1 x2 x3 (fun i => f (p + i)) h0 h1 h2 h3]
  constructor
  · rintro ⟨hc, h⟩
    exact ⟨by omega, hc⟩
  · rintro ⟨h, hc⟩
    exact ⟨hc, by omega⟩

theorem fits_3 (f : Nat → Nat) (p x0 x1 x2 x3 : Nat) (h0 : f p = x0) (h1 : f (p + 1) = x1) (h2 : f (p + 2) = x2) (h3 : f (p + 3) = x3) (l0 : x0 < 256) (l1 : x1 < 256) (l2 : x2 < 256) (l3 : x3 < 256) :
    fits f p 3 = true ↔ (x0 / 16 = 14 ∧ x1 / 64 = 2 ∧ x2 / 64 = 2 ∧ (x0 % 16 * 4096 + x1 % 64 * 64 + x2 % 64) ≥ 2048 ∧ ¬ (55296 ≤ (x0 % 16 * 4096 + x1 % 64 * 64 + x2 % 64) ∧ (x0 % 16 * 4096 + x1 % 64 * 64 + x2 % 64) ≤ 57343)) ∧ inTab charsT (((x0 % 16 * 4096 + x1 % 64 * 64 + x2 % 64) : Nat) : Int) = true := by
  have hv : vAt f p 3 3 = (x0 % 16 * 4096 + x1 % 64 * 64 + x2 % 64) := by rw [v3, h0, h1, h2]; omega
  rw [fits_iff, hv, enc_is (x0 % 16 * 4096 + x1 % 64 * 64 + x2 % 64) 3 x0 x1 x2 x3 (fun i => f (p + i)) h0 h1 h2 h3]
  obtain ⟨v, hvv⟩ : ∃ v, (x0 % 16 * 4096 + x1 % 64 * 64 + x2 % 64) = v := ⟨_, rfl⟩
  rw [hvv]
  have q0 : v / 4096 = x0 % 16 := by omega
  have q1 : v / 64 % 64 = x1 % 64 := by omega
  have q2 : v % 64 = x2 % 64 := by omega
  clear hvv hv h0 h1 h2 h3
  simp only [q0, q1, q2, Nat.reduceEqDiff, show ((3 : Nat) = 0) = False from by simp, false_and, false_or, or_false, true_and]
  constructor
  · rintro ⟨hc, h⟩
    exact ⟨by omega, hc⟩
  · rintro ⟨h, hc⟩
    exact ⟨hc, by omega⟩

theorem fits_4 (f : Nat → Nat) (p x0 x1 x2 x3 : Nat) (h0 : f p = x0) (h1 : f (p + 1) = x1) (h2 : f (p + 2) = x2) (h3 : f (p + 3) = x3) (l0 : x0 < 256) (l1 : x1 < 256) (l2 : x2 < 256) (l3 : x3 < 256) :
    fits f p 4 = true ↔ (x0 / 8 = 30 ∧ x1 / 64 = 2 ∧ x2 / 64 = 2 ∧ x3 / 64 = 2 ∧ (x0 % 8 * 262144 + x1 % 64 * 4096 + x2 % 64 * 64 + x3 % 64) ≥ 65536 ∧ (x0 % 8 * 262144 + x1 % 64 * 4096 + x2 % 64 * 64 + x3 % 64) ≤ 1114111) ∧ inTab charsT (((x0 % 8 * 262144 + x1 % 64 * 4096 + x2 % 64 * 64 + x3 % 64) : Nat) : Int) = true := by
  have hv : vAt f p 4 4 = (x0 % 8 * 262144 + x1 % 64 * 4096 + x2 % 64 * 64 + x3 % 64) := by rw [v4, h0, h1, h2, h3]; omega
  rw [fits_iff, hv, enc_is (x0 % 8 * 262144 + x1 % 64 * 4096 + x2 % 64 * 64 + x3 % 64) 4 x0 x1 x2 x3 (fun i => f (p + i)) h0 h1 h2 h3]
  obtain ⟨v, hvv⟩ : ∃ v, (x0 % 8 * 262144 + x1 % 64 * 4096 + x2 % 64 * 64 + x3 % 64) = v := ⟨_, rfl⟩
  rw [hvv]
  have q0 : v / 262144 = x0 % 8 := by omega
  have q1 : v / 4096 % 64 = x1 % 64 := by omega
  have q2 : v / 64 % 64 = x2 % 64 := by omega
  have q3 : v % 64 = x3 % 64 := by omega
  clear hvv hv h0 h1 h2 h3
  simp only [q0, q1, q2, q3, Nat.reduceEqDiff, show ((4 : Nat) = 0) = False from by simp, false_and, false_or, true_and]
  constructor
  · rintro ⟨hc, h⟩
    exact ⟨by omega, hc⟩
  · rintro ⟨h, hc⟩
    exact ⟨hc, by omega⟩

theorem ref_is_nx (f : Nat → Nat) (N k : Nat) (hk : k < N) (hf : ∀ i, f i < 256) : refFrom f N k 4 1 = nx f N k := by
  obtain ⟨x0, h0⟩ : ∃ x, f k = x := ⟨_, rfl⟩
  obtain ⟨x1, h1⟩ : ∃ x, f (k + 1) = x := ⟨_, rfl⟩
  obtain ⟨x2, h2⟩ : ∃ x, f (k + 2) = x := ⟨_, rfl⟩
  obtain ⟨x3, h3⟩ : ∃ x, f (k + 3) = x := ⟨_, rfl⟩
  have l0 : x0 < 256 := h0 ▸ hf k
  have l1 : x1 < 256 := h1 ▸ hf (k + 1)
  have l2 : x2 < 256 := h2 ▸ hf (k + 2)
  have l3 : x3 < 256 := h3 ▸ hf (k + 3)
  have e1 := fits_1 f k x0 x1 x2 x3 h0 h1 h2 h3 l0 l1 l2 l3
  have e2 := fits_2 f k x0 x1 x2 x3 h0 h1 h2 h3 l0 l1 l2 l3
  have e3 := fits_3 f k x0 x1 x2 x3 h0 h1 h2 h3 l0 l1 l2 l3
  have e4 := fits_4 f k x0 x1 x2 x3 h0 h1 h2 h3 l0 l1 l2 l3
  have w1 : vAt f k 1 1 = x0 := by rw [v1, h0]; omega
  have w2 : vAt f k 2 2 = x0 % 32 * 64 + x1 % 64 := by rw [v2, h0, h1]
  have w3 : vAt f k 3 3 = x0 % 16 * 4096 + x1 % 64 * 64 + x2 % 64 := by rw [v3, h0, h1, h2]; omega
  have w4 : vAt f k 4 4 = x0 % 8 * 262144 + x1 % 64 * 4096 + x2 % 64 * 64 + x3 % 64 := by rw [v4, h0, h1, h2, h3]; omega
  unfold nx
  simp only [refFrom, Nat.reduceAdd, w1, w2, w3, w4, h0, h1, h2, h3]
  generalize fits f k 1 = F1 at *
  generalize fits f k 2 = F2 at *
  generalize fits f k 3 = F3 at *
  generalize fits f k 4 = F4 at *
  obtain ⟨d, hd⟩ : ∃ d, decodeN (N - k) x0 x1 x2 x3 = d := ⟨_, rfl⟩
  rw [hd]
  have hnn : 1 ≤ N - k := by omega
  have a1 : (k + 1 ≤ N) = (0 < N - k) := propext ⟨fun h => by omega, fun h => by omega⟩
  have a2 : (k + 2 ≤ N) = (1 < N - k) := propext ⟨fun h => by omega, fun h => by omega⟩
  have a3 : (k + 3 ≤ N) = (2 < N - k) := propext ⟨fun h => by omega, fun h => by omega⟩
  have a4 : (k + 4 ≤ N) = (3 < N - k) := propext ⟨fun h => by omega, fun h => by omega⟩
  simp only [a1, a2, a3, a4]
  generalize N - k = m at *
  rw [if_pos (show 0 < m by omega)]
  unfold decodeN at hd
  clear h0 h1 h2 h3 w1 w2 w3 w4 a1 a2 a3 a4 hk hf
  by_cases c1 : x0 < 128
  · rw [if_pos c1] at hd
    subst hd
    have f2 : F2 = false := by cases F2 with | false => rfl | true => have := e2.1 rfl; omega
    have f3 : F3 = false := by cases F3 with | false => rfl | true => have := e3.1 rfl; omega
    have f4 : F4 = false := by cases F4 with | false => rfl | true => have := e4.1 rfl; omega
    subst f2 f3 f4
    simp only [Bool.false_eq_true, if_false, ite_self]
    by_cases ht : inTab charsT (x0 : Int) = true
    · rw [if_pos (e1.2 ⟨c1, ht⟩), if_pos ⟨ht, by omega⟩]
    · rw [if_neg (fun h => ht (e1.1 h).2), if_neg (fun h => ht h.1)]
  · have f1 : F1 = false := by cases F1 with | false => rfl | true => have := e1.1 rfl; omega
    subst f1
    rw [if_neg c1] at hd
    simp only [Bool.false_eq_true, if_false]
    by_cases c2 : x0 / 32 = 6 ∧ (1 < m ∧ x1 / 64 = 2)
    · rw [if_pos c2] at hd
      have f3 : F3 = false := by cases F3 with | false => rfl | true => have := e3.1 rfl; omega
      have f4 : F4 = false := by cases F4 with | false => rfl | true => have := e4.1 rfl; omega
      subst f3 f4
      simp only [Bool.false_eq_true, if_false, ite_self]
      rw [if_pos c2.2.1]
      by_cases g2 : x0 % 32 * 64 + x1 % 64 ≥ 128
      · rw [if_pos g2] at hd
        subst hd
        by_cases ht : inTab charsT ((x0 % 32 * 64 + x1 % 64 : Nat) : Int) = true
        · rw [if_pos (e2.2 ⟨⟨c2.1, c2.2.2, g2⟩, ht⟩), if_pos ⟨ht, fun h => absurd h.2 (by simp)⟩]
        · rw [if_neg (fun h => ht (e2.1 h).2), if_neg (fun h => ht h.1)]
      · rw [if_neg g2] at hd
        subst hd
        rw [if_neg (fun h => g2 (e2.1 h).1.2.2), if_neg (fun h => h.2 ⟨rfl, rfl⟩)]
    · rw [if_neg c2] at hd
      by_cases c3 : x0 / 16 = 14 ∧ (1 < m ∧ x1 / 64 = 2) ∧ (2 < m ∧ x2 / 64 = 2)
      · rw [if_pos c3] at hd
        have f2 : F2 = false := by cases F2 with | false => rfl | true => have := e2.1 rfl; omega
        have f4 : F4 = false := by cases F4 with | false => rfl | true => have := e4.1 rfl; omega
        subst f2 f4
        simp only [Bool.false_eq_true, if_false, ite_self]
        rw [if_pos c3.2.1.1, if_pos c3.2.2.1]
        by_cases g3 : x0 % 16 * 4096 + x1 % 64 * 64 + x2 % 64 ≥ 2048 ∧ (x0 % 16 * 4096 + x1 % 64 * 64 + x2 % 64 < 55296 ∨ (57344 ≤ x0 % 16 * 4096 + x1 % 64 * 64 + x2 % 64 ∧ x0 % 16 * 4096 + x1 % 64 * 64 + x2 % 64 ≤ 1114111))
        · rw [if_pos g3] at hd
          subst hd
          by_cases ht : inTab charsT ((x0 % 16 * 4096 + x1 % 64 * 64 + x2 % 64 : Nat) : Int) = true
          · rw [if_pos (e3.2 ⟨⟨c3.1, c3.2.1.2, c3.2.2.2, g3.1, by omega⟩, ht⟩), if_pos ⟨ht, fun h => absurd h.2 (by simp)⟩]
          · rw [if_neg (fun h => ht (e3.1 h).2), if_neg (fun h => ht h.1)]
        · rw [if_neg g3] at hd
          subst hd
          rw [if_neg (fun h => g3 (by have := (e3.1 h).1; omega)), if_neg (fun h => h.2 ⟨rfl, rfl⟩)]
      · rw [if_neg c3] at hd
        by_cases c4 : x0 / 8 = 30 ∧ (1 < m ∧ x1 / 64 = 2) ∧ (2 < m ∧ x2 / 64 = 2) ∧ (3 < m ∧ x3 / 64 = 2)
        · rw [if_pos c4] at hd
          have f2 : F2 = false := by cases F2 with | false => rfl | true => have := e2.1 rfl; omega
          have f3 : F3 = false := by cases F3 with | false => rfl | true => have := e3.1 rfl; omega
          subst f2 f3
          simp only [Bool.false_eq_true, if_false]
          rw [if_pos c4.2.1.1, if_pos c4.2.2.1.1, if_pos c4.2.2.2.1]
          by_cases g4 : x0 % 8 * 262144 + x1 % 64 * 4096 + x2 % 64 * 64 + x3 % 64 ≥ 65536 ∧ (x0 % 8 * 262144 + x1 % 64 * 4096 + x2 % 64 * 64 + x3 % 64 < 55296 ∨ (57344 ≤ x0 % 8 * 262144 + x1 % 64 * 4096 + x2 % 64 * 64 + x3 % 64 ∧ x0 % 8 * 262144 + x1 % 64 * 4096 + x2 % 64 * 64 + x3 % 64 ≤ 1114111))
          · rw [if_pos g4] at hd
            subst hd
            by_cases ht : inTab charsT ((x0 % 8 * 262144 + x1 % 64 * 4096 + x2 % 64 * 64 + x3 % 64 : Nat) : Int) = true
            · rw [if_pos (e4.2 ⟨⟨c4.1, c4.2.1.2, c4.2.2.1.2, c4.2.2.2.2, g4.1, by omega⟩, ht⟩), if_pos ⟨ht, fun h => absurd h.2 (by simp)⟩]
            · rw [if_neg (fun h => ht (e4.1 h).2), if_neg (fun h => ht h.1)]
          · rw [if_neg g4] at hd
            subst hd
            rw [if_neg (fun h => g4 (by have := (e4.1 h).1; omega)), if_neg (fun h => h.2 ⟨rfl, rfl⟩)]
        · rw [if_neg c4] at hd
          subst hd
          have hz : (if inTab charsT ((65533 : Nat) : Int) = true ∧ ¬ ((65533 : Nat) = 65533 ∧ (1 : Nat) = 1) then ((65533 : Nat), (1 : Nat)) else (0, 0)) = (0, 0) := if_neg (fun h => h.2 ⟨rfl, rfl⟩)
          have n2 : 1 < m → ¬ F2 = true := fun h h2 => c2 ⟨(e2.1 h2).1.1, h, (e2.1 h2).1.2.1⟩
          have n3 : 2 < m → ¬ F3 = true := fun h h3 => c3 ⟨(e3.1 h3).1.1, ⟨by omega, (e3.1 h3).1.2.1⟩, h, (e3.1 h3).1.2.2.1⟩
          have n4 : 3 < m → ¬ F4 = true := fun h h4 => c4 ⟨(e4.1 h4).1.1, ⟨by omega, (e4.1 h4).1.2.1⟩, ⟨by omega, (e4.1 h4).1.2.2.1⟩, h, (e4.1 h4).1.2.2.2.1⟩
          by_cases m1 : 1 < m
          · rw [if_pos m1, if_neg (n2 m1)]
            by_cases m2 : 2 < m
            · rw [if_pos m2, if_neg (n3 m2)]
              by_cases m3 : 3 < m
              · rw [if_pos m3, if_neg (n4 m3)]
                exact hz.symm
              · rw [if_neg m3]
                exact hz.symm
            · rw [if_neg m2]
              exact hz.symm
          · rw [if_neg m1]
            exact hz.symm

end Go.Proofs.YtkpgbcackphdbaaDoor
