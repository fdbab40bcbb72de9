/-
  A number's digits from the right, as the reference's Text lays them; turned round, without the zeros that stand first, they are the number's text. No program, no condition.
-/
import Derived.Test.YteddnomneeonhaaDoorTextBack
namespace Go.Proofs.YteddnomneeonhaaDoor
open Go.Lib

def dgB (v : Nat) : UInt8 := UInt8.ofNat (48 + v % 10)
def leD : Nat → Nat → List UInt8
  | 0, _ => []
  | n + 1, v => dgB v :: leD n (v / 10)
def leW (v : Nat) : List UInt8 := (decDigits v).reverse
/-- What is still to be laid at place i. -/
def restT (i v : Nat) : List UInt8 := if i < 6 then leD (6 - i) v ++ 46 :: leW (v / 10 ^ (6 - i)) else if i = 6 then 46 :: leW v else if v = 0 then [] else leW v
def allT (V : Nat) : List UInt8 := leD 6 V ++ 46 :: leW (V / 1000000)
/-- How many zeros stand first, of the first k. -/
def lz : Nat → List UInt8 → Nat
  | 0, _ => 0
  | _ + 1, [] => 0
  | k + 1, b :: t => if b = 48 then lz k t + 1 else 0
def skipT (z : Nat) : Nat := if z = 6 then 7 else z

theorem dgB_toNat (v : Nat) : (dgB v).toNat = 48 + v % 10 := dg_toNat (Nat.mod_lt _ (by decide))
theorem leW_step (v : Nat) : leW v = dgB v :: (if v / 10 = 0 then [] else leW (v / 10)) := by
  unfold leW dgB
  rw [decDigits]
  split
  · rename_i h
    rw [if_pos (by omega), Nat.mod_eq_of_lt h]
    rfl
  · rename_i h
    rw [if_neg (by omega), List.reverse_append]
    rfl
theorem restT_start (V : Nat) : restT 0 V = allT V := rfl
theorem restT_low {i v : Nat} (h : i < 6) : restT i v = dgB v :: restT (i + 1) (v / 10) := by
  unfold restT
  rw [if_pos h]
  have e : leD (6 - i) v = dgB v :: leD (6 - (i + 1)) (v / 10) := by
    rw [show 6 - i = 6 - (i + 1) + 1 by omega]
    rfl
  have e2 : v / 10 ^ (6 - i) = v / 10 / 10 ^ (6 - (i + 1)) := by
    rw [show 6 - i = 6 - (i + 1) + 1 by omega, Nat.pow_succ, Nat.mul_comm, ← Nat.div_div_eq_div_mul]
  rw [e, e2, List.cons_append]
  by_cases h5 : i + 1 < 6
  · rw [if_pos h5]
  · obtain rfl : i = 5 := by omega
    rw [if_neg (by omega), if_pos rfl]
    show dgB v :: ([] ++ 46 :: leW (v / 10 / 10 ^ 0)) = _
    rw [Nat.pow_zero, Nat.div_one]
    rfl
theorem restT_six (v : Nat) : restT 6 v = 46 :: dgB v :: restT 7 (v / 10) := by
  unfold restT
  rw [if_neg (by decide), if_pos rfl, if_neg (by decide), if_neg (by decide), leW_step]
theorem restT_high {i v : Nat} (h : 7 ≤ i) (hv : v ≠ 0) : restT i v = dgB v :: restT (i + 1) (v / 10) := by
  unfold restT
  rw [if_neg (by omega), if_neg (by omega), if_neg hv, if_neg (by omega), if_neg (by omega), leW_step]
theorem restT_end {i : Nat} (h : 7 ≤ i) : restT i 0 = [] := by
  unfold restT
  rw [if_neg (by omega), if_neg (by omega), if_pos rfl]

theorem lz_app : ∀ (l r : List UInt8) (k : Nat), l.length = k → lz k (l ++ r) = (l.takeWhile (· == 48)).length
  | [], r, k, h => by subst h; rfl
  | b :: t, r, k, h => by
    subst h
    show (if b = 48 then lz t.length (t ++ r) + 1 else 0) = _
    rw [lz_app t r t.length rfl, List.takeWhile_cons]
    by_cases hb : b = 48
    · rw [if_pos hb, if_pos (by simpa using hb)]
      rfl
    · rw [if_neg hb, if_neg (by simpa using hb)]
      rfl
theorem drop_zeros : ∀ l : List UInt8, l.drop (l.takeWhile (· == 48)).length = l.dropWhile (· == 48)
  | [] => rfl
  | b :: t => by
    rw [List.takeWhile_cons, List.dropWhile_cons]
    by_cases hb : b = 48
    · rw [if_pos (by simpa using hb), if_pos (by simpa using hb)]
      exact drop_zeros t
    · rw [if_neg (by simpa using hb), if_neg (by simpa using hb)]
      rfl
theorem zeros_val : ∀ (l : List UInt8), (l.takeWhile (· == 48)).length = l.length → l = List.replicate l.length 48
  | [], _ => rfl
  | b :: t, h => by
    rw [List.takeWhile_cons] at h
    by_cases hb : b = 48
    · rw [if_pos (by simpa using hb), List.length_cons, List.length_cons] at h
      rw [List.length_cons, List.replicate_succ, ← zeros_val t (by omega), hb]
    · rw [if_neg (by simpa using hb)] at h
      simp at h
theorem valD_zeros : ∀ k : Nat, valD 0 (List.replicate k 48) = 0
  | 0 => rfl
  | k + 1 => by
    rw [List.replicate_succ]
    show valD (0 * 10 + dgV 48) (List.replicate k 48) = 0
    rw [show 0 * 10 + dgV 48 = 0 from by decide]
    exact valD_zeros k

theorem six_le (V : Nat) : leD 6 V = (sixT (V % 1000000)).reverse := by
  unfold sixT
  rw [decDigits_eq, nDigits_unique 6 (1000000 + V % 1000000) (by omega) (by omega)]
  have e : ∀ j v w, w = v % 10 → v % 10 = (1000000 + V % 1000000) / 10 ^ j % 10 → dgB w = dg (1000000 + V % 1000000) j := by
    intro j v w h1 h2
    unfold dgB dg
    rw [h1, Nat.mod_mod, h2]
  show [dgB V, dgB (V / 10), dgB (V / 10 / 10), dgB (V / 10 / 10 / 10), dgB (V / 10 / 10 / 10 / 10), dgB (V / 10 / 10 / 10 / 10 / 10)] =
    [dg (1000000 + V % 1000000) 0, dg (1000000 + V % 1000000) 1, dg (1000000 + V % 1000000) 2, dg (1000000 + V % 1000000) 3, dg (1000000 + V % 1000000) 4, dg (1000000 + V % 1000000) 5]
  have f : ∀ j v, v % 10 = (1000000 + V % 1000000) / 10 ^ j % 10 → dgB v = dg (1000000 + V % 1000000) j := by
    intro j v h
    unfold dgB dg
    rw [h]
  rw [f 0 V (by omega), f 1 (V / 10) (by omega), f 2 (V / 10 / 10) (by omega), f 3 (V / 10 / 10 / 10) (by omega), f 4 (V / 10 / 10 / 10 / 10) (by omega), f 5 (V / 10 / 10 / 10 / 10 / 10) (by omega)]

theorem allT_len (V : Nat) : (allT V).length = 7 + nDigits (V / 1000000) := by
  unfold allT leW
  rw [List.length_append, List.length_cons, List.length_reverse, decDigits_length]
  show 6 + _ = _
  omega

/-- Turned round, behind the zeros that stand first. -/
theorem back_text (v : Int) : ((allT v.natAbs).drop (skipT (lz 6 (allT v.natAbs)))).reverse = wholeT v := by
  obtain ⟨x, h1, h2, h3, h4⟩ := six_split (f := v.natAbs % 1000000) (Nat.mod_lt _ (by decide))
  have hS := six_le v.natAbs
  obtain ⟨S, hSd⟩ : ∃ S, sixT (v.natAbs % 1000000) = S := ⟨_, rfl⟩
  rw [hSd] at hS h2 h3 h4
  have hall : allT v.natAbs = S.reverse ++ 46 :: leW (v.natAbs / 1000000) := by unfold allT; rw [hS]
  have hlz := lz_app S.reverse (46 :: leW (v.natAbs / 1000000)) 6 (by rw [List.length_reverse, h2])
  rw [hall, hlz]
  obtain ⟨z, hz⟩ : ∃ z, (S.reverse.takeWhile (· == 48)).length = z := ⟨_, rfl⟩
  rw [hz]
  have hzle : z ≤ 6 := by
    rw [← hz]
    have := (List.takeWhile_prefix (· == 48) (l := S.reverse)).length_le
    rw [List.length_reverse, h2] at this
    exact this
  unfold wholeT fracT
  by_cases hf : v.natAbs % 1000000 = 0
  · have hz6 : z = 6 := by
      have h0 : sixT 0 = [48, 48, 48, 48, 48, 48] := by
        unfold sixT
        rw [decDigits_eq, nDigits_unique 6 (1000000 + 0) (by decide) (by decide)]
        decide +kernel
      rw [hf] at hSd
      rw [← hz, ← hSd, h0]
      decide
    have hsk : skipT z = 7 := by unfold skipT; rw [if_pos hz6]
    rw [if_pos hf, hsk, List.append_nil]
    have hl6 : S.reverse.length = 6 := by rw [List.length_reverse, h2]
    have : (S.reverse ++ 46 :: leW (v.natAbs / 1000000)).drop 7 = leW (v.natAbs / 1000000) := by
      rw [List.drop_append, hl6, List.drop_eq_nil_of_le (by omega)]
      rfl
    rw [this]
    unfold leW
    rw [List.reverse_reverse]
  · have hz6 : z ≠ 6 := by
      intro h
      have h5 := zeros_val S.reverse (by rw [hz, List.length_reverse, h2]; exact h)
      have h6 : S = List.replicate 6 48 := by
        have := congrArg List.reverse h5
        rw [List.reverse_reverse, List.length_reverse, h2, List.reverse_replicate] at this
        exact this
      rw [h6, valD_zeros] at h4
      exact hf h4.symm
    have hsk : skipT z = z := by unfold skipT; rw [if_neg hz6]
    rw [if_neg hf, hsk]
    have hl6 : S.reverse.length = 6 := by rw [List.length_reverse, h2]
    rw [List.drop_append, hl6, show z - 6 = 0 by omega, List.drop_zero, ← hz, drop_zeros, List.reverse_append, List.reverse_cons]
    unfold leW trimRightB
    rw [List.reverse_reverse, hSd, List.append_assoc]
    rfl

end Go.Proofs.YteddnomneeonhaaDoor
