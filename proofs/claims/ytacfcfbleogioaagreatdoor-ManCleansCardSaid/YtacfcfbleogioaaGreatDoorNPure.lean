/-
  The number of a segment's name, by definition; what strconv.Atoi tells of a name's digits. Of no program. No condition.
-/
import Derived.Test.YtacfcfbleogioaaGreatDoorPureS
import Derived.Lib.AtoiAll
import Derived.Lib.Strings
namespace Go.Proofs.YtacfcfbleogioaaGreatDoor

/-- The number that digits tell, one behind the other. -/
def dstep (a : Nat) (c : UInt8) : Nat := a * 10 + (c.toNat - 48)
def dval (acc : Nat) (l : List UInt8) : Nat := l.foldl dstep acc
def digC (c : UInt8) : Bool := decide (48 ≤ c.toNat) && decide (c.toNat ≤ 57)
def segP : List UInt8 := [115, 101, 103, 46]
/-- The number of a name; 0, if it is none. -/
def numB (s : ByteArray) : Nat := if s.size = 12 ∧ s.data.toList.take 4 = segP ∧ (s.data.toList.drop 4).all digC = true then dval 0 (s.data.toList.drop 4) else 0

theorem dval_cons (acc : Nat) (c : UInt8) (r : List UInt8) : dval acc (c :: r) = dval (dstep acc c) r := by unfold dval; exact List.foldl_cons ..
theorem dval_app (l : List UInt8) (acc : Nat) (c : UInt8) : dval acc (l ++ [c]) = dval acc l * 10 + (c.toNat - 48) := by
  unfold dval
  rw [List.foldl_append, List.foldl_cons, List.foldl_nil, dstep]
theorem digit_nat {d : Nat} (h : d < 10) : (UInt8.ofNat (48 + d)).toNat = 48 + d := by
  rw [UInt8.toNat_ofNat']
  omega
theorem dval_pad : ∀ (k n : Nat), n < 10 ^ k → dval 0 (pad k n) = n
  | 0, n, h => by
    have : n = 0 := by simpa using h
    rw [this]; rfl
  | k + 1, n, h => by
    rw [pad, dval_app, dval_pad k (n / 10) (by rw [Nat.div_lt_iff_lt_mul (by decide)]; rw [Nat.pow_succ] at h; exact h), digit_nat (Nat.mod_lt _ (by decide))]
    omega
theorem dig_pad : ∀ (k n : Nat), (pad k n).all digC = true
  | 0, _ => rfl
  | k + 1, n => by
    have hd := digit_nat (Nat.mod_lt n (show 0 < 10 by decide))
    rw [pad, List.all_append, dig_pad k, Bool.true_and, List.all_cons, List.all_nil, Bool.and_true]
    unfold digC
    rw [hd]
    have := Nat.mod_lt n (show 0 < 10 by decide)
    simp
    omega
theorem dval_lt : ∀ (l : List UInt8) (acc : Nat), l.all digC = true → dval acc l < (acc + 1) * 10 ^ l.length
  | [], acc, _ => by simp [dval]
  | c :: l, acc, h => by
    rw [List.all_cons, Bool.and_eq_true] at h
    have hc : 48 ≤ c.toNat ∧ c.toNat ≤ 57 := by have := h.1; unfold digC at this; simpa using this
    have ih := dval_lt l (dstep acc c) h.2
    unfold dstep at ih
    rw [dval_cons, dstep, List.length_cons, Nat.pow_succ]
    refine Nat.lt_of_lt_of_le ih ?_
    rw [Nat.mul_comm (10 ^ l.length) 10, ← Nat.mul_assoc]
    exact Nat.mul_le_mul_right _ (by omega)
theorem list_rev {P : List UInt8 → Prop} (h0 : P []) (h1 : ∀ l c, P l → P (l ++ [c])) (l : List UInt8) : P l := by
  have h : ∀ l : List UInt8, P l.reverse := fun l => by
    induction l with
    | nil => exact h0
    | cons c l ih => rw [List.reverse_cons]; exact h1 _ _ ih
  rw [← List.reverse_reverse l]
  exact h _
theorem pad_dval (l : List UInt8) : l.all digC = true → pad l.length (dval 0 l) = l := by
  refine list_rev (P := fun l => l.all digC = true → pad l.length (dval 0 l) = l) (fun _ => rfl) (fun l c ih h => ?_) l
  rw [List.all_append, Bool.and_eq_true] at h
  have hc : 48 ≤ c.toNat ∧ c.toNat ≤ 57 := by have := h.2; unfold digC at this; simpa using this
  rw [List.length_append, dval_app]
  show pad (l.length + 1) _ = _
  rw [pad, show (dval 0 l * 10 + (c.toNat - 48)) / 10 = dval 0 l by omega, ih h.1, show (dval 0 l * 10 + (c.toNat - 48)) % 10 = c.toNat - 48 by omega, show 48 + (c.toNat - 48) = c.toNat by omega, UInt8.ofNat_toNat]
theorem nameB_list {n : Int} (h : mayN n = true) : (nameB n).data.toList = segP ++ pad 8 n.toNat := by
  rw [nameB_may h]
  simp [nameL, segP]
theorem nameB_len {n : Int} (h : mayN n = true) : (nameB n).size = 12 := by
  show (nameB n).data.size = 12
  rw [← Array.length_toList, nameB_list h, List.length_append, pad_len]
  rfl
theorem numB_name {n : Int} (h : mayN n = true) : numB (nameB n) = n.toNat := by
  have h1 := mayN_is.1 h
  have ht : (nameB n).data.toList.take 4 = segP := by rw [nameB_list h]; exact List.take_left' rfl
  have hd : (nameB n).data.toList.drop 4 = pad 8 n.toNat := by rw [nameB_list h]; exact List.drop_left' rfl
  unfold numB
  rw [if_pos ⟨nameB_len h, ht, by rw [hd]; exact dig_pad _ _⟩, hd, dval_pad 8 n.toNat (by omega)]
theorem numB_not {n : Int} (h : mayN n = false) : numB (nameB n) = 0 := by
  rw [nameB_not h]
  rfl
theorem ext_list {a b : ByteArray} (h : a.data.toList = b.data.toList) : a = b := name_ext h
theorem numB_inv {s : ByteArray} (h : numB s ≠ 0) : mayN (numB s : Int) = true ∧ s = nameB (numB s : Int) := by
  unfold numB at h
  split at h
  · next hc =>
    obtain ⟨h1, h2, h3⟩ := hc
    have hn : numB s = dval 0 (s.data.toList.drop 4) := if_pos ⟨h1, h2, h3⟩
    have hl : (s.data.toList.drop 4).length = 8 := by
      rw [List.length_drop, Array.length_toList]
      show s.size - 4 = 8
      omega
    have hlt := dval_lt _ 0 h3
    rw [hl] at hlt
    rw [hn]
    have hm : mayN ((dval 0 (s.data.toList.drop 4) : Nat) : Int) = true := mayN_is.2 ⟨by omega, by omega⟩
    refine ⟨hm, ext_list ?_⟩
    have hp := pad_dval _ h3
    rw [hl] at hp
    rw [nameB_list hm, Int.toNat_natCast, hp, ← h2, List.take_append_drop]
  · exact absurd rfl h

theorem parse_dig : ∀ (l : List UInt8) (acc : Nat), l.all digC = true → (acc + 1) * 10 ^ l.length ≤ 100000000000 → Lib.parseUint10 acc l = .ok (dval acc l)
  | [], _, _, _ => rfl
  | c :: l, acc, h, hb => by
    rw [List.all_cons, Bool.and_eq_true] at h
    have hc : 48 ≤ c.toNat ∧ c.toNat ≤ 57 := by have := h.1; unfold digC at this; simpa using this
    rw [List.length_cons, Nat.pow_succ, Nat.mul_comm (10 ^ l.length) 10, ← Nat.mul_assoc] at hb
    have hp : 1 ≤ 10 ^ l.length := Nat.one_le_pow _ _ (by decide)
    have hb2 : (acc + 1) * 10 ≤ 100000000000 := Nat.le_trans (Nat.le_mul_of_pos_right _ hp) hb
    rw [Lib.parseUint10, if_pos hc, if_neg (by omega), if_neg (by omega), dval_cons, dstep, parse_dig l _ h.2 (Nat.le_trans (Nat.mul_le_mul_right _ (by omega)) hb)]
theorem atoi_pad (m : Nat) (h : m < 100000000) : Lib.atoiAll (pad 8 m) = .ok (m : Int) := by
  have hd := dig_pad 8 m
  have hl := pad_len 8 m
  have hv := dval_pad 8 m (by omega)
  obtain ⟨l, hpl⟩ : ∃ l, pad 8 m = l := ⟨_, rfl⟩
  rw [hpl] at hd hl hv ⊢
  cases l with
  | nil => cases hl
  | cons c r =>
    have hc : 48 ≤ c.toNat ∧ c.toNat ≤ 57 := by
      rw [List.all_cons, Bool.and_eq_true] at hd
      have := hd.1
      unfold digC at this
      simpa using this
    have hp := parse_dig (c :: r) 0 hd (by rw [hl]; decide)
    rw [hv] at hp
    have h1 : ¬ (c.toNat = 43 ∨ c.toNat = 45) := by omega
    have h2 : ¬ c.toNat = 45 := by omega
    have hpm : Lib.parseMag (c :: r) = .ok m := by
      unfold Lib.parseMag
      rw [if_neg (List.cons_ne_nil _ _)]
      exact hp
    unfold Lib.atoiAll
    dsimp only
    rw [if_neg h1, hpm]
    dsimp only
    rw [if_neg (by omega), if_neg (by omega), if_neg h2]
/-- The text that Atoi gets of a name. -/
def cutP (s : ByteArray) : List UInt8 := Lib.trimPrefix s.data.toList segP
theorem cutP_name {n : Int} (h : mayN n = true) : cutP (nameB n) = pad 8 n.toNat := by
  unfold cutP Lib.trimPrefix Lib.hasPrefix
  rw [nameB_list h, if_pos (by simp [segP])]
  exact List.drop_left' rfl
theorem numB_atoi {s : ByteArray} (h : numB s ≠ 0) : Lib.atoiAll (cutP s) = .ok (numB s : Int) := by
  obtain ⟨h1, h2⟩ := numB_inv h
  have h3 := mayN_is.1 h1
  obtain ⟨m, hm⟩ : ∃ m, numB s = m := ⟨_, rfl⟩
  rw [hm] at h1 h2 h3 ⊢
  rw [h2, cutP_name h1, Int.toNat_natCast]
  exact atoi_pad m (by omega)
/-- What Atoi's number leads to. -/
theorem atoi_is {s : ByteArray} {v : Int} (h : Lib.atoiAll (cutP s) = .ok v) : (s = nameB v → (numB s : Int) = v ∧ 0 < numB s) ∧ (s ≠ nameB v → numB s = 0) := by
  refine ⟨fun e => ?_, fun e => ?_⟩
  · cases hm : mayN v with
    | true =>
      have h1 := mayN_is.1 hm
      rw [e, numB_name hm]
      omega
    | false =>
      rw [nameB_not hm] at e
      rw [e] at h
      have h0 : Lib.atoiAll (cutP ⟨#[]⟩) = Lib.NumEnd.syntax := rfl
      rw [h0] at h
      cases h
  · refine Classical.not_not.1 (fun h0 => ?_)
    have h1 := numB_atoi h0
    rw [h] at h1
    injection h1 with h1
    exact e (by rw [h1]; exact (numB_inv h0).2)
theorem atoi_bad {s : ByteArray} (h : ∀ v, Lib.atoiAll (cutP s) ≠ .ok v) : numB s = 0 := Classical.not_not.1 (fun h0 => h _ (numB_atoi h0))
theorem cutP_le (s : ByteArray) : (cutP s).length ≤ s.size := by
  unfold cutP Lib.trimPrefix
  have : s.data.toList.length = s.size := Array.length_toList
  split
  · rw [List.length_drop, this]; exact Nat.sub_le _ _
  · rw [this]; exact Nat.le_refl _

end Go.Proofs.YtacfcfbleogioaaGreatDoor
