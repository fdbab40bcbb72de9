/-
  The number of a segment's name, by definition; what strconv.Atoi tells of a name's digits. Of no program. No condition.
  Manifests by definition: names, bytes, the newest one, orphans, and what Write and Clean make of a disk. Of no program. No condition.
  Whether a name is among some. Of no program. No condition.
  What the reference's loops over a disk's files come to, by definition: the newest manifest, file by file; what is needed, name by name. Of no program. No condition.
-/
import Derived.Test.YtacfcfbleogioaaGreatDoorPureB
import Derived.Lib.AtoiAll
import Derived.Lib.Strings
namespace Go.Proofs.YtacfcfbleogioaaGreatDoor

/-- The number that digits tell, one behind the other. -/
def dstep (a : Nat) (c : UInt8) : Nat := a * 10 + (c.toNat - 48)
def dval (acc : Nat) (l : List UInt8) : Nat := l.foldl dstep acc
def digC (c : UInt8) : Bool := decide (48 ≤ c.toNat) && decide (c.toNat ≤ 57)
def segP : List UInt8 := [115, 101, 103, 46]
/-- The number of a name; 0, if it is none. -/
def numB (s : ByteArray) : Nat := if s.size = 12 ∧ s.data.toList.take 4 = segP ∧ (s.data.toList.drop 4).all digC = true then dval 0 (s.data.toList.drop 4) else 0

theorem dval_cons (acc : Nat) (c : UInt8) (r : List UInt8) : dval acc (c :: r) = dval (dstep acc c) r := by unfold dval; exact List.foldl_cons ..
theorem dval_app (l : List UInt8) (acc : Nat) (c : UInt8) : dval acc (l ++ [c]) = dval acc l * 10 + (c.toNat - 48) := by
  unfold dval
  rw [List.foldl_append, List.foldl_cons, List.foldl_nil, dstep]
theorem digit_nat {d : Nat} (h : d < 10) : (UInt8.ofNat (48 + d)).toNat = 48 + d := by
  rw [UInt8.toNat_ofNat']
  omega
theorem dval_pad : ∀ (k n : Nat), n < 10 ^ k → dval 0 (pad k n) = n
  | 0, n, h => by
    have : n = 0 := by simpa using h
    rw [this]; rfl
  | k + 1, n, h => by
    rw [pad, dval_app, dval_pad k (n / 10) (by rw [Nat.div_lt_iff_lt_mul (by decide)]; rw [Nat.pow_succ] at h; exact h), digit_nat (Nat.mod_lt _ (by decide))]
    omega
theorem dig_pad : ∀ (k n : Nat), (pad k n).all digC = true
  | 0, _ => rfl
  | k + 1, n => by
    have hd := digit_nat (Nat.mod_lt n (show 0 < 10 by decide))
    rw [pad, List.all_append, dig_pad k, Bool.true_and, List.all_cons, List.all_nil, Bool.and_true]
    unfold digC
    rw [hd]
    have := Nat.mod_lt n (show 0 < 10 by decide)
    simp
    omega
theorem dval_lt : ∀ (l : List UInt8) (acc : Nat), l.all digC = true → dval acc l < (acc + 1) * 10 ^ l.length
  | [], acc, _ => by simp [dval]
  | c :: l, acc, h => by
    rw [List.all_cons, Bool.and_eq_true] at h
    have hc : 48 ≤ c.toNat ∧ c.toNat ≤ 57 := by have := h.1; unfold digC at this; simpa using this
    have ih := dval_lt l (dstep acc c) h.2
    unfold dstep at ih
    rw [dval_cons, dstep, List.length_cons, Nat.pow_succ]
    refine Nat.lt_of_lt_of_le ih ?_
    rw [Nat.mul_comm (10 ^ l.length) 10, ← Nat.mul_assoc]
    exact Nat.mul_le_mul_right _ (by omega)
theorem list_rev {P : List UInt8 → Prop} (h0 : P []) (h1 : ∀ l c, P l → P (l ++ [c])) (l : List UInt8) : P l := by
  have h : ∀ l : List UInt8, P l.reverse := fun l => by
    induction l with
    | nil => exact h0
    | cons c l ih => rw [List.reverse_cons]; exact h1 _ _ ih
  rw [← List.reverse_reverse l]
  exact h _
theorem pad_dval (l : List UInt8) : l.all digC = true → pad l.length (dval 0 l) = l := by
  refine list_rev (P := fun l => l.all digC = true → pad l.length (dval 0 l) = l) (fun _ => rfl) (fun l c ih h => ?_) l
  rw [List.all_append, Bool.and_eq_true] at h
  have hc : 48 ≤ c.toNat ∧ c.toNat ≤ 57 := by have := h.2; unfold digC at this; simpa using this
  rw [List.length_append, dval_app]
  show pad (l.length + 1) _ = _
  rw [pad, show (dval 0 l * 10 + (c.toNat - 48)) / 10 = dval 0 l by omega, ih h.1, show (dval 0 l * 10 + (c.toNat - 48)) % 10 = c.toNat - 48 by omega, show 48 + (c.toNat - 48) = c.toNat by omega, UInt8.ofNat_toNat]
theorem nameB_list {n : Int} (h : mayN n = true) : (nameB n).data.toList = segP ++ pad 8 n.toNat := by
  rw [nameB_may h]
  simp [nameL, segP]
theorem nameB_len {n : Int} (h : mayN n = true) : (nameB n).size = 12 := by
  show (nameB n).data.size = 12
  rw [← Array.length_toList, nameB_list h, List.length_append, pad_len]
  rfl
theorem numB_name {n : Int} (h : mayN n = true) : numB (nameB n) = n.toNat := by
  have h1 := mayN_is.1 h
  have ht : (nameB n).data.toList.take 4 = segP := by rw [nameB_list h]; exact List.take_left' rfl
  have hd : (nameB n).data.toList.drop 4 = pad 8 n.toNat := by rw [nameB_list h]; exact List.drop_left' rfl
  unfold numB
  rw [if_pos ⟨nameB_len h, ht, by rw [hd]; exact dig_pad _ _⟩, hd, dval_pad 8 n.toNat (by omega)]
theorem ext_list {a b : ByteArray} (h : a.data.toList = b.data.toList) : a = b := name_ext h
theorem numB_inv {s : ByteArray} (h : numB s ≠ 0) : mayN (numB s : Int) = true ∧ s = nameB (numB s : Int) := by
  unfold numB at h
  split at h
  · next hc =>
    obtain ⟨h1, h2, h3⟩ := hc
    have hn : numB s = dval 0 (s.data.toList.drop 4) := if_pos ⟨h1, h2, h3⟩
    have hl : (s.data.toList.drop 4).length = 8 := by
      rw [List.length_drop, Array.length_toList]
      show s.size - 4 = 8
      omega
    have hlt := dval_lt _ 0 h3
    rw [hl] at hlt
    rw [hn]
    have hm : mayN ((dval 0 (s.data.toList.drop 4) : Nat) : Int) = true := mayN_is.2 ⟨by omega, by omega⟩
    refine ⟨hm, ext_list ?_⟩
    have hp := pad_dval _ h3
    rw [hl] at hp
    rw [nameB_list hm, Int.toNat_natCast, hp, ← h2, List.take_append_drop]
  · exact absurd rfl h

theorem parse_dig : ∀ (l : List UInt8) (acc : Nat), l.all digC = true → (acc + 1) * 10 ^ l.length ≤ 100000000000 → Lib.parseUint10 acc l = .ok (dval acc l)
  | [], _, _, _ => rfl
  | c :: l, acc, h, hb => by
    rw [List.all_cons, Bool.and_eq_true] at h
    have hc : 48 ≤ c.toNat ∧ c.toNat ≤ 57 := by have := h.1; unfold digC at this; simpa using this
    rw [List.length_cons, Nat.pow_succ, Nat.mul_comm (10 ^ l.length) 10, ← Nat.mul_assoc] at hb
    have hp : 1 ≤ 10 ^ l.length := Nat.one_le_pow _ _ (by decide)
    have hb2 : (acc + 1) * 10 ≤ 100000000000 := Nat.le_trans (Nat.le_mul_of_pos_right _ hp) hb
    rw [Lib.parseUint10, if_pos hc, if_neg (by omega), if_neg (by omega), dval_cons, dstep, parse_dig l _ h.2 (Nat.le_trans (Nat.mul_le_mul_right _ (by omega)) hb)]
theorem atoi_pad (m : Nat) (h : m < 100000000) : Lib.atoiAll (pad 8 m) = .ok (m : Int) := by
  have hd := dig_pad 8 m
  have hl := pad_len 8 m
  have hv := dval_pad 8 m (by omega)
  obtain ⟨l, hpl⟩ : ∃ l, pad 8 m = l := ⟨_, rfl⟩
  rw [hpl] at hd hl hv ⊢
  cases l with
  | nil => cases hl
  | cons c r =>
    have hc : 48 ≤ c.toNat ∧ c.toNat ≤ 57 := by
      rw [List.all_cons, Bool.and_eq_true] at hd
      have := hd.1
      unfold digC at this
      simpa using this
    have hp := parse_dig (c :: r) 0 hd (by rw [hl]; decide)
    rw [hv] at hp
    have h1 : ¬ (c.toNat = 43 ∨ c.toNat = 45) := by omega
    have h2 : ¬ c.toNat = 45 := by omega
    have hpm : Lib.parseMag (c :: r) = .ok m := by
      unfold Lib.parseMag
      rw [if_neg (List.cons_ne_nil _ _)]
      exact hp
    unfold Lib.atoiAll
    dsimp only
    rw [if_neg h1, hpm]
    dsimp only
    rw [if_neg (by omega), if_neg (by omega), if_neg h2]
/-- The text that Atoi gets of a name. -/
def cutP (s : ByteArray) : List UInt8 := Lib.trimPrefix s.data.toList segP
theorem cutP_name {n : Int} (h : mayN n = true) : cutP (nameB n) = pad 8 n.toNat := by
  unfold cutP Lib.trimPrefix Lib.hasPrefix
  rw [nameB_list h, if_pos (by simp [segP])]
  exact List.drop_left' rfl
theorem numB_atoi {s : ByteArray} (h : numB s ≠ 0) : Lib.atoiAll (cutP s) = .ok (numB s : Int) := by
  obtain ⟨h1, h2⟩ := numB_inv h
  have h3 := mayN_is.1 h1
  obtain ⟨m, hm⟩ : ∃ m, numB s = m := ⟨_, rfl⟩
  rw [hm] at h1 h2 h3 ⊢
  rw [h2, cutP_name h1, Int.toNat_natCast]
  exact atoi_pad m (by omega)
/-- What Atoi's number leads to. -/
theorem atoi_is {s : ByteArray} {v : Int} (h : Lib.atoiAll (cutP s) = .ok v) : (s = nameB v → (numB s : Int) = v ∧ 0 < numB s) ∧ (s ≠ nameB v → numB s = 0) := by
  refine ⟨fun e => ?_, fun e => ?_⟩
  · cases hm : mayN v with
    | true =>
      have h1 := mayN_is.1 hm
      rw [e, numB_name hm]
      omega
    | false =>
      rw [nameB_not hm] at e
      rw [e] at h
      have h0 : Lib.atoiAll (cutP ⟨#[]⟩) = Lib.NumEnd.syntax := rfl
      rw [h0] at h
      cases h
  · refine Classical.not_not.1 (fun h0 => ?_)
    have h1 := numB_atoi h0
    rw [h] at h1
    injection h1 with h1
    exact e (by rw [h1]; exact (numB_inv h0).2)
theorem atoi_bad {s : ByteArray} (h : ∀ v, Lib.atoiAll (cutP s) ≠ .ok v) : numB s = 0 := Classical.not_not.1 (fun h0 => h _ (numB_atoi h0))
theorem cutP_le (s : ByteArray) : (cutP s).length ≤ s.size := by
  unfold cutP Lib.trimPrefix
  have : s.data.toList.length = s.size := Array.length_toList
  split
  · rw [List.length_drop, this]; exact Nat.sub_le _ _
  · rw [this]; exact Nat.le_refl _

end Go.Proofs.YtacfcfbleogioaaGreatDoor

namespace Go.Proofs.YtacfcfbleogioaaGreatDoor

/-- A manifest. -/
structure Mfs where
  gen : Int
  last : Int
  segs : List Int

/-! ### names -/
def manP : List UInt8 := [109, 97, 110, 46]
def mnameL (n : Nat) : List UInt8 := [109, 97, 110, 46] ++ pad 8 n
def mnameB (n : Int) : ByteArray := if mayN n then ⟨(mnameL n.toNat).toArray⟩ else ⟨#[]⟩
theorem mnameL_len (n : Nat) : (mnameL n).length = 12 := by unfold mnameL; rw [List.length_append, pad_len]; rfl
theorem mnameB_may {n : Int} (h : mayN n = true) : mnameB n = ⟨(mnameL n.toNat).toArray⟩ := if_pos h
theorem mnameB_not {n : Int} (h : mayN n = false) : mnameB n = ⟨#[]⟩ := if_neg (by rw [h]; decide)
theorem mnameB_size (n : Int) : (mnameB n).size ≤ 12 := by
  unfold mnameB
  split
  · show (mnameL n.toNat).toArray.size ≤ 12
    rw [List.size_toArray, mnameL_len]
    exact Nat.le_refl _
  · exact Nat.zero_le _
theorem mnameB_list {n : Int} (h : mayN n = true) : (mnameB n).data.toList = manP ++ pad 8 n.toNat := by
  rw [mnameB_may h]
  simp [mnameL, manP]
/-- The same name, a segment's. -/
def asSeg (s : ByteArray) : ByteArray := ⟨(segP ++ s.data.toList.drop 4).toArray⟩
theorem asSeg_list (s : ByteArray) : (asSeg s).data.toList = segP ++ s.data.toList.drop 4 := by simp [asSeg]
theorem asSeg_name {n : Int} (h : mayN n = true) : asSeg (mnameB n) = nameB n := by
  refine name_ext ?_
  rw [asSeg_list, mnameB_list h, nameB_list h]
  rfl
/-- The generation of a name; 0, if it has none. -/
def genB (s : ByteArray) : Nat := if s.data.toList.take 4 = manP then numB (asSeg s) else 0
theorem genB_name {n : Int} (h : mayN n = true) : genB (mnameB n) = n.toNat := by
  have ht : (mnameB n).data.toList.take 4 = manP := by rw [mnameB_list h]; rfl
  unfold genB
  rw [if_pos ht, asSeg_name h, numB_name h]
theorem genB_inv {s : ByteArray} (h : genB s ≠ 0) : mayN (genB s : Int) = true ∧ s = mnameB (genB s : Int) := by
  unfold genB at h
  split at h
  · next ht =>
    have hg : genB s = numB (asSeg s) := if_pos ht
    obtain ⟨h1, h2⟩ := numB_inv h
    rw [hg]
    refine ⟨h1, name_ext ?_⟩
    have h3 := congrArg (fun z : ByteArray => z.data.toList) h2
    simp only [asSeg_list, nameB_list h1] at h3
    have h4 := List.append_cancel_left h3
    rw [mnameB_list h1, ← h4, ← ht, List.take_append_drop]
  · exact absurd rfl h
/-- Is a file of this name needed? -/
def needM (m : Mfs) (s : ByteArray) : Bool :=
  if s.data.toList.take 4 = manP then decide (0 < numB (asSeg s)) && decide ((numB (asSeg s) : Int) = m.gen) else decide (0 < numB s) && decide ((numB s : Int) ∈ m.segs)

/-! ### the order of names -/
theorem lt_pre {x y : List UInt8} (h : x < y) : ∀ l : List UInt8, l ++ x < l ++ y
  | [] => h
  | c :: l => by rw [List.cons_append, List.cons_append, List.cons_lt_cons_iff]; exact .inr ⟨rfl, lt_pre h l⟩
theorem lt_post {x y : List UInt8} : ∀ l m : List UInt8, l.length = m.length → l < m → l ++ x < m ++ y
  | [], [], _, h => absurd h (List.lt_irrefl _)
  | [], _ :: _, h, _ => by cases h
  | _ :: _, [], h, _ => by cases h
  | c :: l, d :: m, h, hl => by
    rw [List.cons_append, List.cons_append, List.cons_lt_cons_iff]
    rcases List.cons_lt_cons_iff.1 hl with h1 | ⟨h1, h2⟩
    · exact .inl h1
    · exact .inr ⟨h1, lt_post l m (by simpa using h) h2⟩
theorem pad_lt : ∀ (k a b : Nat), a < b → b < 10 ^ k → pad k a < pad k b
  | 0, a, b, h, hb => by
    have : b < 1 := by simpa using hb
    omega
  | k + 1, a, b, h, hb => by
    rw [pad, pad]
    by_cases h1 : a / 10 < b / 10
    · exact lt_post _ _ (by rw [pad_len, pad_len]) (pad_lt k _ _ h1 (by rw [Nat.div_lt_iff_lt_mul (by decide)]; rw [Nat.pow_succ] at hb; exact hb))
    · have h2 : a / 10 = b / 10 := by have := Nat.div_le_div_right (c := 10) (Nat.le_of_lt h); omega
      rw [h2]
      refine lt_pre ?_ _
      rw [List.cons_lt_cons_iff]
      left
      rw [UInt8.lt_iff_toNat_lt, digit_nat (Nat.mod_lt _ (by decide)), digit_nat (Nat.mod_lt _ (by decide))]
      omega
theorem mname_lt {a b : Int} (ha : mayN a = true) (hb : mayN b = true) (h : a < b) : nlt (mnameB a) (mnameB b) = true := by
  have h1 := mayN_is.1 ha
  have h2 := mayN_is.1 hb
  unfold nlt
  rw [mnameB_list ha, mnameB_list hb]
  exact decide_eq_true (lt_pre (pad_lt 8 _ _ (by omega) (by omega)) _)

/-! ### bytes -/
/-- These numbers rise, from above b on. -/
def riseB : Int → List Int → Bool
  | _, [] => true
  | b, n :: l => (decide (b + 1 ≤ n) && decide (n ≤ 99999999)) && riseB n l
def mayM (m : Mfs) : Bool := riseB 0 m.segs && (mayN m.gen && ((decide (0 ≤ m.last) && decide (m.last ≤ 200)) && (decide (1 ≤ m.segs.length) && decide (m.segs.length ≤ 64))))
theorem rise_mem : ∀ {b : Int} {l : List Int}, riseB b l = true → ∀ n ∈ l, b + 1 ≤ n ∧ n ≤ 99999999
  | b, [], _, n, hn => by cases hn
  | b, c :: l, h, n, hn => by
    rw [riseB, Bool.and_eq_true, Bool.and_eq_true, decide_eq_true_eq, decide_eq_true_eq] at h
    rcases List.mem_cons.1 hn with rfl | hn
    · exact h.1
    · have := rise_mem h.2 n hn
      omega
structure May (m : Mfs) : Prop where
  rise : riseB 0 m.segs = true
  gen : mayN m.gen = true
  last0 : 0 ≤ m.last
  last1 : m.last ≤ 200
  len0 : 1 ≤ m.segs.length
  len1 : m.segs.length ≤ 64
theorem mayM_is {m : Mfs} : mayM m = true ↔ May m := by
  unfold mayM
  simp only [Bool.and_eq_true, decide_eq_true_eq]
  exact ⟨fun ⟨a, b, ⟨c, d⟩, e, f⟩ => ⟨a, b, c, d, e, f⟩, fun ⟨a, b, c, d, e, f⟩ => ⟨a, b, ⟨c, d⟩, e, f⟩⟩
theorem May.seg {m : Mfs} (h : May m) : ∀ n ∈ m.segs, 1 ≤ n ∧ n ≤ 99999999 := fun n hn => by have := rise_mem h.rise n hn; omega

def magicM : List Nat := [82, 67, 77, 49]
/-- Numbers of four bytes, one behind the other. -/
def wsB : List Int → List Nat
  | [] => []
  | n :: l => w32 n.toNat ++ wsB l
theorem wsB_len : ∀ l, (wsB l).length = 4 * l.length
  | [] => rfl
  | n :: l => by rw [wsB, List.length_append, wsB_len l, w32_len, List.length_cons]; omega
theorem wsB_byts : ∀ l, Byts (wsB l)
  | [] => fun c hc => by cases hc
  | n :: l => (w32_byts _).app (wsB_byts l)
theorem wsB_app : ∀ l m, wsB (l ++ m) = wsB l ++ wsB m
  | [], m => rfl
  | n :: l, m => by rw [List.cons_append, wsB, wsB, wsB_app l m, List.append_assoc]
/-- All numbers of a manifest. -/
def numsM (m : Mfs) : List Int := [m.gen, m.last, (m.segs.length : Int)] ++ m.segs
def recM (m : Mfs) : List Nat := magicM ++ wsB (numsM m)
def encM (m : Mfs) : List Nat := if mayM m then putB (recM m) else []
theorem recM_len (m : Mfs) : (recM m).length = 16 + 4 * m.segs.length := by
  unfold recM numsM
  rw [List.length_append, wsB_len, List.length_append]
  show 4 + 4 * (3 + m.segs.length) = _
  omega
theorem recM_byts (m : Mfs) : Byts (recM m) := by
  refine Byts.app ?_ (wsB_byts _)
  intro c hc
  simp only [magicM, List.mem_cons, List.not_mem_nil, or_false] at hc
  omega
theorem encM_byts (m : Mfs) : Byts (encM m) := by
  unfold encM
  split
  · exact putB_byts (recM_byts m)
  · intro c hc; cases hc
theorem encM_not {m : Mfs} (h : mayM m = false) : encM m = [] := if_neg (by rw [h]; decide)
theorem encM_may {m : Mfs} (h : mayM m = true) : encM m = frm (recM m) := by
  have h1 := mayM_is.1 h
  have := recM_len m
  have := h1.len1
  unfold encM
  rw [if_pos h]
  exact if_pos ⟨by omega, by omega⟩
theorem encM_len {m : Mfs} (h : mayM m = true) : (encM m).length = 24 + 4 * m.segs.length := by
  rw [encM_may h, frm_len, recM_len]
  omega
theorem encM_le (m : Mfs) : (encM m).length ≤ 280 := by
  cases h : mayM m with
  | false => rw [encM_not h]; exact Nat.zero_le _
  | true => rw [encM_len h]; have := (mayM_is.1 h).len1; omega

/-- The numbers that bytes are, four by four. -/
def leB : List Nat → Nat
  | [] => 0
  | c :: l => c + 256 * leB l
def numsB : List Nat → List Int
  | [] => []
  | [a] => [(leB [a] : Nat)]
  | [a, b] => [(leB [a, b] : Nat)]
  | [a, b, c] => [(leB [a, b, c] : Nat)]
  | a :: b :: c :: d :: t => ((leB [a, b, c, d] : Nat) : Int) :: numsB t
theorem numsB_step {l : List Nat} (h : l ≠ []) : numsB l = ((leB (l.take 4) : Nat) : Int) :: numsB (l.drop 4) := by
  match l, h with
  | [a], _ => rfl
  | [a, b], _ => rfl
  | [a, b, c], _ => rfl
  | a :: b :: c :: d :: t, _ => rfl
theorem leB_four {l : List Nat} (h : 4 ≤ l.length) : leB (l.take 4) = get32 l := by
  obtain ⟨a, b, c, d, t, rfl⟩ := four h
  show a + 256 * (b + 256 * (c + 256 * (d + 256 * 0))) = g4 a b c d
  unfold g4
  omega
theorem numsB_ws : ∀ l : List Int, (∀ n ∈ l, 0 ≤ n ∧ n < 4294967296) → numsB (wsB l) = l
  | [], _ => rfl
  | n :: l, h => by
    have h1 := h n (List.mem_cons_self ..)
    rw [wsB, numsB_step (by intro e; have := congrArg List.length e; rw [List.length_append, w32_len] at this; simp at this), leB_four (by rw [List.length_append, w32_len]; omega), get_w32 (by omega)]
    show ((n.toNat : Nat) : Int) :: numsB (wsB l) = n :: l
    rw [numsB_ws l (fun x hx => h x (List.mem_cons_of_mem _ hx)), Int.toNat_of_nonneg h1.1]
theorem numsM_may {m : Mfs} (h : May m) : ∀ n ∈ numsM m, 0 ≤ n ∧ n < 4294967296 := by
  intro n hn
  have h1 := mayN_is.1 h.gen
  have h2 := h.last0
  have h3 := h.last1
  have h4 := h.len1
  unfold numsM at hn
  rcases List.mem_append.1 hn with hn | hn
  · simp only [List.mem_cons, List.not_mem_nil, or_false] at hn
    omega
  · have := h.seg n hn
    omega

/-- The numbers of a manifest's record; none, if it can't be one. -/
def listB (r : List Nat) : List Int := if r.take 4 = magicM then numsB (r.drop 4) else []
theorem listB_rec {m : Mfs} (h : May m) : listB (recM m) = numsM m := by
  have h1 : (recM m).take 4 = magicM := rfl
  have h2 : (recM m).drop 4 = wsB (numsM m) := rfl
  unfold listB
  rw [if_pos h1, h2, numsB_ws _ (numsM_may h)]
/-- The record at the beginning, if there is one. -/
def firstB (b : List Nat) : List Nat := if standsB b = 1 then recB b else []
/-- The manifest that some numbers would be. -/
def ofNums (l : List Int) : Mfs := ⟨l.getD 0 0, l.getD 1 0, l.drop 3⟩
theorem ofNums_nums (m : Mfs) : ofNums (numsM m) = m := rfl
open Classical in
/-- The manifest whose bytes these are. -/
def decM (b : List Nat) : Option Mfs := if 3 ≤ (listB (firstB b)).length ∧ b = encM (ofNums (listB (firstB b))) then some (ofNums (listB (firstB b))) else none
theorem firstB_enc {m : Mfs} (h : mayM m = true) (t : List Nat) : standsB (encM m ++ t) = 1 ∧ get32 (encM m ++ t) = (recM m).length ∧ firstB (encM m ++ t) = recM m := by
  have h1 := recM_len m
  have h2 := (mayM_is.1 h).len1
  obtain ⟨h3, h4, h5, _⟩ := frm_first (recM m) t (by omega) (by omega)
  rw [encM_may h]
  exact ⟨h3, h4, by unfold firstB; rw [if_pos h3, h5]⟩
theorem decM_enc {m : Mfs} (h : mayM m = true) : decM (encM m) = some m := by
  have h1 := (firstB_enc h []).2.2
  rw [List.append_nil] at h1
  have h2 : listB (firstB (encM m)) = numsM m := by rw [h1, listB_rec (mayM_is.1 h)]
  unfold decM
  rw [h2, ofNums_nums]
  refine if_pos ⟨?_, rfl⟩
  unfold numsM
  rw [List.length_append]
  exact Nat.le_add_right 3 _
theorem decM_inv {b : List Nat} {m : Mfs} (h : decM b = some m) : mayM m = true ∧ encM m = b := by
  unfold decM at h
  split at h
  · next hc =>
    obtain ⟨h1, h2⟩ := hc
    obtain rfl := Option.some.inj h
    refine ⟨?_, h2.symm⟩
    cases hm : mayM (ofNums (listB (firstB b))) with
    | true => rfl
    | false =>
      rw [encM_not hm] at h2
      rw [h2] at h1
      exact absurd h1 (by decide)
  · cases h
theorem decM_iff {b : List Nat} {m : Mfs} : decM b = some m ↔ mayM m = true ∧ encM m = b := ⟨decM_inv, fun ⟨h, e⟩ => by rw [← e]; exact decM_enc h⟩
theorem decM_none {b : List Nat} (h : ∀ m, mayM m = true → encM m ≠ b) : decM b = none := by
  cases hd : decM b with
  | none => rfl
  | some m => exact absurd (decM_inv hd).2 (h m (decM_inv hd).1)

/-- What the reference asks of a record: it is that of a manifest, of these numbers. -/
def wholeB (b : List Nat) : Prop := standsB b = 1 ∧ b.length = 8 + get32 b ∧ 16 ≤ (recB b).length ∧ (recB b).take 4 = magicM ∧ (recB b).length % 4 = 0
theorem ws_nums : ∀ {l : List Nat}, Byts l → l.length % 4 = 0 → wsB (numsB l) = l
  | [], _, _ => rfl
  | [a], _, h => by simp at h
  | [a, b], _, h => by simp at h
  | [a, b, c], _, h => by simp at h
  | a :: b :: c :: d :: t, hb, h => by
    have ht := ws_nums (l := t) (fun x hx => hb x (by simp [hx])) (by simp at h; omega)
    have hw := w32_get (l := a :: b :: c :: d :: t) hb (by simp)
    have hl := leB_four (l := a :: b :: c :: d :: t) (by simp)
    show wsB (((leB [a, b, c, d] : Nat) : Int) :: numsB t) = _
    rw [wsB, ht, Int.toNat_natCast]
    rw [show leB [a, b, c, d] = get32 (a :: b :: c :: d :: t) from hl, hw]
    rfl
theorem recB_byts {b : List Nat} (hb : Byts b) : Byts (recB b) := (hb.drop 8).take _
/-- What the reference's answer is. -/
theorem decM_whole {b : List Nat} (hb : Byts b) (hw : wholeB b) :
    decM b = if ((get32 ((recB b).drop 12) : Nat) : Int) = ((numsB ((recB b).drop 16)).length : Nat) ∧ mayM ⟨(get32 ((recB b).drop 4) : Nat), (get32 ((recB b).drop 8) : Nat), numsB ((recB b).drop 16)⟩ = true then some ⟨(get32 ((recB b).drop 4) : Nat), (get32 ((recB b).drop 8) : Nat), numsB ((recB b).drop 16)⟩ else none := by
  obtain ⟨h1, h2, h3, h4, h5⟩ := hw
  have hr := recB_byts hb
  have hfr := whole_frm hb h1
  rw [← h2, List.take_length] at hfr
  obtain ⟨r, hrr⟩ : ∃ r, recB b = r := ⟨_, rfl⟩
  rw [hrr] at h3 h4 h5 hr hfr ⊢
  have hcut : numsB (r.drop 4) = ((get32 (r.drop 4) : Nat) : Int) :: ((get32 (r.drop 8) : Nat) : Int) :: ((get32 (r.drop 12) : Nat) : Int) :: numsB (r.drop 16) := by
    have hs : ∀ k, k + 4 ≤ r.length → numsB (r.drop k) = ((get32 (r.drop k) : Nat) : Int) :: numsB (r.drop (k + 4)) := fun k hk => by
      have hk2 : 4 ≤ (r.drop k).length := by rw [List.length_drop]; omega
      rw [numsB_step (by intro e; rw [e] at hk2; simp at hk2), leB_four hk2, List.drop_drop]
    rw [hs 4 (by omega), hs 8 (by omega), hs 12 (by omega)]
  have hlist : listB (firstB b) = ((get32 (r.drop 4) : Nat) : Int) :: ((get32 (r.drop 8) : Nat) : Int) :: ((get32 (r.drop 12) : Nat) : Int) :: numsB (r.drop 16) := by
    unfold firstB
    rw [if_pos h1, hrr]
    unfold listB
    rw [if_pos h4, hcut]
  have hof : ofNums (listB (firstB b)) = ⟨(get32 (r.drop 4) : Nat), (get32 (r.drop 8) : Nat), numsB (r.drop 16)⟩ := by rw [hlist]; rfl
  split
  · next hc =>
    refine decM_iff.2 ⟨hc.2, ?_⟩
    rw [encM_may hc.2, ← hfr]
    congr 1
    have hws := ws_nums (l := r.drop 4) (hr.drop 4) (by rw [List.length_drop]; omega)
    rw [hcut] at hws
    unfold recM numsM
    dsimp only
    rw [← hc.1]
    show magicM ++ wsB (((get32 (r.drop 4) : Nat) : Int) :: ((get32 (r.drop 8) : Nat) : Int) :: ((get32 (r.drop 12) : Nat) : Int) :: numsB (r.drop 16)) = r
    rw [hws, ← h4, List.take_append_drop]
  · next hc =>
    refine decM_none (fun m hm he => hc ?_)
    have hd := decM_enc hm
    rw [he] at hd
    have hme : ofNums (listB (firstB b)) = m := by
      unfold decM at hd
      split at hd
      · exact Option.some.inj hd
      · cases hd
    rw [hof] at hme
    rw [hme]
    refine ⟨?_, hm⟩
    have hnm : listB (firstB b) = numsM m := by
      have h6 := (firstB_enc hm []).2.2
      rw [List.append_nil, he] at h6
      rw [h6, listB_rec (mayM_is.1 hm)]
    rw [hlist] at hnm
    unfold numsM at hnm
    simp only [List.cons_append, List.nil_append, List.cons.injEq] at hnm
    rw [hnm.2.2.1, hnm.2.2.2]
theorem decM_half {b : List Nat} (h : ¬ wholeB b) : decM b = none := by
  refine decM_none (fun m hm he => h ?_)
  obtain ⟨h1, h2, h3⟩ := firstB_enc hm []
  rw [List.append_nil, he] at h1 h2 h3
  have h4 : recB b = recM m := by unfold firstB at h3; rw [if_pos h1] at h3; exact h3
  have h5 := recM_len m
  refine ⟨h1, ?_, ?_, ?_, ?_⟩
  · rw [h2, ← he, encM_may hm, frm_len]
  · rw [h4]; omega
  · rw [h4]; rfl
  · rw [h4]; omega

/-! ### the newest one -/
theorem list_revF {P : List Fil → Prop} (h0 : P []) (h1 : ∀ l c, P l → P (l ++ [c])) (l : List Fil) : P l := by
  have h : ∀ l : List Fil, P l.reverse := fun l => by
    induction l with
    | nil => exact h0
    | cons c l ih => rw [List.reverse_cons]; exact h1 _ _ ih
  rw [← List.reverse_reverse l]
  exact h _
/-- The manifest of a file, if it is one. -/
def ofFile (f : Fil) : Option Mfs := match decM f.data with
  | none => none
  | some m => if (genB f.name : Int) = m.gen then some m else none
/-- The newest one: the last that is one, files being by rising names. -/
def newB (L : List Fil) : Option Mfs := L.reverse.findSome? ofFile
theorem ofFile_is {f : Fil} {m : Mfs} (h : ofFile f = some m) : mayM m = true ∧ encM m = f.data ∧ f.name = mnameB m.gen := by
  unfold ofFile at h
  split at h
  · cases h
  · next x hx =>
    split at h
    · next hg =>
      obtain rfl := Option.some.inj h
      obtain ⟨h1, h2⟩ := decM_inv hx
      refine ⟨h1, h2, ?_⟩
      have h3 := mayN_is.1 (mayM_is.1 h1).gen
      have h4 := genB_inv (s := f.name) (by omega)
      rw [hg] at h4
      exact h4.2
    · cases h
theorem newB_app (L : List Fil) (f : Fil) : newB (L ++ [f]) = match ofFile f with | some m => some m | none => newB L := by
  unfold newB
  rw [List.reverse_append]
  show List.findSome? ofFile (f :: L.reverse) = _
  rw [List.findSome?_cons]
  cases ofFile f <;> rfl
theorem newB_mem {L : List Fil} {m : Mfs} (h : newB L = some m) : ∃ f ∈ L, ofFile f = some m := by
  unfold newB at h
  obtain ⟨f, hf, hm⟩ := List.exists_of_findSome?_eq_some h
  exact ⟨f, List.mem_reverse.1 hf, hm⟩
/-! ### operations -/
def tmpB : ByteArray := ⟨#[109, 97, 110, 46, 116, 109, 112]⟩
/-- Operations in order, up to the first that fails. -/
def runB : Dsk → List Opn → Int × Dsk
  | d, [] => (0, d)
  | d, o :: l => if (step d o).1 = 0 then runB (step d o).2 l else step d o
def delO (s : ByteArray) : Opn := ⟨6, s, noS, 0, []⟩
def wopsT (m : Mfs) : List Opn := [⟨1, tmpB, noS, 0, []⟩, ⟨2, tmpB, noS, 0, encM m⟩, ⟨4, tmpB, noS, 0, []⟩, ⟨5, tmpB, mnameB m.gen, 0, []⟩]
def wopsB (d : Dsk) (m : Mfs) : List Opn := if (fnd tmpB d.L).isSome then delO tmpB :: wopsT m else wopsT m
/-- Write: the code, the disk. -/
def wrM (d : Dsk) (m : Mfs) : Int × Dsk := if mayM m = false then (80, d) else runB d (wopsB d m)
def orphM (d : Dsk) (m : Mfs) : List ByteArray := (d.L.map Fil.name).filter (fun s => !needM m s)
/-- Clean: the code, the disk. -/
def cleanM (d : Dsk) (m : Mfs) : Int × Dsk := runB d ((orphM d m).map delO)
theorem Few.run : ∀ {l : List Opn} {d : Dsk} {m k s : Nat}, Few d m k → (∀ o ∈ l, ∀ c ∈ o.b, c < 256) → (l.map (fun o => o.b.length)).sum ≤ s → Few (runB d l).2 (m + s) (k + l.length)
  | [], d, m, k, s, h, _, _ => h.mono (by omega) (by simp)
  | o :: l, d, m, k, s, h, hb, hs => by
    rw [List.map_cons, List.sum_cons] at hs
    have h1 : Few (Go.Proofs.YtacfcfbleogioaaGreatDoor.step d o).2 (m + o.b.length) (k + 1) := h.step o (hb o (List.mem_cons_self ..)) (Nat.le_refl _)
    rw [runB, List.length_cons]
    split
    · have h2 := Few.run (s := s - o.b.length) h1 (fun x hx => hb x (List.mem_cons_of_mem _ hx)) (by omega)
      exact h2.mono (by omega) (by omega)
    · exact h1.mono (by omega) (by omega)
theorem wopsT_byts (m : Mfs) : ∀ o ∈ wopsT m, ∀ c ∈ o.b, c < 256 := by
  intro o ho
  simp only [wopsT, List.mem_cons, List.not_mem_nil, or_false] at ho
  rcases ho with rfl | rfl | rfl | rfl
  · exact byts_nil
  · exact encM_byts m
  · exact byts_nil
  · exact byts_nil
theorem Few.write8 {d : Dsk} {m k : Nat} (h : Few d m k) (x : Mfs) : Few (wrM d x).2 (m + 280) (k + 5) := by
  unfold wrM
  split
  · exact h.mono (by omega) (by omega)
  · have hl := encM_le x
    have hs : ((wopsT x).map (fun o => o.b.length)).sum ≤ 280 := by simp [wopsT]; exact hl
    unfold wopsB
    split
    · refine (Few.run h (l := delO tmpB :: wopsT x) ?_ (s := 280) (by simpa [delO] using hs)).mono (Nat.le_refl _) (by simp [wopsT])
      intro o ho
      rcases List.mem_cons.1 ho with rfl | ho
      · exact byts_nil
      · exact wopsT_byts x o ho
    · exact (Few.run h (wopsT_byts x) hs).mono (Nat.le_refl _) (by simp [wopsT])
theorem Few.clean {d : Dsk} {m k : Nat} (h : Few d m k) (x : Mfs) : Few (cleanM d x).2 m (k + d.L.length) := by
  have h1 := Few.run h (l := (orphM d x).map delO) (s := 0) (by
    intro o ho
    obtain ⟨s, _, rfl⟩ := List.mem_map.1 ho
    exact byts_nil) (by
    rw [List.map_map]
    have : ∀ l : List ByteArray, (l.map ((fun o : Opn => o.b.length) ∘ delO)).sum = 0 := fun l => by
      induction l with
      | nil => rfl
      | cons s l ih => rw [List.map_cons, List.sum_cons, ih]; rfl
    rw [this]
    exact Nat.le_refl _)
  refine h1.mono (Nat.le_refl _) ?_
  have h2 : (orphM d x).length ≤ d.L.length := by
    unfold orphM
    refine Nat.le_trans (List.length_filter_le _ _) ?_
    rw [List.length_map]
    exact Nat.le_refl _
  rw [List.length_map]
  omega

end Go.Proofs.YtacfcfbleogioaaGreatDoor

namespace Go.Proofs.YtacfcfbleogioaaGreatDoor

/-! ### operations -/
/-! ### a Write of a greater generation, whatever befalls -/
/-! ### manifests in whatever order -/
/-! ### Clean -/
/-- Is a name among these? -/
def among (l : List ByteArray) (n : ByteArray) : Bool := l.any fun s => decide (s = n)
theorem among_cons (s : ByteArray) (l : List ByteArray) (n : ByteArray) : among (s :: l) n = (decide (s = n) || among l n) := by unfold among; exact List.any_cons
end Go.Proofs.YtacfcfbleogioaaGreatDoor

namespace Go.Proofs.YtacfcfbleogioaaGreatDoor

/-- The newest manifest, or none. -/
def newM (L : List Fil) : Mfs := (newB L).getD ⟨0, 0, []⟩
/-- One file more that is a manifest is of a greater generation. -/
theorem newM_less {A : List Fil} {f : Fil} {m : Mfs} (hs : Srt (A ++ [f])) (hm : ofFile f = some m) : (newM A).gen < m.gen := by
  obtain ⟨m1, _, m3⟩ := ofFile_is hm
  have hg := (mayM_is.1 m1).gen
  have hp := mayN_is.1 hg
  unfold newM
  cases hn : newB A with
  | none => show (0 : Int) < m.gen; omega
  | some y =>
    show y.gen < m.gen
    obtain ⟨g, hgm, hy⟩ := newB_mem hn
    obtain ⟨y1, _, y3⟩ := ofFile_is hy
    have hl : nlt g.name f.name = true := (List.pairwise_append.1 hs).2.2 g hgm f (List.mem_singleton.2 rfl)
    rcases Int.lt_trichotomy y.gen m.gen with h | h | h
    · exact h
    · rw [y3, m3, h, nlt_irrefl] at hl; cases hl
    · have h2 := mname_lt hg (mayM_is.1 y1).gen h
      rw [← y3, ← m3, nlt_asymm hl] at h2
      cases h2
theorem srt_take {L : List Fil} (hs : Srt L) (i : Nat) : Srt (L.take i) := List.Pairwise.sublist (List.take_sublist _ _) hs
/-- A file that is a manifest. -/
theorem newM_take {L : List Fil} (hs : Srt L) {i : Nat} {f : Fil} (hf : L[i]? = some f) {m : Mfs} (hm : ofFile f = some m) : newM (L.take (i + 1)) = m ∧ (newM (L.take i)).gen < m.gen := by
  have ht : L.take (i + 1) = L.take i ++ [f] := by rw [List.take_add_one, hf]; rfl
  have hs2 := srt_take hs (i + 1)
  rw [ht] at hs2 ⊢
  refine ⟨?_, newM_less hs2 hm⟩
  unfold newM
  rw [newB_app, hm]
  rfl
/-- A file that is none. -/
theorem newM_skip {L : List Fil} {i : Nat} {f : Fil} (hf : L[i]? = some f) (hm : ofFile f = none) : newM (L.take (i + 1)) = newM (L.take i) := by
  have ht : L.take (i + 1) = L.take i ++ [f] := by rw [List.take_add_one, hf]; rfl
  unfold newM
  rw [ht, newB_app, hm]
/-- What a file is, as the reference asks. -/
theorem ofFile_some {f : Fil} {m : Mfs} (h1 : decM f.data = some m) (h2 : m.gen = (genB f.name : Int)) : ofFile f = some m := by
  unfold ofFile
  rw [h1]
  exact if_pos h2.symm
theorem ofFile_gen {f : Fil} {m : Mfs} (h1 : decM f.data = some m) (h2 : m.gen ≠ (genB f.name : Int)) : ofFile f = none := by
  unfold ofFile
  rw [h1]
  exact if_neg (fun e => h2 e.symm)
theorem ofFile_none {f : Fil} (h1 : decM f.data = none) : ofFile f = none := by
  unfold ofFile
  rw [h1]
theorem decM_gen {b : List Nat} {m : Mfs} (h : decM b = some m) : 1 ≤ m.gen := (mayN_is.1 (mayM_is.1 (decM_inv h).1).gen).1
theorem newM_may (L : List Fil) : (newB L).isSome = decide (0 < (newM L).gen) := by
  unfold newM
  cases hn : newB L with
  | none => rfl
  | some y =>
    obtain ⟨g, _, hy⟩ := newB_mem hn
    have h1 := mayN_is.1 (mayM_is.1 (ofFile_is hy).1).gen
    show true = decide (0 < y.gen)
    rw [decide_eq_true (by omega)]
theorem newM_segs (L : List Fil) : (newM L).segs.length ≤ 64 := by
  unfold newM
  cases hn : newB L with
  | none => exact Nat.zero_le _
  | some y =>
    obtain ⟨g, _, hy⟩ := newB_mem hn
    exact (mayM_is.1 (ofFile_is hy).1).len1

/-! ### what is needed -/
/-- Among these segments' names. -/
def anyS (l : List Int) (s : ByteArray) : Bool := l.any (fun n => decide (s = nameB n))
def needR (m : Mfs) (s : ByteArray) : Bool := decide (s = mnameB m.gen) || anyS m.segs s
theorem anyS_drop {l : List Int} {i : Nat} {n : Int} (s : ByteArray) (hn : l[i]? = some n) : anyS (l.drop i) s = (decide (s = nameB n) || anyS (l.drop (i + 1)) s) := by
  obtain ⟨h1, rfl⟩ := List.getElem?_eq_some_iff.1 hn
  rw [List.drop_eq_getElem_cons h1]
  rfl
theorem name_take {n : Int} (h : mayN n = true) : (nameB n).data.toList.take 4 = segP := by rw [nameB_list h]; rfl
theorem mname_take {n : Int} (h : mayN n = true) : (mnameB n).data.toList.take 4 = manP := by rw [mnameB_list h]; rfl
theorem need_is {m : Mfs} {s : ByteArray} (hs : 1 ≤ s.size) : needM m s = needR m s := by
  have hne : s ≠ ⟨#[]⟩ := fun e => by rw [e] at hs; exact absurd hs (by decide)
  have hsm : ∀ n, s = nameB n → mayN n = true := fun n e => by
    cases h : mayN n with
    | true => rfl
    | false => rw [nameB_not h] at e; exact absurd e hne
  have hmm : ∀ n, s = mnameB n → mayN n = true := fun n e => by
    cases h : mayN n with
    | true => rfl
    | false => rw [mnameB_not h] at e; exact absurd e hne
  unfold needM needR
  by_cases hp : s.data.toList.take 4 = manP
  · rw [if_pos hp]
    have hg : genB s = numB (asSeg s) := by unfold genB; rw [if_pos hp]
    rw [← hg]
    have hany : anyS m.segs s = false := by
      unfold anyS
      rw [List.any_eq_false]
      intro n _ h
      have h1 := of_decide_eq_true h
      have h2 := name_take (hsm n h1)
      rw [← h1, hp] at h2
      exact absurd h2 (by decide)
    rw [hany, Bool.or_false, Bool.eq_iff_iff, Bool.and_eq_true, decide_eq_true_eq, decide_eq_true_eq, decide_eq_true_eq]
    constructor
    · rintro ⟨h1, h2⟩
      have h3 := (genB_inv (s := s) (by omega)).2
      rw [h2] at h3
      exact h3
    · intro h
      have h1 := hmm _ h
      have h2 := mayN_is.1 h1
      have h3 := genB_name h1
      rw [← h] at h3
      omega
  · rw [if_neg hp]
    have hfst : decide (s = mnameB m.gen) = false := by
      refine decide_eq_false (fun h => hp ?_)
      rw [h]
      exact mname_take (hmm _ h)
    rw [hfst, Bool.false_or, Bool.eq_iff_iff, Bool.and_eq_true, decide_eq_true_eq, decide_eq_true_eq]
    unfold anyS
    rw [List.any_eq_true]
    constructor
    · rintro ⟨h1, h2⟩
      exact ⟨_, h2, decide_eq_true (numB_inv (s := s) (by omega)).2⟩
    · rintro ⟨n, hn, h⟩
      have h1 := of_decide_eq_true h
      have h2 := hsm n h1
      have h3 := mayN_is.1 h2
      have h4 := numB_name h2
      rw [← h1] at h4
      refine ⟨by omega, ?_⟩
      rw [h4, Int.toNat_of_nonneg (by omega)]
      exact hn
theorem name_pos {d : Dsk} (hi : Inv d) {f : Fil} (hf : f ∈ d.L) : 1 ≤ f.name.size := by
  have h := hi.name f hf
  unfold nmd at h
  simp only [Bool.and_eq_true, decide_eq_true_eq] at h
  exact h.1.2
/-- The names that none needs, file by file. -/
def orphL (m : Mfs) (L : List Fil) : List ByteArray := (L.map Fil.name).filter (fun s => !needM m s)
theorem orphL_all (d : Dsk) (m : Mfs) : orphL m d.L = orphM d m := rfl
theorem orphL_take {L : List Fil} {m : Mfs} {i : Nat} {f : Fil} (hf : L[i]? = some f) : orphL m (L.take (i + 1)) = orphL m (L.take i) ++ (if needM m f.name then [] else [f.name]) := by
  unfold orphL
  rw [List.take_add_one, hf, List.map_append, List.filter_append]
  cases h : needM m f.name <;> simp [h]
theorem orphL_len (m : Mfs) (L : List Fil) : (orphL m L).length ≤ L.length := by
  unfold orphL
  refine Nat.le_trans (List.length_filter_le _ _) ?_
  rw [List.length_map]
  exact Nat.le_refl _

end Go.Proofs.YtacfcfbleogioaaGreatDoor
