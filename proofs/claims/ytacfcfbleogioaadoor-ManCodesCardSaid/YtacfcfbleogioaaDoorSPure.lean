/-
  Segments by definition: names, heads, what a segment's bytes are, and what Create, Append and Open make of a disk. Of no program. No condition.
-/
import Derived.Test.YtacfcfbleogioaaDoorPure
import Derived.Test.YtacfcfbleogioaaDoorFPure
import Derived.Lib.ItoaNum
namespace Go.Proofs.YtacfcfbleogioaaDoor

/-- May a number be? -/
def mayN (n : Int) : Bool := decide (1 ≤ n) && decide (n ≤ 99999999)
theorem mayN_is {n : Int} : mayN n = true ↔ 1 ≤ n ∧ n ≤ 99999999 := by unfold mayN; simp
/-- So many digits of a number. -/
def pad : Nat → Nat → List UInt8
  | 0, _ => []
  | k + 1, n => pad k (n / 10) ++ [UInt8.ofNat (48 + n % 10)]
/-- A name's characters, and a name. -/
def nameL (n : Nat) : List UInt8 := [115, 101, 103, 46] ++ pad 8 n
def nameB (n : Int) : ByteArray := if mayN n then ⟨(nameL n.toNat).toArray⟩ else ⟨#[]⟩
/-- A head. -/
def headB (n : Int) : List Nat := if mayN n then [82, 67, 83, 49] ++ w32 n.toNat ++ [0, 0, 0, 0] else []
/-- What a segment's bytes are. -/
def scanB (n : Int) (b : List Nat) : List (List Nat) × Nat × Nat :=
  if mayN n = false ∨ (headB n).take b.length ≠ b.take 12 then ([], 0, 4)
  else if b.length < 12 then ([], 0, 3)
  else ((allB (b.drop 12)).1, 12 + (allB (b.drop 12)).2.1, (allB (b.drop 12)).2.2)

theorem pad_len : ∀ k n, (pad k n).length = k
  | 0, _ => rfl
  | k + 1, n => by rw [pad, List.length_append, pad_len k]; rfl
theorem nameL_len (n : Nat) : (nameL n).length = 12 := by unfold nameL; rw [List.length_append, pad_len]; rfl
theorem nameB_may {n : Int} (h : mayN n = true) : nameB n = ⟨(nameL n.toNat).toArray⟩ := if_pos h
theorem nameB_not {n : Int} (h : mayN n = false) : nameB n = ⟨#[]⟩ := if_neg (by rw [h]; decide)
theorem nameB_size (n : Int) : (nameB n).size ≤ 12 := by
  unfold nameB
  split
  · show (nameL n.toNat).toArray.size ≤ 12
    rw [List.size_toArray, nameL_len]
    exact Nat.le_refl _
  · exact Nat.zero_le _
theorem headB_may {n : Int} (h : mayN n = true) : headB n = [82, 67, 83, 49] ++ w32 n.toNat ++ [0, 0, 0, 0] := if_pos h
theorem headB_not {n : Int} (h : mayN n = false) : headB n = [] := if_neg (by rw [h]; decide)
theorem headB_len {n : Int} (h : mayN n = true) : (headB n).length = 12 := by rw [headB_may h]; rfl
theorem headB_byts (n : Int) : Byts (headB n) := by
  unfold headB
  split
  · refine Byts.app (Byts.app ?_ (w32_byts _)) ?_
    · intro c hc; simp only [List.mem_cons, List.not_mem_nil, or_false] at hc; omega
    · intro c hc; simp only [List.mem_cons, List.not_mem_nil, or_false] at hc; omega
  · intro c hc; cases hc

theorem decDigits_small {n : Nat} (h : n < 10) : Lib.decDigits n = [UInt8.ofNat (48 + n)] := by rw [Lib.decDigits, dif_pos h]
theorem decDigits_more {n : Nat} (h : ¬ n < 10) : Lib.decDigits n = Lib.decDigits (n / 10) ++ [UInt8.ofNat (48 + n % 10)] := by rw [Lib.decDigits, dif_neg h]
theorem decDigits_pos (n : Nat) : 1 ≤ (Lib.decDigits n).length := by
  by_cases h : n < 10
  · rw [decDigits_small h]; simp
  · rw [decDigits_more h, List.length_append]; simp
theorem decDigits_le : ∀ (k n : Nat), n < 10 ^ (k + 1) → (Lib.decDigits n).length ≤ k + 1
  | 0, n, h => by rw [decDigits_small (by omega)]; simp
  | k + 1, n, h => by
    by_cases h1 : n < 10
    · rw [decDigits_small h1]; simp
    · rw [decDigits_more h1, List.length_append]
      have hk : n / 10 < 10 ^ (k + 1) := by rw [Nat.div_lt_iff_lt_mul (by decide)]; rw [Nat.pow_succ] at h; exact h
      have := decDigits_le k (n / 10) hk
      simp
      omega
theorem pad_zero : ∀ k, pad k 0 = List.replicate k 48
  | 0 => rfl
  | k + 1 => by
    rw [pad, Nat.zero_div, pad_zero k, List.replicate_succ']
    rfl
/-- The digits, and zeros ahead of them. -/
theorem pad_is : ∀ (k n : Nat), (Lib.decDigits n).length ≤ k → pad k n = List.replicate (k - (Lib.decDigits n).length) 48 ++ Lib.decDigits n
  | 0, n, h => by have := decDigits_pos n; omega
  | k + 1, n, h => by
    by_cases h1 : n < 10
    · rw [decDigits_small h1, pad, Nat.div_eq_of_lt h1, pad_zero, Nat.mod_eq_of_lt h1]
      rfl
    · rw [decDigits_more h1, List.length_append] at h ⊢
      have ih := pad_is k (n / 10) (by simp at h; omega)
      rw [pad, ih, List.append_assoc]
      congr 2
      simp only [List.length_cons, List.length_nil]
      omega

/-! ### operations -/
def noS : ByteArray := ⟨#[]⟩
def opC (n : Int) : Opn := ⟨1, nameB n, noS, 0, []⟩
def opA (n : Int) (b : List Nat) : Opn := ⟨2, nameB n, noS, 0, b⟩
def opK (n : Int) (k : Nat) : Opn := ⟨3, nameB n, noS, (k : Int), []⟩
def opS (n : Int) : Opn := ⟨4, nameB n, noS, 0, []⟩
def opD (n : Int) : Opn := ⟨6, nameB n, noS, 0, []⟩

/-- What stands behind the good bytes is taken away. -/
def undoB (d : Dsk) (n : Int) (size : Nat) : Int × Dsk := if size = 0 then step d (opD n) else step d (opK n size)
/-- Bytes are laid behind the good ones, and made safe. -/
def laysB (d : Dsk) (n : Int) (b : List Nat) : Int × Dsk := if (step d (opA n b)).1 = 0 then step (step d (opA n b)).2 (opS n) else step d (opA n b)
/-- .. or that is undone: the code, whether it is sick, the disk. -/
def writeB (d : Dsk) (n : Int) (size : Nat) (b : List Nat) : Int × Bool × Dsk :=
  if (laysB d n b).1 = 0 then (0, false, (laysB d n b).2)
  else ((laysB d n b).1, decide ((undoB (laysB d n b).2 n size).1 ≠ 0), (undoB (laysB d n b).2 n size).2)
theorem writeB_ok {d : Dsk} {n : Int} {z : Nat} {b : List Nat} (h : (writeB d n z b).1 = 0) : (writeB d n z b).2.1 = false := by
  unfold writeB at h ⊢
  split
  · rfl
  · next h0 => rw [if_neg h0] at h; exact absurd h h0
/-- Create: the code, the disk. -/
def createB (d : Dsk) (n : Int) : Int × Dsk :=
  if mayN n = false then (80, d)
  else if (step d (opC n)).1 ≠ 0 then step d (opC n)
  else ((writeB (step d (opC n)).2 n 0 (headB n)).1, (writeB (step d (opC n)).2 n 0 (headB n)).2.2)
/-- An open segment: its good bytes, whether it is sick. -/
structure Sg where
  size : Nat
  sick : Bool
/-- May these be appended? -/
def okL (L : List (List Nat)) : Bool := decide (L ≠ []) && L.all (fun r => decide (1 ≤ r.length) && decide (r.length ≤ 1048576))
/-- Append: the code, the segment, the disk. -/
def appendB (d : Dsk) (n : Int) (g : Sg) (L : List (List Nat)) : Int × Sg × Dsk :=
  if g.sick then (51, g, d)
  else if okL L = false then (80, g, d)
  else ((writeB d n g.size (frs L)).1, ⟨if (writeB d n g.size (frs L)).1 = 0 then g.size + (frs L).length else g.size, (writeB d n g.size (frs L)).2.1⟩, (writeB d n g.size (frs L)).2.2)
/-- What Open does of what stands behind the good bytes. -/
def beginB (d : Dsk) (n : Int) (good what : Nat) : Int × Dsk :=
  if what = 2 then step d (opS n)
  else if what = 3 ∧ 0 < good then (if (step d (opK n good)).1 = 0 then step (step d (opK n good)).2 (opS n) else step d (opK n good))
  else (50, d)
/-- Open of the last one: the code, the good bytes, the records, the disk. -/
def openB (d : Dsk) (n : Int) : Int × Nat × List (List Nat) × Dsk :=
  match fnd (nameB n) d.L with
  | none => (42, 0, [], d)
  | some f =>
    if (beginB d n (scanB n f.data).2.1 (scanB n f.data).2.2).1 = 0 then (0, (scanB n f.data).2.1, (scanB n f.data).1, (beginB d n (scanB n f.data).2.1 (scanB n f.data).2.2).2)
    else ((beginB d n (scanB n f.data).2.1 (scanB n f.data).2.2).1, 0, [], (beginB d n (scanB n f.data).2.1 (scanB n f.data).2.2).2)

theorem allF_state : ∀ (f : Nat) (b : List Nat), b.length ≤ f → (allF f b).2.2 = 2 ∨ (allF f b).2.2 = 3 ∨ (allF f b).2.2 = 4
  | 0, b, h => by
    have hb : b = [] := List.length_eq_zero_iff.1 (by omega)
    subst hb
    exact .inl rfl
  | f + 1, b, h => by
    unfold allF
    by_cases hs : standsB b = 1
    · rw [if_pos hs]
      have hw := fwhole hs
      exact allF_state f _ (by rw [List.length_drop]; omega)
    · rw [if_neg hs]
      rcases stands_any b with h1 | h1
      · exact absurd h1 hs
      · exact h1
theorem allB_state (b : List Nat) : (allB b).2.2 = 2 ∨ (allB b).2.2 = 3 ∨ (allB b).2.2 = 4 := allF_state _ b (Nat.le_refl _)
theorem scanB_state (n : Int) (b : List Nat) : (scanB n b).2.2 = 2 ∨ (scanB n b).2.2 = 3 ∨ (scanB n b).2.2 = 4 := by
  unfold scanB
  split
  · exact .inr (.inr rfl)
  · split
    · exact .inr (.inl rfl)
    · exact allB_state _
theorem allF_good : ∀ (f : Nat) (b : List Nat), b.length ≤ f → (allF f b).2.1 ≤ b.length
  | 0, b, h => Nat.zero_le _
  | f + 1, b, h => by
    unfold allF
    by_cases hs : standsB b = 1
    · rw [if_pos hs]
      have hw := fwhole hs
      have := allF_good f (b.drop (8 + get32 b)) (by rw [List.length_drop]; omega)
      rw [List.length_drop] at this
      simp only
      omega
    · rw [if_neg hs]; exact Nat.zero_le _
theorem scanB_good (n : Int) (b : List Nat) : (scanB n b).2.1 ≤ b.length := by
  unfold scanB
  split
  · exact Nat.zero_le _
  · split
    · exact Nat.zero_le _
    · have := allF_good _ (b.drop 12) (Nat.le_refl _)
      rw [List.length_drop] at this
      show 12 + (allF (b.drop 12).length (b.drop 12)).2.1 ≤ _
      rw [List.length_drop]
      omega

end Go.Proofs.YtacfcfbleogioaaDoor
