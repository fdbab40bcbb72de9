/-
  The arithmetic of the sums: numbers of 32 bits that are divided by 2 and turned; what follows of the bits that are turned in a row of bytes. Of no program. No condition.
  Frames by definition: a number's four bytes, what stands at the beginning of bytes, the record there, all records. Of no program. No condition.
  Segments by definition: names, heads, what a segment's bytes are, and what Create, Append and Open make of a disk. Of no program. No condition.
  How few bytes and operations a disk has behind Create, Append and Open of a segment; that it is a disk. Of no program. No condition.
-/
import Derived.Test.YtacfcfbleogioaaGreatDoorPure
import Derived.Lib.ItoaNum
namespace Go.Proofs.YtacfcfbleogioaaGreatDoor

/-- What an odd number is turned by. -/
def poly : BitVec 32 := 0xEDB88320#32

/-- A number divided by 2, and turned if it was odd. -/
def hb (x : BitVec 32) : BitVec 32 := (x >>> 1) ^^^ (if x.getLsbD 0 then poly else 0#32)

/-- So many times. -/
def hbs : Nat → BitVec 32 → BitVec 32
  | 0, x => x
  | n + 1, x => hbs n (hb x)

/-- A byte more. -/
def stepB (x : BitVec 32) (c : Nat) : BitVec 32 := hbs 8 (x ^^^ BitVec.ofNat 32 c)

/-- The number behind bytes. -/
def reg (x : BitVec 32) : List Nat → BitVec 32
  | [] => x
  | c :: l => reg (stepB x c) l

def ones : BitVec 32 := 0xFFFFFFFF#32

/-- A sum that goes on; the sum of bytes. -/
def onB (s : BitVec 32) (l : List Nat) : BitVec 32 := ones ^^^ reg (ones ^^^ s) l
def sumB (l : List Nat) : BitVec 32 := onB 0#32 l

theorem xor_self_mid (a b c : BitVec 32) : a ^^^ b = (a ^^^ c) ^^^ (b ^^^ c) := by
  apply BitVec.eq_of_getLsbD_eq
  intro i hi
  simp only [BitVec.getLsbD_xor]
  cases a.getLsbD i <;> cases b.getLsbD i <;> cases c.getLsbD i <;> rfl

theorem hb_xor (x y : BitVec 32) : hb (x ^^^ y) = hb x ^^^ hb y := by
  apply BitVec.eq_of_getLsbD_eq
  intro i hi
  unfold hb
  simp only [BitVec.getLsbD_xor, BitVec.getLsbD_ushiftRight]
  cases x.getLsbD 0 <;> cases y.getLsbD 0 <;> cases x.getLsbD (1 + i) <;> cases y.getLsbD (1 + i) <;> simp

theorem hb_zero : hb 0#32 = 0#32 := by decide
theorem hbs_xor : ∀ (n : Nat) (x y : BitVec 32), hbs n (x ^^^ y) = hbs n x ^^^ hbs n y
  | 0, _, _ => rfl
  | n + 1, x, y => by rw [hbs, hbs, hbs, hb_xor, hbs_xor n]
theorem hbs_zero : ∀ n : Nat, hbs n 0#32 = 0#32
  | 0 => rfl
  | n + 1 => by rw [hbs, hb_zero, hbs_zero n]
theorem hbs_add : ∀ (m n : Nat) (x : BitVec 32), hbs (m + n) x = hbs n (hbs m x)
  | 0, n, x => by rw [Nat.zero_add]; rfl
  | m + 1, n, x => by rw [show m + 1 + n = (m + n) + 1 by omega, hbs, hbs, hbs_add m n]

theorem poly_top : poly.getLsbD 31 = true := by decide
theorem hb_ne {x : BitVec 32} (h : hb x = 0#32) : x = 0#32 := by
  have h31 := congrArg (·.getLsbD 31) h
  unfold hb at h31
  simp only [BitVec.getLsbD_xor, BitVec.getLsbD_ushiftRight, BitVec.getLsbD_zero] at h31
  rw [BitVec.getLsbD_of_ge x (1 + 31) (by omega), Bool.false_xor] at h31
  cases hx : x.getLsbD 0 with
  | true => rw [hx, if_pos rfl, poly_top] at h31; exact absurd h31 (by decide)
  | false =>
    apply BitVec.eq_of_getLsbD_eq
    intro i hi
    rw [BitVec.getLsbD_zero]
    cases i with
    | zero => exact hx
    | succ i =>
      have h1 := congrArg (·.getLsbD i) h
      unfold hb at h1
      rw [hx] at h1
      simp only [BitVec.getLsbD_xor, BitVec.getLsbD_ushiftRight, BitVec.getLsbD_zero] at h1
      rw [Nat.add_comm]
      simpa using h1
theorem hbs_ne : ∀ (n : Nat) {x : BitVec 32}, hbs n x = 0#32 → x = 0#32
  | 0, _, h => h
  | n + 1, _, h => hb_ne (hbs_ne n h)

/-- A number of which the least bits are clear is divided alone. -/
theorem hbs_low : ∀ (n : Nat) (x : BitVec 32), (∀ i, i < n → x.getLsbD i = false) → hbs n x = x >>> n
  | 0, x, _ => by rw [hbs, BitVec.ushiftRight_zero]
  | n + 1, x, h => by
    have e : hb x = x >>> 1 := by
      unfold hb
      rw [h 0 (by omega), if_neg (by decide), BitVec.xor_zero]
    rw [hbs, e, hbs_low n _ (fun i hi => by rw [BitVec.getLsbD_ushiftRight]; exact h (1 + i) (by omega)), Nat.add_comm n 1, BitVec.shiftRight_add]

theorem low_bits : ∀ i : Fin 32, (255#32).getLsbD i.val = decide (i.val < 8) := by decide

/-- A byte's step as the document tells it. -/
theorem step_is (x : BitVec 32) (c : Nat) : (x >>> 8) ^^^ hbs 8 ((x &&& 255#32) ^^^ BitVec.ofNat 32 c) = stepB x c := by
  have hx : x = (x &&& 255#32) ^^^ ((x >>> 8) <<< 8) := by
    apply BitVec.eq_of_getLsbD_eq
    intro i hi
    rw [BitVec.getLsbD_xor, BitVec.getLsbD_and, low_bits ⟨i, hi⟩, BitVec.getLsbD_shiftLeft, BitVec.getLsbD_ushiftRight]
    by_cases h8 : i < 8
    · simp [h8]
    · simp only [h8, hi, decide_true, decide_false, Bool.and_false, Bool.not_false, Bool.true_and, Bool.false_xor]
      rw [show 8 + (i - 8) = i by omega]
  have hl : hbs 8 ((x >>> 8) <<< 8) = x >>> 8 := by
    rw [hbs_low 8 _ (fun i hi => by rw [BitVec.getLsbD_shiftLeft]; simp [hi])]
    apply BitVec.eq_of_getLsbD_eq
    intro i hi
    simp only [BitVec.getLsbD_ushiftRight, BitVec.getLsbD_shiftLeft]
    by_cases h : 8 + i < 32
    · simp [h]
    · rw [BitVec.getLsbD_of_ge x (8 + i) (by omega), decide_eq_false h, Bool.false_and, Bool.false_and]
  unfold stepB
  have e : x ^^^ BitVec.ofNat 32 c = ((x &&& 255#32) ^^^ BitVec.ofNat 32 c) ^^^ ((x >>> 8) <<< 8) := by
    rw [BitVec.xor_assoc, BitVec.xor_comm (BitVec.ofNat 32 c), ← BitVec.xor_assoc, ← hx]
  rw [e, hbs_xor 8 _ ((x >>> 8) <<< 8), hl, BitVec.xor_comm]

/-- The reference's bit: what it does of a number and a bit. -/
def refBit (x : BitVec 32) (b : Bool) : BitVec 32 := if x.getLsbD 0 != b then (x >>> 1) ^^^ poly else x >>> 1

/-- A row of k bits of a byte is gone; so many are left. -/
theorem refBit_is (k : Nat) (x : BitVec 32) (c : BitVec 32) : hbs (k + 1) (x ^^^ c) = hbs k (refBit x (c.getLsbD 0) ^^^ (c >>> 1)) := by
  rw [hbs]
  congr 1
  rw [hb_xor]
  unfold hb refBit
  apply BitVec.eq_of_getLsbD_eq
  intro i hi
  cases x.getLsbD 0 <;> cases c.getLsbD 0 <;> simp [BitVec.getLsbD_xor]
  all_goals (cases x.getLsbD (1 + i) <;> cases c.getLsbD (1 + i) <;> cases poly.getLsbD i <;> rfl)

theorem byte_gone {c : Nat} (h : c < 256) : BitVec.ofNat 32 c >>> 8 = 0#32 := by
  apply BitVec.eq_of_toNat_eq
  rw [BitVec.toNat_ushiftRight, BitVec.toNat_ofNat, Nat.shiftRight_eq_div_pow, BitVec.toNat_zero]
  omega

theorem reg_append : ∀ (l m : List Nat) (x : BitVec 32), reg x (l ++ m) = reg (reg x l) m
  | [], _, _ => rfl
  | c :: l, m, x => by rw [List.cons_append, reg, reg, reg_append l m]

theorem on_sum (l m : List Nat) : onB (sumB l) m = sumB (l ++ m) := by
  unfold sumB onB
  rw [reg_append, ← BitVec.xor_assoc, BitVec.xor_self, BitVec.zero_xor]
theorem on_nil (s : BitVec 32) : onB s [] = s := by
  unfold onB
  rw [reg, ← BitVec.xor_assoc, BitVec.xor_self, BitVec.zero_xor]

theorem reg_xor : ∀ (l : List Nat) (x y : BitVec 32), reg (x ^^^ y) l = reg x l ^^^ hbs (8 * l.length) y
  | [], _, _ => rfl
  | c :: l, x, y => by
    have e : stepB (x ^^^ y) c = stepB x c ^^^ hbs 8 y := by
      unfold stepB
      rw [← hbs_xor]
      congr 1
      rw [BitVec.xor_assoc, BitVec.xor_assoc, BitVec.xor_comm y]
    rw [reg, reg, e, reg_xor l, ← hbs_add, List.length_cons, show 8 + 8 * l.length = 8 * (l.length + 1) by omega]

/-- A bit of a byte is turned. -/
def turnAt (l : List Nat) (p : Nat) : List Nat := l.set (p / 8) ((l.getD (p / 8) 0) ^^^ 2 ^ (p % 8))

theorem byte_bit : ∀ r : Fin 8, hbs r.val (BitVec.ofNat 32 (2 ^ r.val)) = 1#32 := by decide
theorem word_bit : ∀ r : Fin 32, hbs r.val (1#32 <<< r.val) = 1#32 := by decide

theorem reg_turn : ∀ (l : List Nat) (p : Nat) (x : BitVec 32), p < 8 * l.length → (∀ c ∈ l, c < 256) → reg x (turnAt l p) = reg x l ^^^ hbs (8 * l.length - p) 1#32
  | [], p, _, h, _ => by simp at h
  | c :: l, p, x, h, hc => by
    rw [List.length_cons] at h
    by_cases hp : p < 8
    · have e0 : p / 8 = 0 := by omega
      have e1 : p % 8 = p := by omega
      unfold turnAt
      rw [e0, e1]
      show reg (stepB x (c ^^^ 2 ^ p)) l = reg (stepB x c) l ^^^ _
      have e2 : stepB x (c ^^^ 2 ^ p) = stepB x c ^^^ hbs (8 - p) 1#32 := by
        unfold stepB
        have e3 : BitVec.ofNat 32 (c ^^^ 2 ^ p) = BitVec.ofNat 32 c ^^^ BitVec.ofNat 32 (2 ^ p) := BitVec.ofNat_xor
        rw [e3, ← BitVec.xor_assoc, hbs_xor, ← byte_bit ⟨p, hp⟩, ← hbs_add]
        show _ = _ ^^^ hbs (p + (8 - p)) _
        rw [show p + (8 - p) = 8 by omega]
      rw [e2, reg_xor, ← hbs_add, List.length_cons, show 8 - p + 8 * l.length = 8 * (l.length + 1) - p by omega]
    · have e0 : p / 8 = (p - 8) / 8 + 1 := by omega
      have e1 : p % 8 = (p - 8) % 8 := by omega
      have e : turnAt (c :: l) p = c :: turnAt l (p - 8) := by
        unfold turnAt
        rw [e0, e1]
        rfl
      rw [e, reg, reg, reg_turn l (p - 8) _ (by omega) (fun d hd => hc d (List.mem_cons_of_mem _ hd)), List.length_cons, show 8 * l.length - (p - 8) = 8 * (l.length + 1) - p by omega]

/-- What bytes are behind some turned bits, from a place on. -/
structure Turned (b : List Nat) (at' i : Nat) (l : List Nat) (some' : Bool) : Prop where
  long : l.length = b.length
  byte : ∀ c ∈ l, c < 256
  far : ∃ W : BitVec 32, (∀ k, i ≤ k → W.getLsbD k = false) ∧ (some' = true → W ≠ 0#32) ∧ ∀ x, reg x l = reg x b ^^^ hbs (8 * b.length - at') W

theorem Turned.start {b : List Nat} (h : ∀ c ∈ b, c < 256) (at' : Nat) : Turned b at' 0 b false :=
  ⟨rfl, h, 0#32, fun _ _ => BitVec.getLsbD_zero, ⟨(fun e => absurd e (by decide)), fun x => by rw [hbs_zero, BitVec.xor_zero]⟩⟩

theorem Turned.keep {b l : List Nat} {at' i : Nat} {s : Bool} (h : Turned b at' i l s) : Turned b at' (i + 1) l s := by
  obtain ⟨h1, h2, W, h3, h4, h5⟩ := h
  exact ⟨h1, h2, W, fun k hk => h3 k (by omega), h4, h5⟩

theorem turned_byte {c p : Nat} (h : c < 256) : c ^^^ 2 ^ (p % 8) < 256 := by
  have : (2 : Nat) ^ (p % 8) < 2 ^ 8 := Nat.pow_lt_pow_right (by decide) (by omega)
  exact Nat.xor_lt_two_pow (n := 8) h this

theorem Turned.turn {b l : List Nat} {at' i : Nat} {s : Bool} (h : Turned b at' i l s) (hi : i < 32) (hat : at' + i < 8 * b.length) : Turned b at' (i + 1) (turnAt l (at' + i)) true := by
  obtain ⟨h1, h2, W, h3, _, h5⟩ := h
  have hbit : ∀ k, (1#32 <<< i).getLsbD k = decide (k = i) := by
    intro k
    rw [BitVec.getLsbD_shiftLeft]
    by_cases hk : k = i
    · subst hk; simp [hi]
    · by_cases hlt : k < i
      · simp [hlt, hk]
      · rw [BitVec.getLsbD_one]
        simp [hk, hlt]
        omega
  refine ⟨by rw [turnAt, List.length_set]; exact h1, ?_, W ^^^ (1#32 <<< i), ?_, ?_, ?_⟩
  · intro c hc
    rcases List.mem_or_eq_of_mem_set hc with hc | rfl
    · exact h2 c hc
    · refine turned_byte ?_
      rw [List.getD_eq_getElem?_getD]
      cases hq : l[(at' + i) / 8]? with
      | none => simp
      | some z => exact h2 z (List.mem_of_getElem? hq)
  · intro k hk
    rw [BitVec.getLsbD_xor, h3 k (by omega), hbit, decide_eq_false (by omega)]
    rfl
  · intro _ h0
    have := congrArg (·.getLsbD i) h0
    simp only [BitVec.getLsbD_xor, hbit, BitVec.getLsbD_zero] at this
    rw [h3 i (Nat.le_refl _)] at this
    simp at this
  · intro x
    rw [reg_turn l _ x (by omega) h2, h5, h1, BitVec.xor_assoc, hbs_xor]
    congr 2
    rw [show 8 * b.length - at' = i + (8 * b.length - (at' + i)) by omega, hbs_add, word_bit ⟨i, hi⟩]

theorem Turned.sums {b l : List Nat} {at' i : Nat} (h : Turned b at' i l true) : sumB l ≠ sumB b := by
  obtain ⟨_, _, W, _, h4, h5⟩ := h
  intro he
  unfold sumB onB at he
  rw [h5] at he
  have e : hbs (8 * b.length - at') W = 0#32 := by
    have h6 := congrArg (fun z => (ones ^^^ reg (ones ^^^ 0#32) b) ^^^ z) he
    simp only [BitVec.xor_self] at h6
    rw [← BitVec.xor_assoc ones, ← BitVec.xor_assoc, BitVec.xor_self, BitVec.zero_xor] at h6
    exact h6
  exact h4 rfl (hbs_ne _ e)

/-- Sums that go on, over turned bytes. -/
theorem Turned.ons {b l : List Nat} {at' i : Nat} (h : Turned b at' i l true) (s : BitVec 32) : onB s l ≠ onB s b := by
  obtain ⟨_, _, W, _, h4, h5⟩ := h
  intro he
  unfold onB at he
  rw [h5] at he
  have e : hbs (8 * b.length - at') W = 0#32 := by
    have h6 := congrArg (fun z => (ones ^^^ reg (ones ^^^ s) b) ^^^ z) he
    simp only [BitVec.xor_self] at h6
    rw [← BitVec.xor_assoc ones, ← BitVec.xor_assoc, BitVec.xor_self, BitVec.zero_xor] at h6
    exact h6
  exact h4 rfl (hbs_ne _ e)

theorem sum_digits : sumB [49, 50, 51, 52, 53, 54, 55, 56, 57] = 0xcbf43926#32 := by decide +kernel
theorem sum_nil : sumB [] = 0#32 := by decide

end Go.Proofs.YtacfcfbleogioaaGreatDoor

namespace Go.Proofs.YtacfcfbleogioaaGreatDoor

/-- These are bytes. -/
def Byts (l : List Nat) : Prop := ∀ c ∈ l, c < 256
theorem Byts.app {l m : List Nat} (h : Byts l) (k : Byts m) : Byts (l ++ m) := fun c hc => (List.mem_append.1 hc).elim (h c) (k c)
theorem Byts.take {l : List Nat} (h : Byts l) (n : Nat) : Byts (l.take n) := fun c hc => h c (List.mem_of_mem_take hc)
theorem Byts.drop {l : List Nat} (h : Byts l) (n : Nat) : Byts (l.drop n) := fun c hc => h c (List.mem_of_mem_drop hc)

/-- A number's four bytes. -/
def w32 (n : Nat) : List Nat := [n % 256, n / 256 % 256, n / 65536 % 256, n / 16777216 % 256]
/-- The number that four bytes are. -/
def g4 (a b c d : Nat) : Nat := a + 256 * b + 65536 * c + 16777216 * d
def get32 : List Nat → Nat
  | a :: b :: c :: d :: _ => g4 a b c d
  | _ => 0

theorem w32_len (n : Nat) : (w32 n).length = 4 := rfl
theorem w32_byts (n : Nat) : Byts (w32 n) := by
  intro c hc
  unfold w32 at hc
  simp only [List.mem_cons, List.not_mem_nil, or_false] at hc
  rcases hc with rfl | rfl | rfl | rfl <;> omega
theorem get_w32 {n : Nat} (h : n < 4294967296) (t : List Nat) : get32 (w32 n ++ t) = n := by
  show g4 (n % 256) (n / 256 % 256) (n / 65536 % 256) (n / 16777216 % 256) = n
  unfold g4
  omega
theorem four {l : List Nat} (h : 4 ≤ l.length) : ∃ a b c d t, l = a :: b :: c :: d :: t := by
  match l, h with
  | a :: b :: c :: d :: t, _ => exact ⟨a, b, c, d, t, rfl⟩
theorem get32_lt {l : List Nat} (h : Byts l) : get32 l < 4294967296 := by
  unfold get32
  split
  · next a b c d t =>
    have ha := h a (by simp)
    have hb := h b (by simp)
    have hc := h c (by simp)
    have hd := h d (by simp)
    unfold g4
    omega
  · decide
theorem w32_get {l : List Nat} (h : Byts l) (h4 : 4 ≤ l.length) : w32 (get32 l) = l.take 4 := by
  obtain ⟨a, b, c, d, t, rfl⟩ := four h4
  have ha := h a (by simp)
  have hb := h b (by simp)
  have hc := h c (by simp)
  have hd := h d (by simp)
  show w32 (g4 a b c d) = [a, b, c, d]
  unfold w32 g4
  simp only [List.cons.injEq, and_true]
  refine ⟨by omega, by omega, by omega, by omega⟩
theorem get32_take {l : List Nat} {n : Nat} (h4 : 4 ≤ n) : get32 (l.take n) = get32 l := by
  match n, h4 with
  | n + 4, _ =>
    match l with
    | [] => rfl
    | [a] => rfl
    | [a, b] => rfl
    | [a, b, c] => rfl
    | a :: b :: c :: d :: t => rfl
theorem get32_app {l t : List Nat} (h4 : 4 ≤ l.length) : get32 (l ++ t) = get32 l := by
  obtain ⟨a, b, c, d, s, rfl⟩ := four h4
  rfl

/-- A frame's sum, as a number. -/
def sumN (l r : List Nat) : Nat := (onB (sumB l) r).toNat
theorem sumN_lt (l r : List Nat) : sumN l r < 4294967296 := (onB (sumB l) r).isLt
/-- A record's frame. -/
def frm (r : List Nat) : List Nat := w32 r.length ++ (w32 (sumN (w32 r.length) r) ++ r)
theorem frm_len (r : List Nat) : (frm r).length = 8 + r.length := by
  unfold frm
  rw [List.length_append, List.length_append, w32_len, w32_len]
  omega
theorem frm_byts {r : List Nat} (h : Byts r) : Byts (frm r) := (w32_byts _).app ((w32_byts _).app h)
/-- Put. -/
def putB (r : List Nat) : List Nat := if 1 ≤ r.length ∧ r.length ≤ 1048576 then frm r else []
theorem putB_byts {r : List Nat} (h : Byts r) : Byts (putB r) := by
  unfold putB
  split
  · exact frm_byts h
  · intro c hc; cases hc
theorem putB_len (r : List Nat) : (putB r).length ≤ 8 + r.length := by
  unfold putB
  split
  · rw [frm_len]; omega
  · exact Nat.zero_le _

/-- The record at the beginning. -/
def recB (b : List Nat) : List Nat := (b.drop 8).take (get32 b)
/-- What stands at the beginning. -/
def standsB (b : List Nat) : Nat :=
  if b.length = 0 then 2
  else if b.length < 4 then 3
  else if ¬ (1 ≤ get32 b ∧ get32 b ≤ 1048576) then 4
  else if b.length < 8 + get32 b then 3
  else if get32 (b.drop 4) ≠ sumN (b.take 4) (recB b) then 4
  else 1

theorem stands_any (b : List Nat) : standsB b = 1 ∨ standsB b = 2 ∨ standsB b = 3 ∨ standsB b = 4 := by
  unfold standsB
  repeat' split
  all_goals simp
/-- What is known of bytes that begin with a frame. -/
theorem fwhole {b : List Nat} (h : standsB b = 1) : 1 ≤ get32 b ∧ get32 b ≤ 1048576 ∧ 8 + get32 b ≤ b.length ∧ get32 (b.drop 4) = sumN (b.take 4) (recB b) ∧ (recB b).length = get32 b := by
  unfold standsB at h
  split at h
  · cases h
  split at h
  · cases h
  split at h
  · cases h
  split at h
  · cases h
  split at h
  · cases h
  · next h1 h2 h3 h4 h5 =>
    have h3' := Classical.not_not.1 h3
    refine ⟨h3'.1, h3'.2, by omega, Classical.not_not.1 h5, ?_⟩
    unfold recB
    rw [List.length_take, List.length_drop]
    omega
/-- Bytes that begin with a frame are that frame, and what is behind it. -/
theorem whole_frm {b : List Nat} (hb : Byts b) (h : standsB b = 1) : frm (recB b) = b.take (8 + get32 b) := by
  obtain ⟨h1, h2, h3, h4, h5⟩ := fwhole h
  unfold frm
  have e1 : w32 (get32 b) = b.take 4 := w32_get hb (by omega)
  have e2 : w32 (get32 (b.drop 4)) = (b.drop 4).take 4 := w32_get (hb.drop 4) (by rw [List.length_drop]; omega)
  rw [h5, e1, ← h4, e2]
  unfold recB
  rw [show 8 + get32 b = 4 + (4 + get32 b) by omega, List.take_add, List.take_add, List.drop_drop]
theorem frm_first (r t : List Nat) (hr : 1 ≤ r.length) (hr2 : r.length ≤ 1048576) : standsB (frm r ++ t) = 1 ∧ get32 (frm r ++ t) = r.length ∧ recB (frm r ++ t) = r ∧ (frm r ++ t).drop (8 + r.length) = t := by
  have hg : get32 (frm r ++ t) = r.length := by
    unfold frm
    rw [List.append_assoc]
    exact get_w32 (by omega) _
  have hl : (frm r ++ t).length = 8 + r.length + t.length := by rw [List.length_append, frm_len]
  have hrec : recB (frm r ++ t) = r := by
    unfold recB
    rw [hg]
    unfold frm
    show List.take r.length (r ++ t) = r
    exact List.take_left
  have htk : (frm r ++ t).take 4 = w32 r.length := rfl
  have hdr : get32 ((frm r ++ t).drop 4) = sumN (w32 r.length) r := by
    show get32 (w32 (sumN (w32 r.length) r) ++ r ++ t) = _
    rw [List.append_assoc]
    exact get_w32 (sumN_lt _ _) _
  refine ⟨?_, hg, hrec, ?_⟩
  · unfold standsB
    rw [if_neg (by omega), if_neg (by omega), if_neg (by rw [hg]; omega), if_neg (by rw [hg]; omega), if_neg (by rw [hdr, hrec, htk]; exact fun h => h rfl)]
  · exact List.drop_left' (frm_len r)
/-- A frame of which bytes are missing at the end. -/
theorem frm_torn (r t : List Nat) (hr : 1 ≤ r.length) (hr2 : r.length ≤ 1048576) (n : Nat) (h0 : 0 < n) (h1 : n < 8 + r.length) : standsB ((frm r ++ t).take n) = 3 := by
  have hl : ((frm r ++ t).take n).length = n := by rw [List.length_take, List.length_append, frm_len]; omega
  unfold standsB
  rw [hl, if_neg (by omega)]
  by_cases h4 : n < 4
  · rw [if_pos h4]
  · have hg : get32 ((frm r ++ t).take n) = r.length := by
      rw [get32_take (by omega)]
      exact (frm_first r t hr hr2).2.1
    rw [if_neg h4, hg, if_neg (by omega), if_pos h1]

/-- All records, so many at most. -/
def allF : Nat → List Nat → List (List Nat) × Nat × Nat
  | 0, b => ([], 0, standsB b)
  | f + 1, b => if standsB b = 1 then (recB b :: (allF f (b.drop (8 + get32 b))).1, 8 + get32 b + (allF f (b.drop (8 + get32 b))).2.1, (allF f (b.drop (8 + get32 b))).2.2) else ([], 0, standsB b)
def allB (b : List Nat) : List (List Nat) × Nat × Nat := allF b.length b
theorem allF_more : ∀ (f g : Nat) (b : List Nat), b.length ≤ f → b.length ≤ g → allF f b = allF g b
  | 0, 0, _, _, _ => rfl
  | 0, g + 1, b, h, _ => by
    have hb : b = [] := List.length_eq_zero_iff.1 (by omega)
    subst hb
    rfl
  | f + 1, 0, b, _, h => by
    have hb : b = [] := List.length_eq_zero_iff.1 (by omega)
    subst hb
    rfl
  | f + 1, g + 1, b, hf, hg => by
    unfold allF
    by_cases hs : standsB b = 1
    · have hw := fwhole hs
      rw [if_pos hs, if_pos hs, allF_more f g _ (by rw [List.length_drop]; omega) (by rw [List.length_drop]; omega)]
    · rw [if_neg hs, if_neg hs]
theorem allB_whole {b : List Nat} (h : standsB b = 1) : allB b = (recB b :: (allB (b.drop (8 + get32 b))).1, 8 + get32 b + (allB (b.drop (8 + get32 b))).2.1, (allB (b.drop (8 + get32 b))).2.2) := by
  have hw := fwhole h
  unfold allB
  obtain ⟨n, hn⟩ : ∃ n, b.length = n + 1 := ⟨b.length - 1, by omega⟩
  rw [hn]
  conv => lhs; unfold allF
  rw [if_pos h, allF_more n (b.drop (8 + get32 b)).length _ (by rw [List.length_drop]; omega) (Nat.le_refl _)]
theorem allB_else {b : List Nat} (h : standsB b ≠ 1) : allB b = ([], 0, standsB b) := by
  unfold allB allF
  split
  · rfl
  · rw [if_neg h]
theorem allB_nil : allB [] = ([], 0, 2) := rfl
theorem allB_frm (r t : List Nat) (hr : 1 ≤ r.length) (hr2 : r.length ≤ 1048576) : allB (frm r ++ t) = (r :: (allB t).1, 8 + r.length + (allB t).2.1, (allB t).2.2) := by
  obtain ⟨h1, h2, h3, h4⟩ := frm_first r t hr hr2
  rw [allB_whole h1, h2, h3, h4]

/-- Frames one behind the other. -/
def frs : List (List Nat) → List Nat
  | [] => []
  | r :: l => putB r ++ frs l
/-- Those that are no empty ones. -/
def full (l : List (List Nat)) : List (List Nat) := l.filter fun r => decide (0 < r.length)
def Small (l : List (List Nat)) : Prop := ∀ r ∈ l, r.length ≤ 1048576
theorem frs_app (l m : List (List Nat)) : frs (l ++ m) = frs l ++ frs m := by
  induction l with
  | nil => rfl
  | cons r l ih => rw [List.cons_append, frs, frs, ih, List.append_assoc]
theorem full_app (l m : List (List Nat)) : full (l ++ m) = full l ++ full m := List.filter_append ..
/-- Frames, and bytes behind: what is read is what they were, and what is read of the bytes. -/
theorem all_frs : ∀ (l : List (List Nat)) (t : List Nat), Small l → allB (frs l ++ t) = (full l ++ (allB t).1, (frs l).length + (allB t).2.1, (allB t).2.2)
  | [], t, _ => by simp [frs, full]
  | r :: l, t, h => by
    have ih := all_frs l t (fun x hx => h x (List.mem_cons_of_mem _ hx))
    have hr := h r (List.mem_cons_self ..)
    by_cases h0 : 1 ≤ r.length
    · have hp : putB r = frm r := by unfold putB; rw [if_pos ⟨h0, hr⟩]
      have hf : full (r :: l) = r :: full l := by
        unfold full
        rw [List.filter_cons, if_pos (by simp only [decide_eq_true_eq]; omega)]
      rw [frs, hp, List.append_assoc, allB_frm _ _ h0 hr, ih, hf, List.length_append, frm_len]
      simp only [List.cons_append, Nat.add_assoc]
    · have hp : putB r = [] := by unfold putB; rw [if_neg (by omega)]
      have hf : full (r :: l) = full l := by
        unfold full
        rw [List.filter_cons, if_neg (by simp only [decide_eq_true_eq]; omega)]
      rw [frs, hp, List.nil_append, ih, hf]
theorem frs_byts : ∀ {l : List (List Nat)}, (∀ r ∈ l, Byts r) → Byts (frs l)
  | [], _ => fun c hc => by cases hc
  | r :: l, h => by
    rw [frs]
    exact (putB_byts (h r (List.mem_cons_self ..))).app (frs_byts (fun x hx => h x (List.mem_cons_of_mem _ hx)))
/-- How many bytes some rows have together. -/
def tot (l : List (List Nat)) : Nat := (l.map List.length).sum
theorem tot_nil : tot [] = 0 := rfl
theorem tot_cons (r : List Nat) (l : List (List Nat)) : tot (r :: l) = r.length + tot l := by simp [tot]
theorem tot_mem : ∀ {l : List (List Nat)} {r : List Nat}, r ∈ l → r.length ≤ tot l
  | x :: l, r, h => by
    rw [tot_cons]
    rcases List.mem_cons.1 h with rfl | h
    · omega
    · have := tot_mem h; omega
theorem frs_len : ∀ l : List (List Nat), (frs l).length ≤ 8 * l.length + tot l
  | [] => Nat.zero_le _
  | r :: l => by
    have := frs_len l
    have := putB_len r
    rw [frs, List.length_append, tot_cons, List.length_cons]
    omega

end Go.Proofs.YtacfcfbleogioaaGreatDoor

namespace Go.Proofs.YtacfcfbleogioaaGreatDoor

/-- May a number be? -/
def mayN (n : Int) : Bool := decide (1 ≤ n) && decide (n ≤ 99999999)
theorem mayN_is {n : Int} : mayN n = true ↔ 1 ≤ n ∧ n ≤ 99999999 := by unfold mayN; simp
/-- So many digits of a number. -/
def pad : Nat → Nat → List UInt8
  | 0, _ => []
  | k + 1, n => pad k (n / 10) ++ [UInt8.ofNat (48 + n % 10)]
/-- A name's characters, and a name. -/
def nameL (n : Nat) : List UInt8 := [115, 101, 103, 46] ++ pad 8 n
def nameB (n : Int) : ByteArray := if mayN n then ⟨(nameL n.toNat).toArray⟩ else ⟨#[]⟩
/-- A head. -/
def headB (n : Int) : List Nat := if mayN n then [82, 67, 83, 49] ++ w32 n.toNat ++ [0, 0, 0, 0] else []
/-- What a segment's bytes are. -/
def scanB (n : Int) (b : List Nat) : List (List Nat) × Nat × Nat :=
  if mayN n = false ∨ (headB n).take b.length ≠ b.take 12 then ([], 0, 4)
  else if b.length < 12 then ([], 0, 3)
  else ((allB (b.drop 12)).1, 12 + (allB (b.drop 12)).2.1, (allB (b.drop 12)).2.2)

theorem pad_len : ∀ k n, (pad k n).length = k
  | 0, _ => rfl
  | k + 1, n => by rw [pad, List.length_append, pad_len k]; rfl
theorem nameL_len (n : Nat) : (nameL n).length = 12 := by unfold nameL; rw [List.length_append, pad_len]; rfl
theorem nameB_may {n : Int} (h : mayN n = true) : nameB n = ⟨(nameL n.toNat).toArray⟩ := if_pos h
theorem nameB_not {n : Int} (h : mayN n = false) : nameB n = ⟨#[]⟩ := if_neg (by rw [h]; decide)
theorem nameB_size (n : Int) : (nameB n).size ≤ 12 := by
  unfold nameB
  split
  · show (nameL n.toNat).toArray.size ≤ 12
    rw [List.size_toArray, nameL_len]
    exact Nat.le_refl _
  · exact Nat.zero_le _
theorem headB_may {n : Int} (h : mayN n = true) : headB n = [82, 67, 83, 49] ++ w32 n.toNat ++ [0, 0, 0, 0] := if_pos h
theorem headB_not {n : Int} (h : mayN n = false) : headB n = [] := if_neg (by rw [h]; decide)
theorem headB_len {n : Int} (h : mayN n = true) : (headB n).length = 12 := by rw [headB_may h]; rfl
theorem headB_byts (n : Int) : Byts (headB n) := by
  unfold headB
  split
  · refine Byts.app (Byts.app ?_ (w32_byts _)) ?_
    · intro c hc; simp only [List.mem_cons, List.not_mem_nil, or_false] at hc; omega
    · intro c hc; simp only [List.mem_cons, List.not_mem_nil, or_false] at hc; omega
  · intro c hc; cases hc

theorem decDigits_small {n : Nat} (h : n < 10) : Lib.decDigits n = [UInt8.ofNat (48 + n)] := by rw [Lib.decDigits, dif_pos h]
theorem decDigits_more {n : Nat} (h : ¬ n < 10) : Lib.decDigits n = Lib.decDigits (n / 10) ++ [UInt8.ofNat (48 + n % 10)] := by rw [Lib.decDigits, dif_neg h]
theorem decDigits_pos (n : Nat) : 1 ≤ (Lib.decDigits n).length := by
  by_cases h : n < 10
  · rw [decDigits_small h]; simp
  · rw [decDigits_more h, List.length_append]; simp
theorem decDigits_le : ∀ (k n : Nat), n < 10 ^ (k + 1) → (Lib.decDigits n).length ≤ k + 1
  | 0, n, h => by rw [decDigits_small (by omega)]; simp
  | k + 1, n, h => by
    by_cases h1 : n < 10
    · rw [decDigits_small h1]; simp
    · rw [decDigits_more h1, List.length_append]
      have hk : n / 10 < 10 ^ (k + 1) := by rw [Nat.div_lt_iff_lt_mul (by decide)]; rw [Nat.pow_succ] at h; exact h
      have := decDigits_le k (n / 10) hk
      simp
      omega
theorem pad_zero : ∀ k, pad k 0 = List.replicate k 48
  | 0 => rfl
  | k + 1 => by
    rw [pad, Nat.zero_div, pad_zero k, List.replicate_succ']
    rfl
/-- The digits, and zeros ahead of them. -/
theorem pad_is : ∀ (k n : Nat), (Lib.decDigits n).length ≤ k → pad k n = List.replicate (k - (Lib.decDigits n).length) 48 ++ Lib.decDigits n
  | 0, n, h => by have := decDigits_pos n; omega
  | k + 1, n, h => by
    by_cases h1 : n < 10
    · rw [decDigits_small h1, pad, Nat.div_eq_of_lt h1, pad_zero, Nat.mod_eq_of_lt h1]
      rfl
    · rw [decDigits_more h1, List.length_append] at h ⊢
      have ih := pad_is k (n / 10) (by simp at h; omega)
      rw [pad, ih, List.append_assoc]
      congr 2
      simp only [List.length_cons, List.length_nil]
      omega

/-! ### operations -/
def noS : ByteArray := ⟨#[]⟩
def opC (n : Int) : Opn := ⟨1, nameB n, noS, 0, []⟩
def opA (n : Int) (b : List Nat) : Opn := ⟨2, nameB n, noS, 0, b⟩
def opK (n : Int) (k : Nat) : Opn := ⟨3, nameB n, noS, (k : Int), []⟩
def opS (n : Int) : Opn := ⟨4, nameB n, noS, 0, []⟩
def opD (n : Int) : Opn := ⟨6, nameB n, noS, 0, []⟩

/-- What stands behind the good bytes is taken away. -/
def undoB (d : Dsk) (n : Int) (size : Nat) : Int × Dsk := if size = 0 then step d (opD n) else step d (opK n size)
/-- Bytes are laid behind the good ones, and made safe. -/
def laysB (d : Dsk) (n : Int) (b : List Nat) : Int × Dsk := if (step d (opA n b)).1 = 0 then step (step d (opA n b)).2 (opS n) else step d (opA n b)
/-- .. or that is undone: the code, whether it is sick, the disk. -/
def writeB (d : Dsk) (n : Int) (size : Nat) (b : List Nat) : Int × Bool × Dsk :=
  if (laysB d n b).1 = 0 then (0, false, (laysB d n b).2)
  else ((laysB d n b).1, decide ((undoB (laysB d n b).2 n size).1 ≠ 0), (undoB (laysB d n b).2 n size).2)
theorem writeB_ok {d : Dsk} {n : Int} {z : Nat} {b : List Nat} (h : (writeB d n z b).1 = 0) : (writeB d n z b).2.1 = false := by
  unfold writeB at h ⊢
  split
  · rfl
  · next h0 => rw [if_neg h0] at h; exact absurd h h0
/-- Create: the code, the disk. -/
def createB (d : Dsk) (n : Int) : Int × Dsk :=
  if mayN n = false then (80, d)
  else if (step d (opC n)).1 ≠ 0 then step d (opC n)
  else ((writeB (step d (opC n)).2 n 0 (headB n)).1, (writeB (step d (opC n)).2 n 0 (headB n)).2.2)
/-- An open segment: its good bytes, whether it is sick. -/
structure Sg where
  size : Nat
  sick : Bool
/-- May these be appended? -/
def okL (L : List (List Nat)) : Bool := decide (L ≠ []) && L.all (fun r => decide (1 ≤ r.length) && decide (r.length ≤ 1048576))
/-- Append: the code, the segment, the disk. -/
def appendB (d : Dsk) (n : Int) (g : Sg) (L : List (List Nat)) : Int × Sg × Dsk :=
  if g.sick then (51, g, d)
  else if okL L = false then (80, g, d)
  else ((writeB d n g.size (frs L)).1, ⟨if (writeB d n g.size (frs L)).1 = 0 then g.size + (frs L).length else g.size, (writeB d n g.size (frs L)).2.1⟩, (writeB d n g.size (frs L)).2.2)
/-- What Open does of what stands behind the good bytes. -/
def beginB (d : Dsk) (n : Int) (good what : Nat) : Int × Dsk :=
  if what = 2 then step d (opS n)
  else if what = 3 ∧ 0 < good then (if (step d (opK n good)).1 = 0 then step (step d (opK n good)).2 (opS n) else step d (opK n good))
  else (50, d)
/-- Open of the last one: the code, the good bytes, the records, the disk. -/
def openB (d : Dsk) (n : Int) : Int × Nat × List (List Nat) × Dsk :=
  match fnd (nameB n) d.L with
  | none => (42, 0, [], d)
  | some f =>
    if (beginB d n (scanB n f.data).2.1 (scanB n f.data).2.2).1 = 0 then (0, (scanB n f.data).2.1, (scanB n f.data).1, (beginB d n (scanB n f.data).2.1 (scanB n f.data).2.2).2)
    else ((beginB d n (scanB n f.data).2.1 (scanB n f.data).2.2).1, 0, [], (beginB d n (scanB n f.data).2.1 (scanB n f.data).2.2).2)

theorem allF_state : ∀ (f : Nat) (b : List Nat), b.length ≤ f → (allF f b).2.2 = 2 ∨ (allF f b).2.2 = 3 ∨ (allF f b).2.2 = 4
  | 0, b, h => by
    have hb : b = [] := List.length_eq_zero_iff.1 (by omega)
    subst hb
    exact .inl rfl
  | f + 1, b, h => by
    unfold allF
    by_cases hs : standsB b = 1
    · rw [if_pos hs]
      have hw := fwhole hs
      exact allF_state f _ (by rw [List.length_drop]; omega)
    · rw [if_neg hs]
      rcases stands_any b with h1 | h1
      · exact absurd h1 hs
      · exact h1
theorem allB_state (b : List Nat) : (allB b).2.2 = 2 ∨ (allB b).2.2 = 3 ∨ (allB b).2.2 = 4 := allF_state _ b (Nat.le_refl _)
theorem scanB_state (n : Int) (b : List Nat) : (scanB n b).2.2 = 2 ∨ (scanB n b).2.2 = 3 ∨ (scanB n b).2.2 = 4 := by
  unfold scanB
  split
  · exact .inr (.inr rfl)
  · split
    · exact .inr (.inl rfl)
    · exact allB_state _
theorem allF_good : ∀ (f : Nat) (b : List Nat), b.length ≤ f → (allF f b).2.1 ≤ b.length
  | 0, b, h => Nat.zero_le _
  | f + 1, b, h => by
    unfold allF
    by_cases hs : standsB b = 1
    · rw [if_pos hs]
      have hw := fwhole hs
      have := allF_good f (b.drop (8 + get32 b)) (by rw [List.length_drop]; omega)
      rw [List.length_drop] at this
      simp only
      omega
    · rw [if_neg hs]; exact Nat.zero_le _
theorem scanB_good (n : Int) (b : List Nat) : (scanB n b).2.1 ≤ b.length := by
  unfold scanB
  split
  · exact Nat.zero_le _
  · split
    · exact Nat.zero_le _
    · have := allF_good _ (b.drop 12) (Nat.le_refl _)
      rw [List.length_drop] at this
      show 12 + (allF (b.drop 12).length (b.drop 12)).2.1 ≤ _
      rw [List.length_drop]
      omega

end Go.Proofs.YtacfcfbleogioaaGreatDoor

namespace Go.Proofs.YtacfcfbleogioaaGreatDoor

theorem used_cutT {n : ByteArray} {h : Fil → Fil} (hh : ∀ f, (h f).data.length ≤ f.data.length) : ∀ L : List Fil, used (upd n h L) ≤ used L
  | [] => Nat.le_refl _
  | f :: L => by
    have ih := used_cutT (n := n) hh L
    unfold upd at ih ⊢
    simp only [used, List.map_cons, List.sum_cons] at ih ⊢
    split
    · have := hh f; omega
    · omega
theorem used_addT {n : ByteArray} {l : List Nat} {L : List Fil} (hs : Srt L) : used (upd n (addB l) L) ≤ used L + l.length := by
  cases hf : fnd n L with
  | none => rw [upd_none _ hf]; omega
  | some f =>
    have := used_upd (h := addB l) hs hf
    simp only [addB, List.length_append] at this
    omega
theorem used_wholeT {d : Dsk} (hi : Inv d) (o : Opn) : used (whole o d.L) ≤ used d.L + o.b.length := by
  unfold whole
  split
  · rw [used_ins]; simp
  · split
    · exact used_addT hi.srt
    · split
      · have := used_cutT (n := o.name) (h := cutB o.n.toNat) (fun f => by simp only [cutB, List.length_take]; omega) d.L
        omega
      · split
        · have := used_cutT (n := o.name) (h := synB) (fun f => Nat.le_refl _) d.L
          omega
        · split
          · unfold ren
            cases hf : fnd o.name d.L with
            | none => dsimp only; omega
            | some f =>
              dsimp only
              rw [used_ins]
              have h1 := used_dro hi.srt hf
              have h2 := used_dro_le o.to (dro o.name d.L)
              show used (dro o.to (dro o.name d.L)) + f.data.length ≤ _
              omega
          · have := used_dro_le o.name d.L; omega
theorem used_partT {d : Dsk} (hi : Inv d) (o : Opn) (p : Int) : used (part o p d.L) ≤ used d.L + o.b.length := by
  unfold part
  split
  · refine Nat.le_trans (used_addT hi.srt) ?_
    rw [List.length_take]
    omega
  · omega
theorem step_room (d : Dsk) (o : Opn) : (step d o).2.room = d.room ∧ (step d o).2.tr = d.tr ∧ d.ops ≤ (step d o).2.ops ∧ (step d o).2.ops ≤ d.ops + 1 := by
  unfold step
  split
  · exact ⟨rfl, rfl, by show d.ops ≤ d.ops; omega, by show d.ops ≤ d.ops + 1; omega⟩
  · split
    · exact ⟨rfl, rfl, by show d.ops ≤ d.ops + 1; omega, by show d.ops + 1 ≤ d.ops + 1; omega⟩
    · split
      · exact ⟨rfl, rfl, by show d.ops ≤ d.ops + 1; omega, by show d.ops + 1 ≤ d.ops + 1; omega⟩
      · exact ⟨rfl, rfl, by show d.ops ≤ d.ops + 1; omega, by show d.ops + 1 ≤ d.ops + 1; omega⟩

/-- Few bytes, few operations. -/
structure Few (d : Dsk) (m k : Nat) : Prop where
  inv : Inv d
  used : used d.L ≤ m
  ops0 : 0 ≤ d.ops
  ops1 : d.ops ≤ (k : Int)
theorem Few.mono {d : Dsk} {m k m' k' : Nat} (h : Few d m k) (hm : m ≤ m') (hk : k ≤ k') : Few d m' k' := ⟨h.inv, Nat.le_trans h.used hm, h.ops0, by have := h.ops1; omega⟩
theorem used_stepT {d : Dsk} (hi : Inv d) (o : Opn) : used (step d o).2.L ≤ used d.L + o.b.length := by
  unfold step
  split
  · dsimp only; omega
  · split
    · dsimp only; omega
    · split
      · exact used_wholeT hi o
      · exact used_partT hi o _
theorem Few.step {d : Dsk} {m k : Nat} (h : Few d m k) (o : Opn) (hb : ∀ c ∈ o.b, c < 256) {M : Nat} (hM : m + o.b.length ≤ M) : Few (step d o).2 M (k + 1) := by
  obtain ⟨_, _, r2, r3⟩ := step_room d o
  have h1 := used_stepT h.inv o
  have h2 := h.used
  have h3 := h.ops0
  have h4 := h.ops1
  exact ⟨inv_step h.inv hb, by omega, by omega, by omega⟩
theorem byts_nil : ∀ c ∈ ([] : List Nat), c < 256 := fun c h => by cases h
theorem Few.undo {d : Dsk} {m k : Nat} (h : Few d m k) (n : Int) (z : Nat) : Few (undoB d n z).2 m (k + 1) := by
  unfold undoB
  split
  · exact h.step (opD n) byts_nil (Nat.le_refl _)
  · exact h.step (opK n z) byts_nil (Nat.le_refl _)
theorem Few.lays {d : Dsk} {m k : Nat} (h : Few d m k) (n : Int) {b : List Nat} (hb : Byts b) : Few (laysB d n b).2 (m + b.length) (k + 2) := by
  have h1 := h.step (opA n b) hb (Nat.le_refl _)
  unfold laysB
  split
  · exact h1.step (opS n) byts_nil (Nat.le_refl _)
  · exact h1.mono (Nat.le_refl _) (by omega)
theorem Few.write {d : Dsk} {m k : Nat} (h : Few d m k) (n : Int) (z : Nat) {b : List Nat} (hb : Byts b) : Few (writeB d n z b).2.2 (m + b.length) (k + 3) := by
  have h1 := h.lays n hb
  unfold writeB
  split
  · exact h1.mono (Nat.le_refl _) (by omega)
  · exact (h1.undo n z).mono (Nat.le_refl _) (by omega)
theorem Few.create {d : Dsk} {m k : Nat} (h : Few d m k) (n : Int) : Few (createB d n).2 (m + 12) (k + 4) := by
  unfold createB
  split
  · exact h.mono (by omega) (by omega)
  · next hm =>
    have h1 : Few (Go.Proofs.YtacfcfbleogioaaGreatDoor.step d (opC n)).2 m (k + 1) := h.step (opC n) byts_nil (Nat.le_refl _)
    split
    · exact h1.mono (by omega) (by omega)
    · have h2 := h1.write n 0 (headB_byts n)
      rw [headB_len (by simpa using hm)] at h2
      exact h2.mono (by omega) (by omega)
theorem okL_rec {L : List (List Nat)} (h : okL L = true) : ∀ r ∈ L, 1 ≤ r.length ∧ r.length ≤ 1048576 := by
  unfold okL at h
  rw [Bool.and_eq_true, List.all_eq_true] at h
  intro r hr
  have := h.2 r hr
  simpa using this
theorem Few.append {d : Dsk} {m k : Nat} (h : Few d m k) (n : Int) (g : Sg) {L : List (List Nat)} (hL : ∀ r ∈ L, Byts r) : Few (appendB d n g L).2.2 (m + (frs L).length) (k + 3) := by
  unfold appendB
  split
  · exact h.mono (by omega) (by omega)
  · split
    · exact h.mono (by omega) (by omega)
    · exact h.write n g.size (frs_byts hL)
theorem Few.begin {d : Dsk} {m k : Nat} (h : Few d m k) (n : Int) (z s : Nat) : Few (beginB d n z s).2 m (k + 2) := by
  unfold beginB
  split
  · exact (h.step (opS n) byts_nil (Nat.le_refl _)).mono (Nat.le_refl _) (by omega)
  · split
    · have h1 : Few (Go.Proofs.YtacfcfbleogioaaGreatDoor.step d (opK n z)).2 m (k + 1) := h.step (opK n z) byts_nil (Nat.le_refl _)
      split
      · exact (h1.step (opS n) byts_nil (Nat.le_refl _)).mono (Nat.le_refl _) (by omega)
      · exact h1.mono (Nat.le_refl _) (by omega)
    · exact h.mono (Nat.le_refl _) (by omega)
theorem Few.open_ {d : Dsk} {m k : Nat} (h : Few d m k) (n : Int) : Few (openB d n).2.2.2 m (k + 2) := by
  unfold openB
  cases fnd (nameB n) d.L with
  | none => exact h.mono (Nat.le_refl _) (by omega)
  | some f =>
    dsimp only
    have h1 := h.begin n (scanB n f.data).2.1 (scanB n f.data).2.2
    split
    · exact h1
    · exact h1
theorem Few.crash {d : Dsk} {m k : Nat} (h : Few d m k) (ts : List Int) : Few (crash ts d) m k :=
  ⟨inv_crash h.inv ts, Nat.le_trans (used_crs ts 0 d.L) h.used, h.ops0, h.ops1⟩
theorem Few.arm {d : Dsk} {m k : Nat} (h : Few d m k) (l : List Tro) : Few (arm l d) m k :=
  ⟨inv_arm h.inv l, h.used, Int.le_refl _, Int.natCast_nonneg _⟩

end Go.Proofs.YtacfcfbleogioaaGreatDoor
