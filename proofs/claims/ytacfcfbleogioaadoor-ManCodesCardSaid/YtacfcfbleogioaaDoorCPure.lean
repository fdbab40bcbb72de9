/-
  The arithmetic of the sums: numbers of 32 bits that are divided by 2 and turned; what follows of the bits that are turned in a row of bytes. Of no program. No condition.
-/
namespace Go.Proofs.YtacfcfbleogioaaDoor

/-- What an odd number is turned by. -/
def poly : BitVec 32 := 0xEDB88320#32

/-- A number divided by 2, and turned if it was odd. -/
def hb (x : BitVec 32) : BitVec 32 := (x >>> 1) ^^^ (if x.getLsbD 0 then poly else 0#32)

/-- So many times. -/
def hbs : Nat → BitVec 32 → BitVec 32
  | 0, x => x
  | n + 1, x => hbs n (hb x)

/-- A byte more. -/
def stepB (x : BitVec 32) (c : Nat) : BitVec 32 := hbs 8 (x ^^^ BitVec.ofNat 32 c)

/-- The number behind bytes. -/
def reg (x : BitVec 32) : List Nat → BitVec 32
  | [] => x
  | c :: l => reg (stepB x c) l

def ones : BitVec 32 := 0xFFFFFFFF#32

/-- A sum that goes on; the sum of bytes. -/
def onB (s : BitVec 32) (l : List Nat) : BitVec 32 := ones ^^^ reg (ones ^^^ s) l
def sumB (l : List Nat) : BitVec 32 := onB 0#32 l

theorem xor_self_mid (a b c : BitVec 32) : a ^^^ b = (a ^^^ c) ^^^ (b ^^^ c) := by
  apply BitVec.eq_of_getLsbD_eq
  intro i hi
  simp only [BitVec.getLsbD_xor]
  cases a.getLsbD i <;> cases b.getLsbD i <;> cases c.getLsbD i <;> rfl

theorem hb_xor (x y : BitVec 32) : hb (x ^^^ y) = hb x ^^^ hb y := by
  apply BitVec.eq_of_getLsbD_eq
  intro i hi
  unfold hb
  simp only [BitVec.getLsbD_xor, BitVec.getLsbD_ushiftRight]
  cases x.getLsbD 0 <;> cases y.getLsbD 0 <;> cases x.getLsbD (1 + i) <;> cases y.getLsbD (1 + i) <;> simp

theorem hb_zero : hb 0#32 = 0#32 := by decide
theorem hbs_xor : ∀ (n : Nat) (x y : BitVec 32), hbs n (x ^^^ y) = hbs n x ^^^ hbs n y
  | 0, _, _ => rfl
  | n + 1, x, y => by rw [hbs, hbs, hbs, hb_xor, hbs_xor n]
theorem hbs_zero : ∀ n : Nat, hbs n 0#32 = 0#32
  | 0 => rfl
  | n + 1 => by rw [hbs, hb_zero, hbs_zero n]
theorem hbs_add : ∀ (m n : Nat) (x : BitVec 32), hbs (m + n) x = hbs n (hbs m x)
  | 0, n, x => by rw [Nat.zero_add]; rfl
  | m + 1, n, x => by rw [show m + 1 + n = (m + n) + 1 by omega, hbs, hbs, hbs_add m n]

theorem poly_top : poly.getLsbD 31 = true := by decide
theorem hb_ne {x : BitVec 32} (h : hb x = 0#32) : x = 0#32 := by
  have h31 := congrArg (·.getLsbD 31) h
  unfold hb at h31
  simp only [BitVec.getLsbD_xor, BitVec.getLsbD_ushiftRight, BitVec.getLsbD_zero] at h31
  rw [BitVec.getLsbD_of_ge x (1 + 31) (by omega), Bool.false_xor] at h31
  cases hx : x.getLsbD 0 with
  | true => rw [hx, if_pos rfl, poly_top] at h31; exact absurd h31 (by decide)
  | false =>
    apply BitVec.eq_of_getLsbD_eq
    intro i hi
    rw [BitVec.getLsbD_zero]
    cases i with
    | zero => exact hx
    | succ i =>
      have h1 := congrArg (·.getLsbD i) h
      unfold hb at h1
      rw [hx] at h1
      simp only [BitVec.getLsbD_xor, BitVec.getLsbD_ushiftRight, BitVec.getLsbD_zero] at h1
      rw [Nat.add_comm]
      simpa using h1
theorem hbs_ne : ∀ (n : Nat) {x : BitVec 32}, hbs n x = 0#32 → x = 0#32
  | 0, _, h => h
  | n + 1, _, h => hb_ne (hbs_ne n h)

/-- A number of which the least bits are clear is divided alone. -/
theorem hbs_low : ∀ (n : Nat) (x : BitVec 32), (∀ i, i < n → x.getLsbD i = false) → hbs n x = x >>> n
  | 0, x, _ => by rw [hbs, BitVec.ushiftRight_zero]
  | n + 1, x, h => by
    have e : hb x = x >>> 1 := by
      unfold hb
      rw [h 0 (by omega), if_neg (by decide), BitVec.xor_zero]
    rw [hbs, e, hbs_low n _ (fun i hi => by rw [BitVec.getLsbD_ushiftRight]; exact h (1 + i) (by omega)), Nat.add_comm n 1, BitVec.shiftRight_add]

theorem low_bits : ∀ i : Fin 32, (255#32).getLsbD i.val = decide (i.val < 8) := by decide

/-- A byte's step as the document tells it. -/
theorem step_is (x : BitVec 32) (c : Nat) : (x >>> 8) ^^^ hbs 8 ((x &&& 255#32) ^^^ BitVec.ofNat 32 c) = stepB x c := by
  have hx : x = (x &&& 255#32) ^^^ ((x >>> 8) <<< 8) := by
    apply BitVec.eq_of_getLsbD_eq
    intro i hi
    rw [BitVec.getLsbD_xor, BitVec.getLsbD_and, low_bits ⟨i, hi⟩, BitVec.getLsbD_shiftLeft, BitVec.getLsbD_ushiftRight]
    by_cases h8 : i < 8
    · simp [h8]
    · simp only [h8, hi, decide_true, decide_false, Bool.and_false, Bool.not_false, Bool.true_and, Bool.false_xor]
      rw [show 8 + (i - 8) = i by omega]
  have hl : hbs 8 ((x >>> 8) <<< 8) = x >>> 8 := by
    rw [hbs_low 8 _ (fun i hi => by rw [BitVec.getLsbD_shiftLeft]; simp [hi])]
    apply BitVec.eq_of_getLsbD_eq
    intro i hi
    simp only [BitVec.getLsbD_ushiftRight, BitVec.getLsbD_shiftLeft]
    by_cases h : 8 + i < 32
    · simp [h]
    · rw [BitVec.getLsbD_of_ge x (8 + i) (by omega), decide_eq_false h, Bool.false_and, Bool.false_and]
  unfold stepB
  have e : x ^^^ BitVec.ofNat 32 c = ((x &&& 255#32) ^^^ BitVec.ofNat 32 c) ^^^ ((x >>> 8) <<< 8) := by
    rw [BitVec.xor_assoc, BitVec.xor_comm (BitVec.ofNat 32 c), ← BitVec.xor_assoc, ← hx]
  rw [e, hbs_xor 8 _ ((x >>> 8) <<< 8), hl, BitVec.xor_comm]

/-- The reference's bit: what it does of a number and a bit. -/
def refBit (x : BitVec 32) (b : Bool) : BitVec 32 := if x.getLsbD 0 != b then (x >>> 1) ^^^ poly else x >>> 1

/-- A row of k bits of a byte is gone; so many are left. -/
theorem refBit_is (k : Nat) (x : BitVec 32) (c : BitVec 32) : hbs (k + 1) (x ^^^ c) = hbs k (refBit x (c.getLsbD 0) ^^^ (c >>> 1)) := by
  rw [hbs]
  congr 1
  rw [hb_xor]
  unfold hb refBit
  apply BitVec.eq_of_getLsbD_eq
  intro i hi
  cases x.getLsbD 0 <;> cases c.getLsbD 0 <;> simp [BitVec.getLsbD_xor]
  all_goals (cases x.getLsbD (1 + i) <;> cases c.getLsbD (1 + i) <;> cases poly.getLsbD i <;> rfl)

theorem byte_gone {c : Nat} (h : c < 256) : BitVec.ofNat 32 c >>> 8 = 0#32 := by
  apply BitVec.eq_of_toNat_eq
  rw [BitVec.toNat_ushiftRight, BitVec.toNat_ofNat, Nat.shiftRight_eq_div_pow, BitVec.toNat_zero]
  omega

theorem reg_append : ∀ (l m : List Nat) (x : BitVec 32), reg x (l ++ m) = reg (reg x l) m
  | [], _, _ => rfl
  | c :: l, m, x => by rw [List.cons_append, reg, reg, reg_append l m]

theorem on_sum (l m : List Nat) : onB (sumB l) m = sumB (l ++ m) := by
  unfold sumB onB
  rw [reg_append, ← BitVec.xor_assoc, BitVec.xor_self, BitVec.zero_xor]
theorem on_nil (s : BitVec 32) : onB s [] = s := by
  unfold onB
  rw [reg, ← BitVec.xor_assoc, BitVec.xor_self, BitVec.zero_xor]

theorem reg_xor : ∀ (l : List Nat) (x y : BitVec 32), reg (x ^^^ y) l = reg x l ^^^ hbs (8 * l.length) y
  | [], _, _ => rfl
  | c :: l, x, y => by
    have e : stepB (x ^^^ y) c = stepB x c ^^^ hbs 8 y := by
      unfold stepB
      rw [← hbs_xor]
      congr 1
      rw [BitVec.xor_assoc, BitVec.xor_assoc, BitVec.xor_comm y]
    rw [reg, reg, e, reg_xor l, ← hbs_add, List.length_cons, show 8 + 8 * l.length = 8 * (l.length + 1) by omega]

/-- A bit of a byte is turned. -/
def turnAt (l : List Nat) (p : Nat) : List Nat := l.set (p / 8) ((l.getD (p / 8) 0) ^^^ 2 ^ (p % 8))

theorem byte_bit : ∀ r : Fin 8, hbs r.val (BitVec.ofNat 32 (2 ^ r.val)) = 1#32 := by decide
theorem word_bit : ∀ r : Fin 32, hbs r.val (1#32 <<< r.val) = 1#32 := by decide

theorem reg_turn : ∀ (l : List Nat) (p : Nat) (x : BitVec 32), p < 8 * l.length → (∀ c ∈ l, c < 256) → reg x (turnAt l p) = reg x l ^^^ hbs (8 * l.length - p) 1#32
  | [], p, _, h, _ => by simp at h
  | c :: l, p, x, h, hc => by
    rw [List.length_cons] at h
    by_cases hp : p < 8
    · have e0 : p / 8 = 0 := by omega
      have e1 : p % 8 = p := by omega
      unfold turnAt
      rw [e0, e1]
      show reg (stepB x (c ^^^ 2 ^ p)) l = reg (stepB x c) l ^^^ _
      have e2 : stepB x (c ^^^ 2 ^ p) = stepB x c ^^^ hbs (8 - p) 1#32 := by
        unfold stepB
        have e3 : BitVec.ofNat 32 (c ^^^ 2 ^ p) = BitVec.ofNat 32 c ^^^ BitVec.ofNat 32 (2 ^ p) := BitVec.ofNat_xor
        rw [e3, ← BitVec.xor_assoc, hbs_xor, ← byte_bit ⟨p, hp⟩, ← hbs_add]
        show _ = _ ^^^ hbs (p + (8 - p)) _
        rw [show p + (8 - p) = 8 by omega]
      rw [e2, reg_xor, ← hbs_add, List.length_cons, show 8 - p + 8 * l.length = 8 * (l.length + 1) - p by omega]
    · have e0 : p / 8 = (p - 8) / 8 + 1 := by omega
      have e1 : p % 8 = (p - 8) % 8 := by omega
      have e : turnAt (c :: l) p = c :: turnAt l (p - 8) := by
        unfold turnAt
        rw [e0, e1]
        rfl
      rw [e, reg, reg, reg_turn l (p - 8) _ (by omega) (fun d hd => hc d (List.mem_cons_of_mem _ hd)), List.length_cons, show 8 * l.length - (p - 8) = 8 * (l.length + 1) - p by omega]

/-- What bytes are behind some turned bits, from a place on. -/
structure Turned (b : List Nat) (at' i : Nat) (l : List Nat) (some' : Bool) : Prop where
  long : l.length = b.length
  byte : ∀ c ∈ l, c < 256
  far : ∃ W : BitVec 32, (∀ k, i ≤ k → W.getLsbD k = false) ∧ (some' = true → W ≠ 0#32) ∧ ∀ x, reg x l = reg x b ^^^ hbs (8 * b.length - at') W

theorem Turned.start {b : List Nat} (h : ∀ c ∈ b, c < 256) (at' : Nat) : Turned b at' 0 b false :=
  ⟨rfl, h, 0#32, fun _ _ => BitVec.getLsbD_zero, ⟨(fun e => absurd e (by decide)), fun x => by rw [hbs_zero, BitVec.xor_zero]⟩⟩

theorem Turned.keep {b l : List Nat} {at' i : Nat} {s : Bool} (h : Turned b at' i l s) : Turned b at' (i + 1) l s := by
  obtain ⟨h1, h2, W, h3, h4, h5⟩ := h
  exact ⟨h1, h2, W, fun k hk => h3 k (by omega), h4, h5⟩

theorem turned_byte {c p : Nat} (h : c < 256) : c ^^^ 2 ^ (p % 8) < 256 := by
  have : (2 : Nat) ^ (p % 8) < 2 ^ 8 := Nat.pow_lt_pow_right (by decide) (by omega)
  exact Nat.xor_lt_two_pow (n := 8) h this

theorem Turned.turn {b l : List Nat} {at' i : Nat} {s : Bool} (h : Turned b at' i l s) (hi : i < 32) (hat : at' + i < 8 * b.length) : Turned b at' (i + 1) (turnAt l (at' + i)) true := by
  obtain ⟨h1, h2, W, h3, _, h5⟩ := h
  have hbit : ∀ k, (1#32 <<< i).getLsbD k = decide (k = i) := by
    intro k
    rw [BitVec.getLsbD_shiftLeft]
    by_cases hk : k = i
    · subst hk; simp [hi]
    · by_cases hlt : k < i
      · simp [hlt, hk]
      · rw [BitVec.getLsbD_one]
        simp [hk, hlt]
        omega
  refine ⟨by rw [turnAt, List.length_set]; exact h1, ?_, W ^^^ (1#32 <<< i), ?_, ?_, ?_⟩
  · intro c hc
    rcases List.mem_or_eq_of_mem_set hc with hc | rfl
    · exact h2 c hc
    · refine turned_byte ?_
      rw [List.getD_eq_getElem?_getD]
      cases hq : l[(at' + i) / 8]? with
      | none => simp
      | some z => exact h2 z (List.mem_of_getElem? hq)
  · intro k hk
    rw [BitVec.getLsbD_xor, h3 k (by omega), hbit, decide_eq_false (by omega)]
    rfl
  · intro _ h0
    have := congrArg (·.getLsbD i) h0
    simp only [BitVec.getLsbD_xor, hbit, BitVec.getLsbD_zero] at this
    rw [h3 i (Nat.le_refl _)] at this
    simp at this
  · intro x
    rw [reg_turn l _ x (by omega) h2, h5, h1, BitVec.xor_assoc, hbs_xor]
    congr 2
    rw [show 8 * b.length - at' = i + (8 * b.length - (at' + i)) by omega, hbs_add, word_bit ⟨i, hi⟩]

theorem Turned.sums {b l : List Nat} {at' i : Nat} (h : Turned b at' i l true) : sumB l ≠ sumB b := by
  obtain ⟨_, _, W, _, h4, h5⟩ := h
  intro he
  unfold sumB onB at he
  rw [h5] at he
  have e : hbs (8 * b.length - at') W = 0#32 := by
    have h6 := congrArg (fun z => (ones ^^^ reg (ones ^^^ 0#32) b) ^^^ z) he
    simp only [BitVec.xor_self] at h6
    rw [← BitVec.xor_assoc ones, ← BitVec.xor_assoc, BitVec.xor_self, BitVec.zero_xor] at h6
    exact h6
  exact h4 rfl (hbs_ne _ e)

/-- Sums that go on, over turned bytes. -/
theorem Turned.ons {b l : List Nat} {at' i : Nat} (h : Turned b at' i l true) (s : BitVec 32) : onB s l ≠ onB s b := by
  obtain ⟨_, _, W, _, h4, h5⟩ := h
  intro he
  unfold onB at he
  rw [h5] at he
  have e : hbs (8 * b.length - at') W = 0#32 := by
    have h6 := congrArg (fun z => (ones ^^^ reg (ones ^^^ s) b) ^^^ z) he
    simp only [BitVec.xor_self] at h6
    rw [← BitVec.xor_assoc ones, ← BitVec.xor_assoc, BitVec.xor_self, BitVec.zero_xor] at h6
    exact h6
  exact h4 rfl (hbs_ne _ e)

theorem sum_digits : sumB [49, 50, 51, 52, 53, 54, 55, 56, 57] = 0xcbf43926#32 := by decide +kernel
theorem sum_nil : sumB [] = 0#32 := by decide

end Go.Proofs.YtacfcfbleogioaaDoor
