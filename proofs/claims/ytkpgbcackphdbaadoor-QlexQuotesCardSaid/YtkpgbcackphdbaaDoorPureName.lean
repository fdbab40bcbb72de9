/-
  What a name is, over the bytes of a text: one walk that the program's Name and the reference's both come to; names behind names, names ahead of names. No condition.
-/
import Derived.Test.YtkpgbcackphdbaaDoorBad
import Derived.Test.YtkpgbcackphdbaaDoorName
import Derived.Lib.ValidLaws
namespace Go.Proofs.YtkpgbcackphdbaaDoor
set_option linter.unusedVariables false
open Go.RowKit Go.Lib

def errD (d : Nat × Nat) : Bool := d.1 == 65533 && d.2 == 1

theorem errD_iff (d : Nat × Nat) : errD d = true ↔ (d.1 = 65533 ∧ d.2 = 1) := by simp [errD]

/-- A name's walk: each rune is right and goes on; the first begins. -/
def walkW (f : Nat → Nat) (N : Nat) : Nat → Nat → Bool
  | 0, _ => true
  | g + 1, p => if p < N then (if errD (dN f N p) = true then false else if p = 0 ∧ beginsB (dN f N p).1 = false then false else if goesB (dN f N p).1 = false then false else walkW f N g (p + (dN f N p).2)) else true

def nameW (l : List UInt8) : Bool := !l.isEmpty && walkW (fs l) l.length l.length 0

theorem walkW_done (f : Nat → Nat) (N g p : Nat) (h : ¬ p < N) : walkW f N g p = true := by
  cases g with
  | zero => rfl
  | succ g => rw [walkW, if_neg h]

theorem walkP_done (f : Nat → Nat) (N g p : Nat) (h : ¬ p < N) : walkP f N g p = true := by
  cases g with
  | zero => rfl
  | succ g => rw [walkP, if_neg h]

theorem decodeL_at (l : List UInt8) (p : Nat) : decodeL (l.drop p) = dN (fs l) l.length p := by
  rw [decodeL_N, List.length_drop, getD_dropU, getD_dropU, getD_dropU, getD_dropU]
  rfl

theorem valid_at (l : List UInt8) (p : Nat) (h : p < l.length) : validD (l.drop p) = (!errD (dN (fs l) l.length p) && validD (l.drop (p + (dN (fs l) l.length p).2))) := by
  have hne : l.drop p ≠ [] := fun h2 => by have := congrArg List.length h2; simp at this; omega
  rw [validD_step _ hne, decodeL_at, List.drop_drop]
  by_cases he : (dN (fs l) l.length p).1 = 65533 ∧ (dN (fs l) l.length p).2 = 1
  · rw [if_pos he, (errD_iff _).2 he]
    rfl
  · rw [if_neg he]
    have : errD (dN (fs l) l.length p) = false := by
      cases hx : errD (dN (fs l) l.length p) with
      | false => rfl
      | true => exact absurd ((errD_iff _).1 hx) he
    rw [this]
    rfl

theorem name_merge (l : List UInt8) : ∀ (g p : Nat), l.length ≤ g + p → (validD (l.drop p) && walkP (fs l) l.length g p) = walkW (fs l) l.length g p
  | 0, p, h => by
    rw [List.drop_eq_nil_of_le (by omega)]
    rfl
  | g + 1, p, h => by
    by_cases hp : p < l.length
    · have hw := decodeN_pos (l.length - p) (fs l p) (fs l (p + 1)) (fs l (p + 2)) (fs l (p + 3))
      have ih := name_merge l g (p + (dN (fs l) l.length p).2) (by unfold dN; omega)
      rw [valid_at l p hp, walkP, walkW, if_pos hp, if_pos hp]
      cases he : errD (dN (fs l) l.length p) with
      | true => simp
      | false =>
        rw [if_neg (show ¬ false = true by decide)]
        by_cases hb : p = 0 ∧ beginsB (dN (fs l) l.length p).1 = false
        · rw [if_pos hb, if_pos hb]; simp
        · rw [if_neg hb, if_neg hb]
          by_cases hg : goesB (dN (fs l) l.length p).1 = false
          · rw [if_pos hg, if_pos hg]; simp
          · rw [if_neg hg, if_neg hg, ← ih]; simp
    · rw [List.drop_eq_nil_of_le (by omega), walkP_done _ _ _ _ hp, walkW_done _ _ _ _ hp]
      rfl

theorem nameP_eq (l : List UInt8) : nameP l = nameW l := by
  unfold nameP nameW
  have := name_merge l l.length 0 (by omega)
  rw [List.drop_zero] at this
  rw [← this, Bool.and_assoc]

/-! ### Decoding at a place: what it hangs on, how far it goes -/
theorem decodeN_grow (n n' b0 b1 b2 b3 c1 c2 c3 : Nat) (hn : 1 ≤ n) (he : ¬ ((decodeN n b0 b1 b2 b3).1 = 65533 ∧ (decodeN n b0 b1 b2 b3).2 = 1)) (hn' : (decodeN n b0 b1 b2 b3).2 ≤ n')
    (h1 : 1 < (decodeN n b0 b1 b2 b3).2 → c1 = b1) (h2 : 2 < (decodeN n b0 b1 b2 b3).2 → c2 = b2) (h3 : 3 < (decodeN n b0 b1 b2 b3).2 → c3 = b3) : decodeN n' b0 c1 c2 c3 = decodeN n b0 b1 b2 b3 := by
  by_cases a0 : b0 < 128
  · simp only [decodeN, a0, if_true]
  · by_cases a1 : b0 / 32 = 6 ∧ (1 < n ∧ b1 / 64 = 2)
    · by_cases a2 : b0 % 32 * 64 + b1 % 64 ≥ 128
      · have e : decodeN n b0 b1 b2 b3 = (b0 % 32 * 64 + b1 % 64, 2) := by unfold decodeN; rw [if_neg a0, if_pos a1, if_pos a2]
        rw [e] at hn' h1 h2 h3 ⊢
        simp only at hn' h1
        have := h1 (by omega)
        subst this
        unfold decodeN
        rw [if_neg a0, if_pos ⟨a1.1, by omega, a1.2.2⟩, if_pos a2]
      · exact absurd (by unfold decodeN; rw [if_neg a0, if_pos a1, if_neg a2]; exact ⟨rfl, rfl⟩) he
    · by_cases a3 : b0 / 16 = 14 ∧ (1 < n ∧ b1 / 64 = 2) ∧ (2 < n ∧ b2 / 64 = 2)
      · by_cases a4 : b0 % 16 * 4096 + b1 % 64 * 64 + b2 % 64 ≥ 2048 ∧ (b0 % 16 * 4096 + b1 % 64 * 64 + b2 % 64 < 55296 ∨ (57344 ≤ b0 % 16 * 4096 + b1 % 64 * 64 + b2 % 64 ∧ b0 % 16 * 4096 + b1 % 64 * 64 + b2 % 64 ≤ 1114111))
        · have e : decodeN n b0 b1 b2 b3 = (b0 % 16 * 4096 + b1 % 64 * 64 + b2 % 64, 3) := by unfold decodeN; rw [if_neg a0, if_neg a1, if_pos a3, if_pos a4]
          rw [e] at hn' h1 h2 h3 ⊢
          simp only at hn' h1 h2
          have t1 := h1 (by omega)
          have t2 := h2 (by omega)
          subst t1 t2
          unfold decodeN
          rw [if_neg a0, if_neg (by omega), if_pos ⟨a3.1, ⟨by omega, a3.2.1.2⟩, by omega, a3.2.2.2⟩, if_pos a4]
        · exact absurd (by unfold decodeN; rw [if_neg a0, if_neg a1, if_pos a3, if_neg a4]; exact ⟨rfl, rfl⟩) he
      · by_cases a5 : b0 / 8 = 30 ∧ (1 < n ∧ b1 / 64 = 2) ∧ (2 < n ∧ b2 / 64 = 2) ∧ (3 < n ∧ b3 / 64 = 2)
        · by_cases a6 : b0 % 8 * 262144 + b1 % 64 * 4096 + b2 % 64 * 64 + b3 % 64 ≥ 65536 ∧ (b0 % 8 * 262144 + b1 % 64 * 4096 + b2 % 64 * 64 + b3 % 64 < 55296 ∨ (57344 ≤ b0 % 8 * 262144 + b1 % 64 * 4096 + b2 % 64 * 64 + b3 % 64 ∧ b0 % 8 * 262144 + b1 % 64 * 4096 + b2 % 64 * 64 + b3 % 64 ≤ 1114111))
          · have e : decodeN n b0 b1 b2 b3 = (b0 % 8 * 262144 + b1 % 64 * 4096 + b2 % 64 * 64 + b3 % 64, 4) := by unfold decodeN; rw [if_neg a0, if_neg a1, if_neg a3, if_pos a5, if_pos a6]
            rw [e] at hn' h1 h2 h3 ⊢
            simp only at hn' h1 h2 h3
            have t1 := h1 (by omega)
            have t2 := h2 (by omega)
            have t3 := h3 (by omega)
            subst t1 t2 t3
            unfold decodeN
            rw [if_neg a0, if_neg (by omega), if_neg (by omega), if_pos ⟨a5.1, ⟨by omega, a5.2.1.2⟩, ⟨by omega, a5.2.2.1.2⟩, by omega, a5.2.2.2.2⟩, if_pos a6]
          · exact absurd (by unfold decodeN; rw [if_neg a0, if_neg a1, if_neg a3, if_pos a5, if_neg a6]; exact ⟨rfl, rfl⟩) he
        · exact absurd (by unfold decodeN; rw [if_neg a0, if_neg a1, if_neg a3, if_neg a5]; exact ⟨rfl, rfl⟩) he

/-- A rune that decodes right: its width fits; one byte below 128 or several from 128 on. -/
theorem decodeN_shape (n b0 b1 b2 b3 : Nat) (hn : 1 ≤ n) (he : ¬ ((decodeN n b0 b1 b2 b3).1 = 65533 ∧ (decodeN n b0 b1 b2 b3).2 = 1)) :
    (decodeN n b0 b1 b2 b3).2 ≤ n ∧ ((decodeN n b0 b1 b2 b3).2 = 1 → b0 < 128 ∧ (decodeN n b0 b1 b2 b3).1 = b0) ∧
      (1 < (decodeN n b0 b1 b2 b3).2 → 128 ≤ b0 ∧ 128 ≤ b1) ∧ (2 < (decodeN n b0 b1 b2 b3).2 → 128 ≤ b2) ∧ (3 < (decodeN n b0 b1 b2 b3).2 → 128 ≤ b3) := by
  revert he
  unfold decodeN
  repeat' split
  all_goals intro he
  all_goals simp only at he ⊢
  all_goals first
    | (simp at he; done)
    | refine ⟨?_, ?_, ?_, ?_, ?_⟩
  all_goals first
    | omega
    | (intro _; omega)
    | exact fun _ => ⟨by omega, by simp⟩
    | simp

theorem dN_shift (f : Nat → Nat) (N k p : Nat) : dN (fun i => f (i + k)) N p = dN f (N + k) (p + k) := by
  unfold dN
  simp only
  rw [show N + k - (p + k) = N - p by omega, show p + 1 + k = p + k + 1 by omega, show p + 2 + k = p + k + 2 by omega, show p + 3 + k = p + k + 3 by omega]

theorem dN_grow {f f' : Nat → Nat} {N N' p : Nat} (hp : p < N) (he : errD (dN f N p) = false) (hN : p + (dN f N p).2 ≤ N') (hf : ∀ i, i < p + (dN f N p).2 → f' i = f i) : dN f' N' p = dN f N p := by
  have hw := decodeN_pos (N - p) (f p) (f (p + 1)) (f (p + 2)) (f (p + 3))
  have he2 : ¬ ((dN f N p).1 = 65533 ∧ (dN f N p).2 = 1) := fun h => by rw [(errD_iff _).2 h] at he; cases he
  have h0 : f' p = f p := hf p (by unfold dN; omega)
  have := decodeN_grow (N - p) (N' - p) (f p) (f (p + 1)) (f (p + 2)) (f (p + 3)) (f' (p + 1)) (f' (p + 2)) (f' (p + 3)) (by omega) he2 (by unfold dN at hN; omega)
    (fun h => hf _ (by unfold dN; omega)) (fun h => hf _ (by unfold dN; omega)) (fun h => hf _ (by unfold dN; omega))
  unfold dN
  rw [h0]
  exact this

theorem dN_fits {f : Nat → Nat} {N p : Nat} (hp : p < N) (he : errD (dN f N p) = false) : p + (dN f N p).2 ≤ N := by
  have he2 : ¬ ((dN f N p).1 = 65533 ∧ (dN f N p).2 = 1) := fun h => by rw [(errD_iff _).2 h] at he; cases he
  have := (decodeN_shape (N - p) (f p) (f (p + 1)) (f (p + 2)) (f (p + 3)) (by omega) he2).1
  unfold dN
  omega

/-- A rune's own bytes decode as the rune. -/
theorem dN_enc (m : Nat) (f : Nat → Nat) (N p : Nat) (hk : 0 < (encN m).length) (hN : p + (encN m).length ≤ N) (hf : ∀ i, i < (encN m).length → f (p + i) = nth (encN m) i) : dN f N p = (m, (encN m).length) := by
  unfold dN
  unfold encN at hk hN hf ⊢
  by_cases c0 : 1114111 < m ∨ (55296 ≤ m ∧ m ≤ 57343)
  · rw [if_pos c0] at hk; simp at hk
  · rw [if_neg c0] at hk hN hf ⊢
    by_cases c1 : m < 128
    · rw [if_pos c1] at hk hN hf ⊢
      have h0 := hf 0 (by simp)
      simp only [nth, List.getD_cons_zero, Nat.add_zero] at h0
      rw [h0]
      unfold decodeN
      rw [if_pos c1]
      rfl
    · rw [if_neg c1] at hk hN hf ⊢
      by_cases c2 : m < 2048
      · rw [if_pos c2] at hk hN hf ⊢
        have h0 := hf 0 (by simp)
        have h1 := hf 1 (by simp)
        simp only [nth, List.getD_cons_zero, List.getD_cons_succ, Nat.add_zero, List.length_cons, List.length_nil] at h0 h1 hN
        rw [h0, h1]
        unfold decodeN
        rw [if_neg (by omega), if_pos (by omega), if_pos (by omega)]
        simp only [List.length_cons, List.length_nil]
        rw [show (192 + m / 64) % 32 * 64 + (128 + m % 64) % 64 = m by omega]
      · rw [if_neg c2] at hk hN hf ⊢
        by_cases c3 : m < 65536
        · rw [if_pos c3] at hk hN hf ⊢
          have h0 := hf 0 (by simp)
          have h1 := hf 1 (by simp)
          have h2 := hf 2 (by simp)
          simp only [nth, List.getD_cons_zero, List.getD_cons_succ, Nat.add_zero, List.length_cons, List.length_nil] at h0 h1 h2 hN
          rw [h0, h1, h2]
          have hv : (224 + m / 4096) % 16 * 4096 + (128 + m / 64 % 64) % 64 * 64 + (128 + m % 64) % 64 = m := by omega
          unfold decodeN
          rw [if_neg (by omega), if_neg (by omega), if_pos (by omega), if_pos (by rw [hv]; omega), hv]
          rfl
        · rw [if_neg c3] at hk hN hf ⊢
          have h0 := hf 0 (by simp)
          have h1 := hf 1 (by simp)
          have h2 := hf 2 (by simp)
          have h3 := hf 3 (by simp)
          simp only [nth, List.getD_cons_zero, List.getD_cons_succ, Nat.add_zero, List.length_cons, List.length_nil] at h0 h1 h2 h3 hN
          rw [h0, h1, h2, h3]
          have hv : (240 + m / 262144) % 8 * 262144 + (128 + m / 4096 % 64) % 64 * 4096 + (128 + m / 64 % 64) % 64 * 64 + (128 + m % 64) % 64 = m := by omega
          unfold decodeN
          rw [if_neg (by omega), if_neg (by omega), if_neg (by omega), if_pos (by omega), if_pos (by rw [hv]; omega), hv]
          rfl

theorem enc_right (m : Nat) (hk : 0 < (encN m).length) : errD (m, (encN m).length) = false := by
  cases he : errD (m, (encN m).length) with
  | false => rfl
  | true =>
    obtain ⟨h1, h2⟩ := (errD_iff _).1 he
    simp only at h1 h2
    subst h1
    exact absurd h2 (by decide)

end Go.Proofs.YtkpgbcackphdbaaDoor
