/-
  Names beside runes: the program's word on a name is the reference's; a rune behind a name, a rune ahead of one; a name holds no blank. Lines a second time. No condition.
-/
import Derived.Test.YtkpgbcackphdbaaDoorRefName
import Derived.Test.YtkpgbcackphdbaaDoorTrim
namespace Go.Proofs.YtkpgbcackphdbaaDoor
set_option linter.unusedVariables false
open Go.RowKit Go.Lib

theorem goes_nat (m : Nat) (h : goesB (m : Int) = true) : inTab charsT (m : Int) = true ∧ pBl m = false := by
  have hp : pBl m = false ↔ ¬ (m = 9 ∨ m = 10 ∨ m = 13 ∨ m = 32) := by
    unfold pBl
    rw [← Bool.not_eq_true]
    simp only [Bool.or_eq_true, beq_iff_eq]
    omega
  rw [chars_nat, hp]
  simp only [goesB, inTab, firstsT, furtherT, List.any_cons, List.any_nil, inPair, Bool.or_false, Bool.or_eq_true, Bool.and_eq_true, decide_eq_true_eq] at h
  omega

theorem begins_goes (r : Int) (h : beginsB r = true) : goesB r = true := by
  unfold goesB
  rw [show inTab firstsT r = true from h, Bool.or_true]

/-- The walk without the first rune's own rule. -/
def walkG (f : Nat → Nat) (N : Nat) : Nat → Nat → Bool
  | 0, _ => true
  | g + 1, p => if p < N then (if errD (dN f N p) = true then false else if goesB (dN f N p).1 = false then false else walkG f N g (p + (dN f N p).2)) else true

theorem walkG_done (f : Nat → Nat) (N g p : Nat) (h : ¬ p < N) : walkG f N g p = true := by
  cases g with
  | zero => rfl
  | succ g => rw [walkG, if_neg h]

theorem dN_pos (f : Nat → Nat) (N p : Nat) : 1 ≤ (dN f N p).2 := decodeN_pos _ _ _ _ _

theorem walkW_pos (f : Nat → Nat) (N : Nat) : ∀ (g p : Nat), 0 < p → walkW f N g p = walkG f N g p
  | 0, _, _ => rfl
  | g + 1, p, hp => by
    rw [walkW, walkG, walkW_pos f N g (p + (dN f N p).2) (by omega)]
    have h0 : ¬ (p = 0 ∧ beginsB (dN f N p).1 = false) := fun h => by omega
    simp only [if_neg h0]

theorem walkG_fuel (f : Nat → Nat) (N : Nat) : ∀ (g h p : Nat), N ≤ g + p → N ≤ h + p → walkG f N g p = walkG f N h p
  | 0, h, p, h1, _ => by rw [walkG_done f N h p (by omega)]; rfl
  | g + 1, 0, p, _, h2 => by rw [walkG_done f N (g + 1) p (by omega)]; rfl
  | g + 1, h + 1, p, h1, h2 => by
    have := dN_pos f N p
    rw [walkG, walkG, walkG_fuel f N g h (p + (dN f N p).2) (by omega) (by omega)]

/-- What stands of the walk at a place inside. -/
theorem walkG_step {f : Nat → Nat} {N g p : Nat} (hp : p < N) (h : walkG f N (g + 1) p = true) : errD (dN f N p) = false ∧ goesB (dN f N p).1 = true ∧ walkG f N g (p + (dN f N p).2) = true := by
  rw [walkG, if_pos hp] at h
  cases he : errD (dN f N p) with
  | true => rw [he, if_pos rfl] at h; cases h
  | false =>
    rw [he, if_neg (by decide)] at h
    cases hg : goesB (dN f N p).1 with
    | false => rw [hg, if_pos rfl] at h; cases h
    | true => rw [hg, if_neg (by decide)] at h; exact ⟨rfl, rfl, h⟩

theorem walkG_go {f : Nat → Nat} {N g p : Nat} (hp : p < N) (he : errD (dN f N p) = false) (hg : goesB (dN f N p).1 = true) : walkG f N (g + 1) p = walkG f N g (p + (dN f N p).2) := by
  rw [walkG, if_pos hp, he, hg, if_neg (by decide), if_neg (by decide)]

theorem nx_err {f : Nat → Nat} {N p : Nat} (h : errD (dN f N p) = true) : nx f N p = (0, 0) := by
  have := (errD_iff _).1 h
  unfold nx
  exact if_neg (fun h2 => h2.2 this)
theorem nx_no {f : Nat → Nat} {N p : Nat} (h : ¬ inTab charsT (dN f N p).1 = true) : nx f N p = (0, 0) := by
  unfold nx
  exact if_neg (fun h2 => h h2.1)
theorem nx_yes {f : Nat → Nat} {N p : Nat} (h : errD (dN f N p) = false) (hc : inTab charsT (dN f N p).1 = true) : nx f N p = dN f N p := by
  unfold nx
  exact if_pos ⟨hc, fun h2 => by
    have h3 : errD (dN f N p) = true := (errD_iff _).2 h2
    rw [h] at h3
    cases h3⟩

def allR (q : Option (List Nat)) : Bool :=
  match q with
  | none => false
  | some l => l.all fun x => goesB (x : Int)

theorem runes_walk (f : Nat → Nat) (N : Nat) : ∀ (g p : Nat), N ≤ g + p → allR (runesFrom f N g p) = walkG f N g p
  | 0, _, _ => rfl
  | g + 1, p, h => by
    by_cases hp : p < N
    · have hw := dN_pos f N p
      have ih := runes_walk f N g (p + (dN f N p).2) (by omega)
      rw [runesFrom, if_pos hp, walkG, if_pos hp]
      cases he : errD (dN f N p) with
      | true => rw [nx_err he]; rfl
      | false =>
        rw [if_neg (show ¬ false = true by decide)]
        by_cases hc : inTab charsT (dN f N p).1 = true
        · rw [nx_yes he hc, if_neg (show ¬ (dN f N p).2 = 0 by omega), ← ih]
          cases runesFrom f N g (p + (dN f N p).2) with
          | none => simp [allR]
          | some l =>
            simp only [allR, Option.map_some, List.all_cons]
            cases goesB (dN f N p).1 <;> simp
        · rw [nx_no hc, if_pos rfl]
          have : goesB (dN f N p).1 = false := by
            cases hq : goesB ((dN f N p).1 : Int) with
            | false => rfl
            | true => exact absurd (goes_nat _ hq).1 hc
          rw [if_pos this]
          rfl
    · rw [walkG_done f N (g + 1) p hp, runesFrom, if_neg hp]
      rfl

theorem nameR_eq (l : List UInt8) : nameR (runesFrom (fs l) l.length l.length 0) = nameW l := by
  cases l with
  | nil => rfl
  | cons b t =>
    obtain ⟨l, hl⟩ : ∃ l, b :: t = l := ⟨_, rfl⟩
    obtain ⟨n, hn⟩ : ∃ n, l.length = n + 1 := ⟨t.length, by rw [← hl]; rfl⟩
    have hemp : l.isEmpty = false := by rw [← hl]; rfl
    rw [hl]
    unfold nameW
    rw [hemp, hn]
    have hp : 0 < n + 1 := by omega
    have hw := dN_pos (fs l) (n + 1) 0
    have ih := runes_walk (fs l) (n + 1) n (0 + (dN (fs l) (n + 1) 0).2) (by omega)
    rw [runesFrom, if_pos hp, walkW, if_pos hp]
    cases he : errD (dN (fs l) (n + 1) 0) with
    | true => rw [nx_err he]; rfl
    | false =>
      rw [if_neg (show ¬ false = true by decide)]
      by_cases hc : inTab charsT (dN (fs l) (n + 1) 0).1 = true
      · rw [nx_yes he hc, if_neg (show ¬ (dN (fs l) (n + 1) 0).2 = 0 by omega), walkW_pos _ _ _ _ (by omega), ← ih]
        cases runesFrom (fs l) (n + 1) n (0 + (dN (fs l) (n + 1) 0).2) with
        | none => simp [allR, nameR]
        | some u =>
          simp only [allR, nameR, Option.map_some, List.all_cons, true_and, Bool.not_false, Bool.true_and]
          cases beginsB ((dN (fs l) (n + 1) 0).1 : Int) <;> cases goesB ((dN (fs l) (n + 1) 0).1 : Int) <;> simp
      · rw [nx_no hc, if_pos rfl]
        have hg : goesB (dN (fs l) (n + 1) 0).1 = false := by
          cases hq : goesB ((dN (fs l) (n + 1) 0).1 : Int) with
          | false => rfl
          | true => exact absurd (goes_nat _ hq).1 hc
        rw [if_pos hg]
        simp [nameR]

/-! ### A rune behind a name, a rune ahead of one -/
theorem walkG_on (f f' : Nat → Nat) (N M : Nat) (hf : ∀ i, i < N → f' i = f i) : ∀ (g p : Nat), p ≤ N → N + M ≤ g + p → walkG f N g p = true → walkG f' (N + M) g p = walkG f' (N + M) (N + M) N
  | 0, p, h1, h2, _ => by
    rw [walkG_done f' (N + M) (N + M) N (by omega)]
    rfl
  | g + 1, p, h1, h2, h => by
    by_cases hp : p < N
    · obtain ⟨he, hg, hr⟩ := walkG_step hp h
      have hfit := dN_fits hp he
      have hw := dN_pos f N p
      have e := dN_grow (f' := f') (N' := N + M) hp he (by omega) (fun i hi => hf i (by omega))
      rw [walkG_go (by omega) (by rw [e]; exact he) (by rw [e]; exact hg), e]
      exact walkG_on f f' N M hf g _ hfit (by omega) hr
    · have : p = N := by omega
      subst this
      exact walkG_fuel f' (p + M) (g + 1) (p + M) p (by omega) (by omega)

theorem walkG_shift (f f' : Nat → Nat) (N k : Nat) (hf : ∀ i, f' (i + k) = f i) : ∀ (g p : Nat), walkG f' (N + k) g (p + k) = walkG f N g p
  | 0, _ => rfl
  | g + 1, p => by
    have e : dN f' (N + k) (p + k) = dN f N p := by
      rw [← dN_shift]
      exact congrArg (fun h => dN h N p) (funext hf)
    have hc : (p + k < N + k) = (p < N) := propext ⟨fun h => by omega, fun h => by omega⟩
    rw [walkG, walkG, e, show p + k + (dN f N p).2 = p + (dN f N p).2 + k by omega, walkG_shift f f' N k hf g _]
    simp only [hc]

theorem fs_left (a b : List UInt8) (i : Nat) (h : i < a.length) : fs (a ++ b) i = fs a i := by
  unfold fs
  rw [List.getD_eq_getElem?_getD, List.getD_eq_getElem?_getD, List.getElem?_append_left h]
theorem fs_right (a b : List UInt8) (i : Nat) : fs (a ++ b) (i + a.length) = fs b i := by
  unfold fs
  rw [List.getD_eq_getElem?_getD, List.getD_eq_getElem?_getD, List.getElem?_append_right (by omega), Nat.add_sub_cancel]

/-- A rune's bytes. -/
def encB (m : Nat) : List UInt8 := (encN m).map fun x => UInt8.ofNat x

theorem encN_lt (m : Nat) : ∀ x ∈ encN m, x < 256 := by
  have := encL_lt (m : Int)
  rwa [encL_nat] at this

theorem encB_at (m i : Nat) (h : i < (encN m).length) : fs (encB m) i = nth (encN m) i := by
  unfold fs encB nth
  rw [List.getD_eq_getElem?_getD, List.getD_eq_getElem?_getD, List.getElem?_map]
  cases hq : (encN m)[i]? with
  | none => rw [List.getElem?_eq_none_iff] at hq; omega
  | some x =>
    have hx := encN_lt m x (List.mem_of_getElem? hq)
    simp only [Option.map_some, Option.getD_some]
    exact UInt8.toNat_ofNat_of_lt' (by simpa using hx)

theorem encB_length (m : Nat) : (encB m).length = (encN m).length := by simp [encB]

theorem name_parts {l : List UInt8} (h : nameW l = true) : 0 < l.length ∧ errD (dN (fs l) l.length 0) = false ∧ beginsB (dN (fs l) l.length 0).1 = true ∧ goesB (dN (fs l) l.length 0).1 = true ∧ walkG (fs l) l.length l.length 0 = true := by
  unfold nameW at h
  rw [Bool.and_eq_true] at h
  obtain ⟨h1, h2⟩ := h
  have hl : 0 < l.length := by
    cases l with
    | nil => cases h1
    | cons => simp
  obtain ⟨n, hn⟩ : ∃ n, l.length = n + 1 := ⟨l.length - 1, by omega⟩
  have hw := dN_pos (fs l) l.length 0
  rw [hn] at h2 hw ⊢
  rw [walkW, if_pos (by omega)] at h2
  cases he : errD (dN (fs l) (n + 1) 0) with
  | true => rw [he, if_pos rfl] at h2; cases h2
  | false =>
    rw [he, if_neg (by decide)] at h2
    cases hb : beginsB (dN (fs l) (n + 1) 0).1 with
    | false => rw [hb, if_pos ⟨rfl, rfl⟩] at h2; cases h2
    | true =>
      rw [hb, if_neg (fun h => absurd h.2 (by decide))] at h2
      cases hg : goesB (dN (fs l) (n + 1) 0).1 with
      | false => rw [hg, if_pos rfl] at h2; cases h2
      | true =>
        rw [hg, if_neg (by decide), walkW_pos _ _ _ _ (by omega)] at h2
        exact ⟨by omega, rfl, rfl, rfl, by rw [walkG_go (by omega) he hg]; exact h2⟩

theorem name_behind (l : List UInt8) (m : Nat) (h : nameW l = true) (hk : 0 < (encN m).length) : nameW (l ++ encB m) = goesB (m : Int) := by
  obtain ⟨hl, he, hb, hg, hw⟩ := name_parts h
  have hfit := dN_fits hl he
  have hpos := dN_pos (fs l) l.length 0
  have hlen : (l ++ encB m).length = l.length + (encN m).length := by rw [List.length_append, encB_length]
  have hne : (l ++ encB m).isEmpty = false := by
    cases l with
    | nil => simp at hl
    | cons => rfl
  have e := dN_grow (f' := fs (l ++ encB m)) (N' := l.length + (encN m).length) hl he (by omega) (fun i hi => fs_left _ _ _ (by omega))
  obtain ⟨n, hn⟩ : ∃ n, l.length + (encN m).length = n + 1 := ⟨l.length + (encN m).length - 1, by omega⟩
  obtain ⟨n', hn'⟩ : ∃ n', l.length = n' + 1 := ⟨l.length - 1, by omega⟩
  have hw2 : walkG (fs l) l.length n (0 + (dN (fs l) l.length 0).2) = true := by
    rw [hn'] at hw
    rw [walkG_go (by omega) (by rw [← hn']; exact he) (by rw [← hn']; exact hg)] at hw
    rw [hn', ← hw]
    rw [← hn']
    exact walkG_fuel _ _ _ _ _ (by omega) (by omega)
  have hon := walkG_on (fs l) (fs (l ++ encB m)) l.length (encN m).length (fun i hi => fs_left _ _ _ hi) n (0 + (dN (fs l) l.length 0).2) (by omega) (by omega) hw2
  have hx := dN_enc m (fs (l ++ encB m)) (l.length + (encN m).length) l.length hk (by omega) (fun i hi => by rw [Nat.add_comm, fs_right, encB_at m i hi])
  have hlast : walkG (fs (l ++ encB m)) (l.length + (encN m).length) (l.length + (encN m).length) l.length = goesB (m : Int) := by
    rw [hn, ← hn]
    conv => lhs; arg 3; rw [hn]
    rw [walkG, if_pos (by omega), hx, enc_right m hk, if_neg (by decide)]
    cases hgm : goesB (m : Int) with
    | false => rw [if_pos rfl]
    | true => rw [if_neg (by decide), walkG_done _ _ _ _ (by simp only; omega)]
  unfold nameW
  rw [hne, hlen]
  rw [hlast] at hon
  have : walkW (fs (l ++ encB m)) (l.length + (encN m).length) (l.length + (encN m).length) 0 = goesB (m : Int) := by
    conv => lhs; arg 3; rw [hn]
    rw [walkW, if_pos (by omega), e, he, hb, hg, if_neg (by decide), if_neg (fun h => absurd h.2 (by decide)), if_neg (by decide), walkW_pos _ _ _ _ (by omega)]
    exact hon
  rw [this]
  rfl

theorem name_ahead (l : List UInt8) (m : Nat) (h : nameW l = true) (hk : 0 < (encN m).length) : nameW (encB m ++ l) = beginsB (m : Int) := by
  obtain ⟨hl, he, hb, hg, hw⟩ := name_parts h
  have hlen : (encB m ++ l).length = l.length + (encN m).length := by rw [List.length_append, encB_length]; omega
  have hne : (encB m ++ l).isEmpty = false := by
    cases hq : encB m with
    | nil => have := encB_length m; rw [hq] at this; simp at this; omega
    | cons => rfl
  have hx := dN_enc m (fs (encB m ++ l)) (l.length + (encN m).length) 0 hk (by omega) (fun i hi => by rw [Nat.zero_add, fs_left _ _ _ (by rw [encB_length]; exact hi), encB_at m i hi])
  obtain ⟨n, hn⟩ : ∃ n, l.length + (encN m).length = n + 1 := ⟨l.length + (encN m).length - 1, by omega⟩
  have hsh := walkG_shift (fs l) (fs (encB m ++ l)) l.length (encN m).length (fun i => by have := fs_right (encB m) l i; rwa [encB_length] at this) n 0
  have hall : walkG (fs l) l.length n 0 = true := by
    rw [← hw]
    exact walkG_fuel _ _ _ _ _ (by omega) (by omega)
  rw [hall] at hsh
  unfold nameW
  rw [hne, hlen]
  have : walkW (fs (encB m ++ l)) (l.length + (encN m).length) (l.length + (encN m).length) 0 = beginsB (m : Int) := by
    conv => lhs; arg 3; rw [hn]
    rw [walkW, if_pos (by omega), hx, enc_right m hk, if_neg (by decide)]
    simp only
    cases hbm : beginsB (m : Int) with
    | false => simp
    | true =>
      rw [if_neg (fun h => absurd h.2 (by decide)), begins_goes _ hbm, if_neg (by decide), walkW_pos _ _ _ _ (by omega)]
      exact hsh
  rw [this]
  rfl

theorem walkG_clean (f : Nat → Nat) (N : Nat) : ∀ (g p : Nat), N ≤ g + p → walkG f N g p = true → ∀ i, p ≤ i → i < N → pBl (f i) = false
  | 0, p, h, _, i, h1, h2 => by omega
  | g + 1, p, h, hw, i, h1, h2 => by
    have hp : p < N := by omega
    obtain ⟨he, hg, hr⟩ := walkG_step hp hw
    have hpos := dN_pos f N p
    by_cases hi : i < p + (dN f N p).2
    · have he2 : ¬ ((dN f N p).1 = 65533 ∧ (dN f N p).2 = 1) := fun h => by rw [(errD_iff _).2 h] at he; cases he
      have hs := decodeN_shape (N - p) (f p) (f (p + 1)) (f (p + 2)) (f (p + 3)) (by omega) he2
      have h4 := decodeN_width (N - p) (f p) (f (p + 1)) (f (p + 2)) (f (p + 3))
      by_cases h1w : (dN f N p).2 = 1
      · have hi0 : i = p := by omega
        have hf := (hs.2.1 h1w)
        rw [hi0]
        have := (goes_nat _ hg).2
        unfold dN at this
        rw [hf.2] at this
        exact this
      · apply pBl_high
        have hw1 : 1 < (decodeN (N - p) (f p) (f (p + 1)) (f (p + 2)) (f (p + 3))).2 := by unfold dN at h1w hpos; omega
        have b01 := hs.2.2.1 hw1
        rcases (show i = p ∨ i = p + 1 ∨ i = p + 2 ∨ i = p + 3 from by unfold dN at hi; omega) with rfl | rfl | rfl | rfl
        · exact b01.1
        · exact b01.2
        · exact hs.2.2.2.1 (by unfold dN at hi; omega)
        · exact hs.2.2.2.2 (by unfold dN at hi; omega)
    · exact walkG_clean f N g _ (by omega) hr i (by omega) h2

theorem name_clean {l : List UInt8} (h : nameW l = true) : l ≠ [] ∧ ∀ b ∈ l, isBl b = false := by
  obtain ⟨hl, _, _, _, hw⟩ := name_parts h
  refine ⟨fun h0 => by rw [h0] at hl; simp at hl, fun b hb => ?_⟩
  obtain ⟨i, hi, rfl⟩ := List.getElem_of_mem hb
  have := walkG_clean (fs l) l.length l.length 0 (by omega) hw i (by omega) hi
  unfold fs at this
  rw [List.getD_eq_getElem?_getD, List.getElem?_eq_getElem hi] at this
  exact this

/-! ### Lines a second time -/
end Go.Proofs.YtkpgbcackphdbaaDoor
