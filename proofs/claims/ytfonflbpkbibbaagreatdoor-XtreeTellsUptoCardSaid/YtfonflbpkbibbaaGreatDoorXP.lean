/-
  Names beside runes: the program's word on a name is the reference's; a rune behind a name, a rune ahead of one; a name holds no blank. Lines a second time. No condition. A document's tokens by definition, step by step as the program's scan reads them: what a step tells and what is left behind it, or a code and a place. Of no program. No condition.
-/
import Derived.Test.YtfonflbpkbibbaaGreatDoorTrim
import Derived.Test.YtfonflbpkbibbaaGreatDoorEnc2
namespace Go.Proofs.YtfonflbpkbibbaaGreatDoor
set_option linter.unusedVariables false
open Go.RowKit Go.Lib

theorem goes_nat (m : Nat) (h : goesB (m : Int) = true) : inTab charsT (m : Int) = true ∧ pBl m = false := by
  have hp : pBl m = false ↔ ¬ (m = 9 ∨ m = 10 ∨ m = 13 ∨ m = 32) := by
    unfold pBl
    rw [← Bool.not_eq_true]
    simp only [Bool.or_eq_true, beq_iff_eq]
    omega
  rw [chars_nat, hp]
  simp only [goesB, inTab, firstsT, furtherT, List.any_cons, List.any_nil, inPair, Bool.or_false, Bool.or_eq_true, Bool.and_eq_true, decide_eq_true_eq] at h
  omega

theorem begins_goes (r : Int) (h : beginsB r = true) : goesB r = true := by
  unfold goesB
  rw [show inTab firstsT r = true from h, Bool.or_true]

/-- The walk without the first rune's own rule. -/
def walkG (f : Nat → Nat) (N : Nat) : Nat → Nat → Bool
  | 0, _ => true
  | g + 1, p => if p < N then (if errD (dN f N p) = true then false else if goesB (dN f N p).1 = false then false else walkG f N g (p + (dN f N p).2)) else true

theorem walkG_done (f : Nat → Nat) (N g p : Nat) (h : ¬ p < N) : walkG f N g p = true := by
  cases g with
  | zero => rfl
  | succ g => rw [walkG, if_neg h]

theorem dN_pos (f : Nat → Nat) (N p : Nat) : 1 ≤ (dN f N p).2 := decodeN_pos _ _ _ _ _

theorem walkW_pos (f : Nat → Nat) (N : Nat) : ∀ (g p : Nat), 0 < p → walkW f N g p = walkG f N g p
  | 0, _, _ => rfl
  | g + 1, p, hp => by
    rw [walkW, walkG, walkW_pos f N g (p + (dN f N p).2) (by omega)]
    have h0 : ¬ (p = 0 ∧ beginsB (dN f N p).1 = false) := fun h => by omega
    simp only [if_neg h0]

theorem walkG_fuel (f : Nat → Nat) (N : Nat) : ∀ (g h p : Nat), N ≤ g + p → N ≤ h + p → walkG f N g p = walkG f N h p
  | 0, h, p, h1, _ => by rw [walkG_done f N h p (by omega)]; rfl
  | g + 1, 0, p, _, h2 => by rw [walkG_done f N (g + 1) p (by omega)]; rfl
  | g + 1, h + 1, p, h1, h2 => by
    have := dN_pos f N p
    rw [walkG, walkG, walkG_fuel f N g h (p + (dN f N p).2) (by omega) (by omega)]

/-- What stands of the walk at a place inside. -/
theorem walkG_step {f : Nat → Nat} {N g p : Nat} (hp : p < N) (h : walkG f N (g + 1) p = true) : errD (dN f N p) = false ∧ goesB (dN f N p).1 = true ∧ walkG f N g (p + (dN f N p).2) = true := by
  rw [walkG, if_pos hp] at h
  cases he : errD (dN f N p) with
  | true => rw [he, if_pos rfl] at h; cases h
  | false =>
    rw [he, if_neg (by decide)] at h
    cases hg : goesB (dN f N p).1 with
    | false => rw [hg, if_pos rfl] at h; cases h
    | true => rw [hg, if_neg (by decide)] at h; exact ⟨rfl, rfl, h⟩

theorem walkG_go {f : Nat → Nat} {N g p : Nat} (hp : p < N) (he : errD (dN f N p) = false) (hg : goesB (dN f N p).1 = true) : walkG f N (g + 1) p = walkG f N g (p + (dN f N p).2) := by
  rw [walkG, if_pos hp, he, hg, if_neg (by decide), if_neg (by decide)]

theorem nx_err {f : Nat → Nat} {N p : Nat} (h : errD (dN f N p) = true) : nx f N p = (0, 0) := by
  have := (errD_iff _).1 h
  unfold nx
  exact if_neg (fun h2 => h2.2 this)
theorem nx_no {f : Nat → Nat} {N p : Nat} (h : ¬ inTab charsT (dN f N p).1 = true) : nx f N p = (0, 0) := by
  unfold nx
  exact if_neg (fun h2 => h h2.1)
theorem nx_yes {f : Nat → Nat} {N p : Nat} (h : errD (dN f N p) = false) (hc : inTab charsT (dN f N p).1 = true) : nx f N p = dN f N p := by
  unfold nx
  exact if_pos ⟨hc, fun h2 => by
    have h3 : errD (dN f N p) = true := (errD_iff _).2 h2
    rw [h] at h3
    cases h3⟩

def allR (q : Option (List Nat)) : Bool :=
  match q with
  | none => false
  | some l => l.all fun x => goesB (x : Int)

theorem runes_walk (f : Nat → Nat) (N : Nat) : ∀ (g p : Nat), N ≤ g + p → allR (runesFrom f N g p) = walkG f N g p
  | 0, _, _ => rfl
  | g + 1, p, h => by
    by_cases hp : p < N
    · have hw := dN_pos f N p
      have ih := runes_walk f N g (p + (dN f N p).2) (by omega)
      rw [runesFrom, if_pos hp, walkG, if_pos hp]
      cases he : errD (dN f N p) with
      | true => rw [nx_err he]; rfl
      | false =>
        rw [if_neg (show ¬ false = true by decide)]
        by_cases hc : inTab charsT (dN f N p).1 = true
        · rw [nx_yes he hc, if_neg (show ¬ (dN f N p).2 = 0 by omega), ← ih]
          cases runesFrom f N g (p + (dN f N p).2) with
          | none => simp [allR]
          | some l =>
            simp only [allR, Option.map_some, List.all_cons]
            cases goesB (dN f N p).1 <;> simp
        · rw [nx_no hc, if_pos rfl]
          have : goesB (dN f N p).1 = false := by
            cases hq : goesB ((dN f N p).1 : Int) with
            | false => rfl
            | true => exact absurd (goes_nat _ hq).1 hc
          rw [if_pos this]
          rfl
    · rw [walkG_done f N (g + 1) p hp, runesFrom, if_neg hp]
      rfl

theorem nameR_eq (l : List UInt8) : nameR (runesFrom (fs l) l.length l.length 0) = nameW l := by
  cases l with
  | nil => rfl
  | cons b t =>
    obtain ⟨l, hl⟩ : ∃ l, b :: t = l := ⟨_, rfl⟩
    obtain ⟨n, hn⟩ : ∃ n, l.length = n + 1 := ⟨t.length, by rw [← hl]; rfl⟩
    have hemp : l.isEmpty = false := by rw [← hl]; rfl
    rw [hl]
    unfold nameW
    rw [hemp, hn]
    have hp : 0 < n + 1 := by omega
    have hw := dN_pos (fs l) (n + 1) 0
    have ih := runes_walk (fs l) (n + 1) n (0 + (dN (fs l) (n + 1) 0).2) (by omega)
    rw [runesFrom, if_pos hp, walkW, if_pos hp]
    cases he : errD (dN (fs l) (n + 1) 0) with
    | true => rw [nx_err he]; rfl
    | false =>
      rw [if_neg (show ¬ false = true by decide)]
      by_cases hc : inTab charsT (dN (fs l) (n + 1) 0).1 = true
      · rw [nx_yes he hc, if_neg (show ¬ (dN (fs l) (n + 1) 0).2 = 0 by omega), walkW_pos _ _ _ _ (by omega), ← ih]
        cases runesFrom (fs l) (n + 1) n (0 + (dN (fs l) (n + 1) 0).2) with
        | none => simp [allR, nameR]
        | some u =>
          simp only [allR, nameR, Option.map_some, List.all_cons, true_and, Bool.not_false, Bool.true_and]
          cases beginsB ((dN (fs l) (n + 1) 0).1 : Int) <;> cases goesB ((dN (fs l) (n + 1) 0).1 : Int) <;> simp
      · rw [nx_no hc, if_pos rfl]
        have hg : goesB (dN (fs l) (n + 1) 0).1 = false := by
          cases hq : goesB ((dN (fs l) (n + 1) 0).1 : Int) with
          | false => rfl
          | true => exact absurd (goes_nat _ hq).1 hc
        rw [if_pos hg]
        simp [nameR]

/-! ### A rune behind a name, a rune ahead of one -/
theorem walkG_on (f f' : Nat → Nat) (N M : Nat) (hf : ∀ i, i < N → f' i = f i) : ∀ (g p : Nat), p ≤ N → N + M ≤ g + p → walkG f N g p = true → walkG f' (N + M) g p = walkG f' (N + M) (N + M) N
  | 0, p, h1, h2, _ => by
    rw [walkG_done f' (N + M) (N + M) N (by omega)]
    rfl
  | g + 1, p, h1, h2, h => by
    by_cases hp : p < N
    · obtain ⟨he, hg, hr⟩ := walkG_step hp h
      have hfit := dN_fits hp he
      have hw := dN_pos f N p
      have e := dN_grow (f' := f') (N' := N + M) hp he (by omega) (fun i hi => hf i (by omega))
      rw [walkG_go (by omega) (by rw [e]; exact he) (by rw [e]; exact hg), e]
      exact walkG_on f f' N M hf g _ hfit (by omega) hr
    · have : p = N := by omega
      subst this
      exact walkG_fuel f' (p + M) (g + 1) (p + M) p (by omega) (by omega)

theorem walkG_shift (f f' : Nat → Nat) (N k : Nat) (hf : ∀ i, f' (i + k) = f i) : ∀ (g p : Nat), walkG f' (N + k) g (p + k) = walkG f N g p
  | 0, _ => rfl
  | g + 1, p => by
    have e : dN f' (N + k) (p + k) = dN f N p := by
      rw [← dN_shift]
      exact congrArg (fun h => dN h N p) (funext hf)
    have hc : (p + k < N + k) = (p < N) := propext ⟨fun h => by omega, fun h => by omega⟩
    rw [walkG, walkG, e, show p + k + (dN f N p).2 = p + (dN f N p).2 + k by omega, walkG_shift f f' N k hf g _]
    simp only [hc]

theorem fs_left (a b : List UInt8) (i : Nat) (h : i < a.length) : fs (a ++ b) i = fs a i := by
  unfold fs
  rw [List.getD_eq_getElem?_getD, List.getD_eq_getElem?_getD, List.getElem?_append_left h]
theorem fs_right (a b : List UInt8) (i : Nat) : fs (a ++ b) (i + a.length) = fs b i := by
  unfold fs
  rw [List.getD_eq_getElem?_getD, List.getD_eq_getElem?_getD, List.getElem?_append_right (by omega), Nat.add_sub_cancel]

/-- A rune's bytes. -/
def encB (m : Nat) : List UInt8 := (encN m).map fun x => UInt8.ofNat x

theorem encN_lt (m : Nat) : ∀ x ∈ encN m, x < 256 := by
  have := encL_lt (m : Int)
  rwa [encL_nat] at this

theorem encB_at (m i : Nat) (h : i < (encN m).length) : fs (encB m) i = nth (encN m) i := by
  unfold fs encB nth
  rw [List.getD_eq_getElem?_getD, List.getD_eq_getElem?_getD, List.getElem?_map]
  cases hq : (encN m)[i]? with
  | none => rw [List.getElem?_eq_none_iff] at hq; omega
  | some x =>
    have hx := encN_lt m x (List.mem_of_getElem? hq)
    simp only [Option.map_some, Option.getD_some]
    exact UInt8.toNat_ofNat_of_lt' (by simpa using hx)

theorem encB_length (m : Nat) : (encB m).length = (encN m).length := by simp [encB]

theorem name_parts {l : List UInt8} (h : nameW l = true) : 0 < l.length ∧ errD (dN (fs l) l.length 0) = false ∧ beginsB (dN (fs l) l.length 0).1 = true ∧ goesB (dN (fs l) l.length 0).1 = true ∧ walkG (fs l) l.length l.length 0 = true := by
  unfold nameW at h
  rw [Bool.and_eq_true] at h
  obtain ⟨h1, h2⟩ := h
  have hl : 0 < l.length := by
    cases l with
    | nil => cases h1
    | cons => simp
  obtain ⟨n, hn⟩ : ∃ n, l.length = n + 1 := ⟨l.length - 1, by omega⟩
  have hw := dN_pos (fs l) l.length 0
  rw [hn] at h2 hw ⊢
  rw [walkW, if_pos (by omega)] at h2
  cases he : errD (dN (fs l) (n + 1) 0) with
  | true => rw [he, if_pos rfl] at h2; cases h2
  | false =>
    rw [he, if_neg (by decide)] at h2
    cases hb : beginsB (dN (fs l) (n + 1) 0).1 with
    | false => rw [hb, if_pos ⟨rfl, rfl⟩] at h2; cases h2
    | true =>
      rw [hb, if_neg (fun h => absurd h.2 (by decide))] at h2
      cases hg : goesB (dN (fs l) (n + 1) 0).1 with
      | false => rw [hg, if_pos rfl] at h2; cases h2
      | true =>
        rw [hg, if_neg (by decide), walkW_pos _ _ _ _ (by omega)] at h2
        exact ⟨by omega, rfl, rfl, rfl, by rw [walkG_go (by omega) he hg]; exact h2⟩

theorem name_behind (l : List UInt8) (m : Nat) (h : nameW l = true) (hk : 0 < (encN m).length) : nameW (l ++ encB m) = goesB (m : Int) := by
  obtain ⟨hl, he, hb, hg, hw⟩ := name_parts h
  have hfit := dN_fits hl he
  have hpos := dN_pos (fs l) l.length 0
  have hlen : (l ++ encB m).length = l.length + (encN m).length := by rw [List.length_append, encB_length]
  have hne : (l ++ encB m).isEmpty = false := by
    cases l with
    | nil => simp at hl
    | cons => rfl
  have e := dN_grow (f' := fs (l ++ encB m)) (N' := l.length + (encN m).length) hl he (by omega) (fun i hi => fs_left _ _ _ (by omega))
  obtain ⟨n, hn⟩ : ∃ n, l.length + (encN m).length = n + 1 := ⟨l.length + (encN m).length - 1, by omega⟩
  obtain ⟨n', hn'⟩ : ∃ n', l.length = n' + 1 := ⟨l.length - 1, by omega⟩
  have hw2 : walkG (fs l) l.length n (0 + (dN (fs l) l.length 0).2) = true := by
    rw [hn'] at hw
    rw [walkG_go (by omega) (by rw [← hn']; exact he) (by rw [← hn']; exact hg)] at hw
    rw [hn', ← hw]
    rw [← hn']
    exact walkG_fuel _ _ _ _ _ (by omega) (by omega)
  have hon := walkG_on (fs l) (fs (l ++ encB m)) l.length (encN m).length (fun i hi => fs_left _ _ _ hi) n (0 + (dN (fs l) l.length 0).2) (by omega) (by omega) hw2
  have hx := dN_enc m (fs (l ++ encB m)) (l.length + (encN m).length) l.length hk (by omega) (fun i hi => by rw [Nat.add_comm, fs_right, encB_at m i hi])
  have hlast : walkG (fs (l ++ encB m)) (l.length + (encN m).length) (l.length + (encN m).length) l.length = goesB (m : Int) := by
    rw [hn, ← hn]
    conv => lhs; arg 3; rw [hn]
    rw [walkG, if_pos (by omega), hx, enc_right m hk, if_neg (by decide)]
    cases hgm : goesB (m : Int) with
    | false => rw [if_pos rfl]
    | true => rw [if_neg (by decide), walkG_done _ _ _ _ (by simp only; omega)]
  unfold nameW
  rw [hne, hlen]
  rw [hlast] at hon
  have : walkW (fs (l ++ encB m)) (l.length + (encN m).length) (l.length + (encN m).length) 0 = goesB (m : Int) := by
    conv => lhs; arg 3; rw [hn]
    rw [walkW, if_pos (by omega), e, he, hb, hg, if_neg (by decide), if_neg (fun h => absurd h.2 (by decide)), if_neg (by decide), walkW_pos _ _ _ _ (by omega)]
    exact hon
  rw [this]
  rfl

theorem name_ahead (l : List UInt8) (m : Nat) (h : nameW l = true) (hk : 0 < (encN m).length) : nameW (encB m ++ l) = beginsB (m : Int) := by
  obtain ⟨hl, he, hb, hg, hw⟩ := name_parts h
  have hlen : (encB m ++ l).length = l.length + (encN m).length := by rw [List.length_append, encB_length]; omega
  have hne : (encB m ++ l).isEmpty = false := by
    cases hq : encB m with
    | nil => have := encB_length m; rw [hq] at this; simp at this; omega
    | cons => rfl
  have hx := dN_enc m (fs (encB m ++ l)) (l.length + (encN m).length) 0 hk (by omega) (fun i hi => by rw [Nat.zero_add, fs_left _ _ _ (by rw [encB_length]; exact hi), encB_at m i hi])
  obtain ⟨n, hn⟩ : ∃ n, l.length + (encN m).length = n + 1 := ⟨l.length + (encN m).length - 1, by omega⟩
  have hsh := walkG_shift (fs l) (fs (encB m ++ l)) l.length (encN m).length (fun i => by have := fs_right (encB m) l i; rwa [encB_length] at this) n 0
  have hall : walkG (fs l) l.length n 0 = true := by
    rw [← hw]
    exact walkG_fuel _ _ _ _ _ (by omega) (by omega)
  rw [hall] at hsh
  unfold nameW
  rw [hne, hlen]
  have : walkW (fs (encB m ++ l)) (l.length + (encN m).length) (l.length + (encN m).length) 0 = beginsB (m : Int) := by
    conv => lhs; arg 3; rw [hn]
    rw [walkW, if_pos (by omega), hx, enc_right m hk, if_neg (by decide)]
    simp only
    cases hbm : beginsB (m : Int) with
    | false => simp
    | true =>
      rw [if_neg (fun h => absurd h.2 (by decide)), begins_goes _ hbm, if_neg (by decide), walkW_pos _ _ _ _ (by omega)]
      exact hsh
  rw [this]
  rfl

theorem walkG_clean (f : Nat → Nat) (N : Nat) : ∀ (g p : Nat), N ≤ g + p → walkG f N g p = true → ∀ i, p ≤ i → i < N → pBl (f i) = false
  | 0, p, h, _, i, h1, h2 => by omega
  | g + 1, p, h, hw, i, h1, h2 => by
    have hp : p < N := by omega
    obtain ⟨he, hg, hr⟩ := walkG_step hp hw
    have hpos := dN_pos f N p
    by_cases hi : i < p + (dN f N p).2
    · have he2 : ¬ ((dN f N p).1 = 65533 ∧ (dN f N p).2 = 1) := fun h => by rw [(errD_iff _).2 h] at he; cases he
      have hs := decodeN_shape (N - p) (f p) (f (p + 1)) (f (p + 2)) (f (p + 3)) (by omega) he2
      have h4 := decodeN_width (N - p) (f p) (f (p + 1)) (f (p + 2)) (f (p + 3))
      by_cases h1w : (dN f N p).2 = 1
      · have hi0 : i = p := by omega
        have hf := (hs.2.1 h1w)
        rw [hi0]
        have := (goes_nat _ hg).2
        unfold dN at this
        rw [hf.2] at this
        exact this
      · apply pBl_high
        have hw1 : 1 < (decodeN (N - p) (f p) (f (p + 1)) (f (p + 2)) (f (p + 3))).2 := by unfold dN at h1w hpos; omega
        have b01 := hs.2.2.1 hw1
        rcases (show i = p ∨ i = p + 1 ∨ i = p + 2 ∨ i = p + 3 from by unfold dN at hi; omega) with rfl | rfl | rfl | rfl
        · exact b01.1
        · exact b01.2
        · exact hs.2.2.2.1 (by unfold dN at hi; omega)
        · exact hs.2.2.2.2 (by unfold dN at hi; omega)
    · exact walkG_clean f N g _ (by omega) hr i (by omega) h2

theorem name_clean {l : List UInt8} (h : nameW l = true) : l ≠ [] ∧ ∀ b ∈ l, isBl b = false := by
  obtain ⟨hl, _, _, _, hw⟩ := name_parts h
  refine ⟨fun h0 => by rw [h0] at hl; simp at hl, fun b hb => ?_⟩
  obtain ⟨i, hi, rfl⟩ := List.getElem_of_mem hb
  have := walkG_clean (fs l) l.length l.length 0 (by omega) hw i (by omega) hi
  unfold fs at this
  rw [List.getD_eq_getElem?_getD, List.getElem?_eq_getElem hi] at this
  exact this

/-! ### Lines a second time -/
theorem eols_no13 : ∀ l, ∀ b ∈ eols l, b ≠ 13
  | [], b, h => by simp [eols] at h
  | x :: t, b, h => by
    rw [eols_cons] at h
    by_cases hx : x = 13
    · rw [if_pos hx] at h
      by_cases h2 : t.head? = some 10
      · rw [if_pos h2] at h; exact eols_no13 t b h
      · rw [if_neg h2] at h
        rcases List.mem_cons.1 h with rfl | h
        · decide
        · exact eols_no13 t b h
    · rw [if_neg hx] at h
      rcases List.mem_cons.1 h with rfl | h
      · exact hx
      · exact eols_no13 t b h

theorem eols_same : ∀ l : List UInt8, (∀ b ∈ l, b ≠ 13) → eols l = l
  | [], _ => rfl
  | x :: t, h => by rw [eols_cons, if_neg (h x (by simp)), eols_same t (fun b hb => h b (by simp [hb]))]

theorem eols_again (l : List UInt8) : eols (eols l) = eols l := eols_same _ (eols_no13 l)

theorem eols_length : ∀ l, (eols l).length ≤ l.length
  | [] => Nat.le_refl _
  | b :: t => by
    have := eols_length t
    rw [eols_cons]
    repeat' split
    all_goals simp only [List.length_cons]
    all_goals omega

end Go.Proofs.YtfonflbpkbibbaaGreatDoor
namespace Go.Proofs.YtfonflbpkbibbaaGreatDoor

/-- What a step answers: what it tells, the place behind it and what is left there; or a code and a place. -/
inductive Sx (α : Type) where
  | ok (x : α) (i : Nat) (r : List UInt8)
  | no (c p : Nat)
/-- A step behind a step. -/
def Sx.then {α β : Type} (s : Sx α) (f : α → Nat → List UInt8 → Sx β) : Sx β :=
  match s with
  | .ok x i r => f x i r
  | .no c p => .no c p
theorem Sx.then_ok {α β : Type} (x : α) (i : Nat) (r : List UInt8) (f : α → Nat → List UInt8 → Sx β) : (Sx.ok x i r).then f = f x i r := rfl
theorem Sx.then_no {α β : Type} (c p : Nat) (f : α → Nat → List UInt8 → Sx β) : (Sx.no c p : Sx α).then f = .no c p := rfl

def peekS (i : Nat) : List UInt8 → Sx UInt8
  | [] => .no 6 i
  | x :: t => .ok x i (x :: t)
def mustS (c : UInt8) (i : Nat) : List UInt8 → Sx Unit
  | [] => .no 6 i
  | x :: t => if x = c then .ok () (i + 1) t else .no 2 i
def blkS (i : Nat) : List UInt8 → Sx Unit
  | [] => .no 6 i
  | x :: t => if blankB (x.toNat : Int) = true then blkS (i + 1) t else .ok () i (x :: t)
def blanksS (i : Nat) (r : List UInt8) : Sx Bool := (blkS i r).then fun _ j t => .ok (decide (i < j)) j t
/-- May a rune stand here in a name? -/
def fitsB (fb : Bool) (m : Nat) : Bool := if fb then beginsB (m : Int) else goesB (m : Int)
def nmG : Nat → Bool → Nat → List UInt8 → Sx Unit
  | 0, _, i, _ => .no 6 i
  | g + 1, fb, i, r =>
    if r = [] then .no 6 i
    else if fitsB fb (nx (fs r) r.length 0).1 = true then nmG g false (i + (nx (fs r) r.length 0).2) (r.drop (nx (fs r) r.length 0).2)
    else .ok () i r
def nameS (i : Nat) (r : List UInt8) : Sx (List UInt8) := (nmG r.length true i r).then fun _ j t => if j = i then .no 2 i else .ok (r.take (j - i)) j t
/-- What stands ahead of a text, and behind it. -/
def cutS (m : List UInt8) : List UInt8 → Option (List UInt8 × List UInt8)
  | [] => none
  | x :: t => if m.isPrefixOf (x :: t) = true then some ([], (x :: t).drop m.length) else (cutS m t).map fun q => (x :: q.1, q.2)
def upToS (m : List UInt8) (i : Nat) (r : List UInt8) : Sx (List UInt8) :=
  match cutS m r with
  | none => .no 6 (i + r.length)
  | some q => .ok (eols q.1) (i + q.1.length + m.length) q.2
/-- A digit's value; 99: it is none. -/
def digS (c : UInt8) : Nat := if 48 ≤ c ∧ c ≤ 57 then c.toNat - 48 else if 97 ≤ c ∧ c ≤ 102 then c.toNat - 97 + 10 else if 65 ≤ c ∧ c ≤ 70 then c.toNat - 65 + 10 else 99
def digsS (base : Nat) : Nat → List UInt8 → Option Nat
  | v, [] => some v
  | v, c :: t => if digS c < base then digsS base (v * base + digS c) t else none
/-- The number below 2^31 that digits tell, if they tell one. -/
def numS (base : Nat) (s : List UInt8) : Option Nat :=
  if s = [] then none else (digsS base 0 s).bind fun v => if v < 2147483648 then some v else none
def charS (q : Option Nat) : Option Nat := q.bind fun v => if inTab charsT (v : Int) = true then some v else none
/-- What stands between & and ; of a reference: its rune. -/
def toldS (s : List UInt8) : Option Nat :=
  if s = [97, 109, 112] then some 38
  else if s = [108, 116] then some 60
  else if s = [103, 116] then some 62
  else if s = [113, 117, 111, 116] then some 34
  else if s = [97, 112, 111, 115] then some 39
  else if [35, 120].isPrefixOf s = true then charS (numS 16 (s.drop 2))
  else if [35].isPrefixOf s = true then charS (numS 10 (s.drop 1))
  else none
def refS (i : Nat) (r : List UInt8) : Sx Nat :=
  match cutS [59] (r.drop 1) with
  | none => .no 5 i
  | some q => match toldS q.1 with
    | none => .no 5 i
    | some n => .ok n (i + (1 + q.1.length + 1)) q.2
/-- Where a text first stands. -/
def atS (m : List UInt8) (r : List UInt8) : Option Nat := (cutS m r).map fun q => q.1.length
/-- Each tab and each end of a line a blank. -/
def flatS (l : List UInt8) : List UInt8 := (eols l).map fun x => if x = 10 ∨ x = 9 then 32 else x
/-- A run between references, turned; or the place of what may not stand there. -/
def turnS (q : Option UInt8) (i : Nat) (run : List UInt8) : Except Nat (List UInt8) :=
  match q with
  | none => match atS [93, 93, 62] run with
    | some k => .error (i + k)
    | none => .ok (eols run)
  | some _ => .ok (flatS run)
/-- Is a byte one that ends a run? -/
def endS (q : Option UInt8) (x : UInt8) : Bool := x == 60 || x == 38 || (match q with | none => false | some c => x == c)
def runS (q : Option UInt8) (r : List UInt8) : List UInt8 := r.takeWhile fun x => !endS q x
def restS (q : Option UInt8) (r : List UInt8) : List UInt8 := r.dropWhile fun x => !endS q x
/-- References, and between them runs that are turned. -/
def mixG (q : Option UInt8) : Nat → Nat → List UInt8 → Sx (List UInt8)
  | 0, i, _ => .no 6 i
  | g + 1, i, r =>
    match turnS q i (runS q r) with
    | .error p => .no 2 p
    | .ok t =>
      if [38].isPrefixOf (restS q r) = true then
        (refS (i + (runS q r).length) (restS q r)).then fun n j t2 => (mixG q g j t2).then fun u k t3 => .ok (t ++ (encB n ++ u)) k t3
      else .ok t (i + (runS q r).length) (restS q r)
def mixS (q : Option UInt8) (i : Nat) (r : List UInt8) : Sx (List UInt8) := mixG q (r.length + 1) i r
def valueS (i : Nat) (r : List UInt8) : Sx (List UInt8) :=
  (peekS i r).then fun x _ _ =>
    if x ≠ 34 ∧ x ≠ 39 then .no 2 i
    else (mixS (some x) (i + 1) (r.drop 1)).then fun u j t => (mustS x j t).then fun _ k t2 => .ok u k t2
def attrS (seen : List (List UInt8)) (i : Nat) (r : List UInt8) : Sx (List UInt8 × List UInt8) :=
  (nameS i r).then fun nm j t =>
    if nm ∈ seen then .no 4 i
    else (blanksS j t).then fun _ j t => (mustS 61 j t).then fun _ j t => (blanksS j t).then fun _ j t => (valueS j t).then fun v j t => .ok (nm, v) j t
/-- A start tag's attributes and its kind. -/
def tagG : Nat → List (List UInt8 × List UInt8) → Nat → List UInt8 → Sx (Nat × List (List UInt8 × List UInt8))
  | 0, _, i, _ => .no 6 i
  | g + 1, ats, i, r =>
    (blanksS i r).then fun apart j t => (peekS j t).then fun x _ _ =>
      if x = 47 then (mustS 62 (j + 1) (t.drop 1)).then fun _ k t2 => .ok (2, ats) k t2
      else if x = 62 then (mustS 62 j t).then fun _ k t2 => .ok (1, ats) k t2
      else if apart = false then .no 2 j
      else (attrS (ats.map Prod.fst) j t).then fun a k t2 => tagG g (ats ++ [a]) k t2
/-- A token. -/
structure Tk where
  kind : Nat
  at_ : Nat
  name : List UInt8
  text : List UInt8
  attrs : List (List UInt8 × List UInt8)
def startS (i : Nat) (r : List UInt8) : Sx (Nat × List UInt8 × List (List UInt8 × List UInt8)) :=
  (nameS i r).then fun nm j t => (tagG (t.length + 1) [] j t).then fun q k t2 => .ok (q.1, nm, q.2) k t2
def endTagS (i : Nat) (r : List UInt8) : Sx (List UInt8) :=
  (nameS i r).then fun nm j t => (blanksS j t).then fun _ j t => (mustS 62 j t).then fun _ k t2 => .ok nm k t2
/-- A letter, small. -/
def smallS (x : UInt8) : UInt8 := if 65 ≤ x ∧ x ≤ 90 then x + 32 else x
/-- Are texts the same but for great and small letters? (of a text of small letters of ASCII without k and s) -/
def sameS (s m : List UInt8) : Bool := s.map smallS == m
def piS (i : Nat) (r : List UInt8) : Sx (List UInt8 × List UInt8) :=
  (nameS i r).then fun nm j t =>
    if sameS nm [120, 109, 108] = true then .no 2 i
    else (blanksS j t).then fun b j t =>
      if b = true then (upToS [63, 62] j t).then fun u k t2 => .ok (nm, u) k t2
      else (mustS 63 j t).then fun _ j t => (mustS 62 j t).then fun _ k t2 => .ok (nm, []) k t2
def commentS (i : Nat) (r : List UInt8) : Sx (List UInt8) :=
  (upToS [45, 45] i r).then fun u j t => (peekS j t).then fun x _ _ => if x ≠ 62 then .no 2 (j - 2) else .ok u (j + 1) (t.drop 1)
/-- Does a mark stand here? The document may end within it. -/
def opensS (m : List UInt8) (i : Nat) (r : List UInt8) : Sx Bool :=
  if r.length < m.length ∧ r.isPrefixOf m = true then .no 6 (i + r.length)
  else if m.isPrefixOf r = true then .ok true (i + m.length) (r.drop m.length)
  else .ok false i r
def lenS (_i : Nat) (m : Sx Bool) (yes : Nat → List UInt8 → Sx Tk) (no : Sx Tk) : Sx Tk := m.then fun b j t => if b = true then yes j t else no
def tokS (i : Nat) (r : List UInt8) : Sx Tk :=
  if [60].isPrefixOf r = false then (mixS none i r).then fun u j t => .ok ⟨4, i, [], u, []⟩ j t
  else lenS i (opensS [60, 33, 45, 45] i r) (fun j t => (commentS j t).then fun u k t2 => .ok ⟨6, i, [], u, []⟩ k t2) <|
    lenS i (opensS [60, 33, 91, 67, 68, 65, 84, 65, 91] i r) (fun j t => (upToS [93, 93, 62] j t).then fun u k t2 => .ok ⟨5, i, [], u, []⟩ k t2) <|
    lenS i (opensS [60, 33] i r) (fun _ _ => .no 2 i) <|
    lenS i (opensS [60, 63] i r) (fun j t => (piS j t).then fun q k t2 => .ok ⟨7, i, q.1, q.2, []⟩ k t2) <|
    lenS i (opensS [60, 47] i r) (fun j t => (endTagS j t).then fun nm k t2 => .ok ⟨3, i, nm, [], []⟩ k t2) <|
    lenS i (opensS [60] i r) (fun j t => (startS j t).then fun q k t2 => .ok ⟨q.1, i, q.2.1, [], q.2.2⟩ k t2) <|
    .ok ⟨0, i, [], [], []⟩ i r
def toksG : Nat → Nat → List UInt8 → Sx (List Tk)
  | 0, i, r => .ok [] i r
  | g + 1, i, r => if r = [] then .ok [] i r else (tokS i r).then fun tk j t => (toksG g j t).then fun l k t2 => .ok (tk :: l) k t2
/-- Blanks at a text's beginning taken off. -/
def trimLS (l : List UInt8) : List UInt8 := l.drop (lead l)
/-- Blanks, a name, = and a value in quotes taken off a text. -/
def saidS (s nm : List UInt8) : Option (List UInt8 × List UInt8) :=
  let bare := trimLS s
  if bare = s then none
  else if nm.isPrefixOf bare = false then none
  else
    let a1 := trimLS (bare.drop nm.length)
    if [61].isPrefixOf a1 = false then none
    else
      match trimLS (a1.drop 1) with
      | [] => none
      | q :: t => if q ≠ 34 ∧ q ≠ 39 then none else cutS [q] t
def declaresS (s : List UInt8) : Bool :=
  let v := (saidS s [118, 101, 114, 115, 105, 111, 110]).getD ([], s)
  let e := saidS v.2 [101, 110, 99, 111, 100, 105, 110, 103]
  let r1 := (e.getD ([], v.2)).2
  let a := saidS r1 [115, 116, 97, 110, 100, 97, 108, 111, 110, 101]
  let r2 := (a.getD ([], r1)).2
  (match e with | none => true | some q => sameS q.1 [117, 116, 102, 45, 56]) &&
  (match a with | none => true | some q => q.1 == [121, 101, 115] || q.1 == [110, 111]) &&
  v.1 == [49, 46, 48] && trimL r2 == []
def declS (b : List UInt8) : Sx Unit :=
  if [60, 63, 120, 109, 108].isPrefixOf b = true ∧ (match b.drop 5 with | [] => false | x :: _ => blankB (x.toNat : Int)) = true then
    (upToS [63, 62] 5 (b.drop 5)).then fun u j t => if declaresS u = true then .ok () j t else .no 2 0
  else .ok () 0 b
/-- The tokens of a document, or the code and the place. -/
def allS (b : List UInt8) : Sx (List Tk) :=
  if 65536 < b.length then .no 8 65536
  else if 0 ≤ badZ (fs b) b.length then .no 1 (badZ (fs b) b.length).toNat
  else (declS b).then fun _ j t => toksG (t.length + 1) j t

end Go.Proofs.YtfonflbpkbibbaaGreatDoor
