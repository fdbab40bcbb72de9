/-
  Tokens written out again, each with a blank behind it, are the same tokens, by definition. Of no program. No condition.
-/
import Derived.Test.YtkpgbcackphdbaaDoorQP
namespace Go.Proofs.YtkpgbcackphdbaaDoor
open Go.RowKit Go.Lib

/-- Runes that a name has, the first of which may begin it. -/
inductive Nm8 : Bool → List UInt8 → Prop
  | nil (fb : Bool) : Nm8 fb []
  | rune (fb : Bool) (v : Nat) (hv : inTab charsT (v : Int) = true) (hf : fitsQ fb v = true) (t : List UInt8) (ht : Nm8 false t) : Nm8 fb (encB v ++ t)
theorem decodeL_enc {v : Nat} (hv : inTab charsT (v : Int) = true) (t : List UInt8) : decodeL (encB v ++ t) = (v, (encB v).length) := by
  have hk := chars_pos hv
  have h := decodeL_at (encB v ++ t) 0
  rw [List.drop_zero] at h
  rw [h, dN_enc v (fs (encB v ++ t)) (encB v ++ t).length 0 hk (by rw [List.length_append, encB_length]; omega) (fun i hi => by rw [Nat.zero_add, fs_left _ _ _ (by rw [encB_length]; exact hi), encB_at v i hi]), encB_length]
theorem Nm8.cons {fb : Bool} {b : UInt8} {t : List UInt8} (h : Nm8 false t) (hb : b.toNat < 128) (hc : inTab charsT (b.toNat : Int) = true) (hf : fitsQ fb b.toNat = true) : Nm8 fb (b :: t) := by
  have := Nm8.rune fb b.toNat hc hf t h
  rw [encB_ascii b hb] at this
  exact this
theorem Nm8.ok {fb : Bool} {l : List UInt8} (h : Nm8 fb l) : Ok8 l := by
  induction h with
  | nil => exact .nil
  | rune fb v hv _ t _ ih => exact .rune v hv t ih
theorem fits32 (fb : Bool) : fitsQ fb 32 = false := by cases fb <;> kernel_rfl
theorem Nm8.len {fb : Bool} {p : List UInt8} (h : Nm8 fb p) : ∀ (g : Nat) (v : List UInt8), (p ++ 32 :: v).length ≤ g → nmLen g fb (p ++ 32 :: v) = p.length := by
  induction h with
  | nil fb =>
    intro g v hg
    rw [List.nil_append] at hg ⊢
    obtain ⟨g, rfl⟩ : ∃ k, g = k + 1 := ⟨g - 1, by rw [List.length_cons] at hg; omega⟩
    rw [nm_ascii _ _ _ _ (by decide), show (32 : UInt8).toNat = 32 from rfl, fits32, if_neg (by decide)]
    rfl
  | rune fb u hu hf t _ ih =>
    intro g v hg
    have hk := chars_pos hu
    have hl := encB_length u
    rw [List.append_assoc] at hg ⊢
    rw [List.length_append] at hg
    obtain ⟨g, rfl⟩ : ∃ k, g = k + 1 := ⟨g - 1, by omega⟩
    have hne : encB u ++ (t ++ 32 :: v) ≠ [] := fun e => by
      have := congrArg List.length e
      rw [List.length_append, List.length_nil] at this
      omega
    rw [nmLen, if_neg hne, decodeL_enc hu]
    dsimp only
    rw [if_pos hf, List.drop_left, ih g v (by omega), List.length_append]
theorem Nm8.begun {p : List UInt8} (h : Nm8 true p) (v : List UInt8) : begun (p ++ 32 :: v) = p := by
  unfold Go.Proofs.YtkpgbcackphdbaaDoor.begun
  rw [h.len _ v (Nat.le_refl _), List.take_left]
/-- A text is its name and what doesn't go on with it. -/
theorem nm_form : ∀ (g : Nat) (fb : Bool) {r : List UInt8}, Ok8 r → ∃ p w, r = p ++ w ∧ p.length = nmLen g fb r ∧ Nm8 fb p ∧ Ok8 w
  | 0, fb, r, h => ⟨[], r, rfl, rfl, .nil fb, h⟩
  | g + 1, fb, r, h => by
    cases h with
    | nil => exact ⟨[], [], rfl, by rw [nmLen, if_pos rfl]; rfl, .nil fb, .nil⟩
    | rune v hv u hu =>
      have hk := chars_pos hv
      have hl := encB_length v
      have hne : encB v ++ u ≠ [] := fun e => by
        have := congrArg List.length e
        rw [List.length_append, List.length_nil] at this
        omega
      rw [nmLen, if_neg hne, decodeL_enc hv]
      dsimp only
      by_cases hf : fitsQ fb v = true
      · rw [if_pos hf, List.drop_left]
        obtain ⟨p, w, h1, h2, h3, h4⟩ := nm_form g false hu
        exact ⟨encB v ++ p, w, by rw [h1, List.append_assoc], by rw [List.length_append, h2], .rune fb v hv hf p h3, h4⟩
      · rw [if_neg hf]
        exact ⟨[], encB v ++ u, rfl, rfl, .nil fb, .rune v hv u hu⟩
theorem begun_form {r : List UInt8} (h : Ok8 r) : ∃ w, r = begun r ++ w ∧ Nm8 true (begun r) ∧ Ok8 w := by
  obtain ⟨p, w, h1, h2, h3, h4⟩ := nm_form r.length true h
  have hb : begun r = p := by
    unfold begun
    rw [← h2]
    conv => lhs; rw [h1]
    rw [List.take_left]
  rw [hb]
  exact ⟨w, h1, h3, h4⟩
theorem begun_no {b : UInt8} (hb : b.toNat < 128) (hf : fitsQ true b.toNat = false) (t : List UInt8) : begun (b :: t) = [] := by
  unfold begun
  rw [List.length_cons, nm_ascii _ _ _ _ hb, hf, if_neg (by decide)]
  rfl
/-- The first byte of a name. -/
theorem name_head {c : UInt8} {t : List UInt8} (h : begun (c :: t) ≠ []) : isBl c = false ∧ c ≠ 58 ∧ c ≠ 40 := by
  have key : ∀ b : UInt8, b.toNat < 128 → fitsQ true b.toNat = false → c ≠ b := fun b h1 h2 e => h (by rw [e]; exact begun_no h1 h2 t)
  refine ⟨?_, key 58 (by decide) (by kernel_rfl), key 40 (by decide) (by kernel_rfl)⟩
  cases hc : isBl c with
  | false => rfl
  | true =>
    exfalso
    unfold isBl pBl at hc
    have : c.toNat = 9 ∨ c.toNat = 10 ∨ c.toNat = 13 ∨ c.toNat = 32 := by
      simp only [Bool.or_eq_true, beq_iff_eq] at hc
      omega
    rcases this with e | e | e | e
    · exact key 9 (by decide) (by kernel_rfl) (UInt8.toNat_inj.1 e)
    · exact key 10 (by decide) (by kernel_rfl) (UInt8.toNat_inj.1 e)
    · exact key 13 (by decide) (by kernel_rfl) (UInt8.toNat_inj.1 e)
    · exact key 32 (by decide) (by kernel_rfl) (UInt8.toNat_inj.1 e)

/-- How a token stands in a text. -/
def writeQ (k : Int) (t : List UInt8) : List UInt8 := if k = 9 then 36 :: t else if k = 7 then (if t.contains 34 = true then 39 :: (t ++ [39]) else 34 :: (t ++ [34])) else t
theorem write_plain {k : Int} (h9 : k ≠ 9) (h7 : k ≠ 7) (t : List UInt8) : writeQ k t = t := by
  unfold writeQ
  rw [if_neg h9, if_neg h7]
/-- What a name asks of what stands behind it. -/
def nextK (l : List UInt8) : Nat := if hasPre [58, 58] l = true then 2 else if hasPre [40] l = true then 1 else 0
theorem kind_next {a b : List UInt8} (h : nextK a = nextK b) (n : List UInt8) : kindQ n a = kindQ n b := by
  have key : ∀ l, kindQ n l = match nextK l with | 2 => 4 | 1 => (if typesQ.contains n = true then 3 else 2) | _ => 1 := by
    intro l
    unfold kindQ nextK
    by_cases h1 : hasPre [58, 58] l = true
    · rw [if_pos h1, if_pos h1]
      rfl
    · rw [if_neg h1, if_neg h1]
      by_cases h2 : hasPre [40] l = true
      · rw [if_pos h2, if_pos h2]
        rfl
      · rw [if_neg h2, if_neg h2]
        rfl
  rw [key, key, h]
theorem kind_range (n r : List UInt8) : kindQ n r ≠ 9 ∧ kindQ n r ≠ 7 := by
  unfold kindQ
  repeat' split
  all_goals exact ⟨by decide, by decide⟩
theorem next_zero {c : UInt8} (h1 : c ≠ 58) (h2 : c ≠ 40) (t : List UInt8) : nextK (c :: t) = 0 := by
  have e1 : hasPre [58, 58] (c :: t) = false := by
    show ((58 : UInt8) == c && List.isPrefixOf [58] t) = false
    rw [show ((58 : UInt8) == c) = false by rw [beq_eq_false_iff_ne]; exact fun e => h1 e.symm]
    rfl
  have e2 : hasPre [40] (c :: t) = false := by
    show ((40 : UInt8) == c && List.isPrefixOf [] t) = false
    rw [show ((40 : UInt8) == c) = false by rw [beq_eq_false_iff_ne]; exact fun e => h2 e.symm]
    rfl
  unfold nextK
  rw [e1, e2]
  rfl
theorem ok_blk : ∀ {l : List UInt8}, Ok8 l → Ok8 (blk l)
  | [], h => h
  | b :: t, h => by
    cases hb : isBl b with
    | true =>
      rw [blk_yes hb]
      have h2 : b.toNat < 128 := by
        rcases Nat.lt_or_ge b.toNat 128 with h3 | h3
        · exact h3
        · rw [isBl, pBl_high h3] at hb; cases hb
      exact ok_blk (h.tail h2).1
    | false => rw [blk_no hb]; exact h
theorem ok_low : ∀ {l : List UInt8}, (∀ b ∈ l, 32 ≤ b.toNat ∧ b.toNat < 128) → Ok8 l
  | [], _ => .nil
  | b :: t, h => by
    have hb := h b (List.mem_cons_self ..)
    exact (ok_low (fun x hx => h x (List.mem_cons_of_mem _ hx))).cons hb.2 ((chars_nat b.toNat).2 (by omega))
theorem pre_form {m l : List UInt8} (h : hasPre m l = true) : ∃ w, l = m ++ w := by
  obtain ⟨w, hw⟩ := List.isPrefixOf_iff_prefix.1 h
  exact ⟨w, hw.symm⟩

/-- What is read of a token where it stands is read of it where it is written. -/
structure Reads (l : List UInt8) (bh : Bool) (k : Int) (t : List UInt8) (z : Nat) : Prop where
  pos : 0 < z
  le : z ≤ l.length
  size : (writeQ k t).length ≤ z
  ok : Ok8 (l.drop z)
  wok : Ok8 (writeQ k t)
  head : ∃ c u, writeQ k t = c :: u ∧ isBl c = false
  next : ∀ v, nextK (writeQ k t ++ 32 :: v) = nextK l
  again : ∀ v, nextK (blk v) = nextK (blk (l.drop z)) → readQ (writeQ k t ++ 32 :: v) bh = .ok (k, t, (writeQ k t).length)

theorem read_sign_of {c : UInt8} {t : List UInt8} (bh : Bool) (h1 : ¬ (c = 34 ∨ c = 39)) (h2 : c ≠ 36) (h3 : c ≠ 42) (h4 : c = 46 → digs t = 0) (h5 : digitB c = false) (h6 : c.toNat < 128) (h7 : fitsQ true c.toNat = false) : readQ (c :: t) bh = signQ (c :: t) := by
  unfold readQ
  dsimp only
  rw [if_neg h1, if_neg h2, if_neg h3]
  by_cases h : c = 46
  · rw [if_pos h, if_pos (h4 h)]
  · rw [if_neg h, if_neg (by rw [h5]; decide), if_pos (begun_no h6 h7 t)]
/-- A sign. -/
def SignOk (k : Int) (t : List UInt8) : Prop := (∃ c u, t = c :: u ∧ isBl c = false) ∧ (∀ b ∈ t, 32 ≤ b.toNat ∧ b.toNat < 128) ∧ k ≠ 9 ∧ k ≠ 7 ∧ (∀ v w, nextK (t ++ 32 :: v) = nextK (t ++ w)) ∧ ∀ bh v, readQ (t ++ 32 :: v) bh = .ok (k, t, t.length)
theorem low_all {t : List UInt8} (h : (t.all fun b => decide (32 ≤ b.toNat) && decide (b.toNat < 128)) = true) : ∀ b ∈ t, 32 ≤ b.toNat ∧ b.toNat < 128 := fun b hb => by
  have := List.all_eq_true.1 h b hb
  simpa using this
theorem sign_one {k : Int} {c : UInt8} {u : List UInt8} (hb : isBl c = false) (hl : ((c :: u).all fun b => decide (32 ≤ b.toNat) && decide (b.toNat < 128)) = true) (h9 : k ≠ 9) (h7 : k ≠ 7) (hn : ∀ v w, nextK ((c :: u) ++ 32 :: v) = nextK ((c :: u) ++ w))
    (h1 : ¬ (c = 34 ∨ c = 39)) (h2 : c ≠ 36) (h3 : c ≠ 42) (h4 : c = 46 → ∀ v, digs (u ++ 32 :: v) = 0) (h5 : digitB c = false) (hf : fitsQ true c.toNat = false) (hs : ∀ v, signQ ((c :: u) ++ 32 :: v) = .ok (k, c :: u, (c :: u).length)) : SignOk k (c :: u) :=
  ⟨⟨c, u, rfl, hb⟩, low_all hl, h9, h7, hn, fun bh v => by
    rw [List.cons_append, read_sign_of bh h1 h2 h3 (fun e => h4 e v) h5 ((low_all hl) c (List.mem_cons_self ..)).2 hf]
    exact hs v⟩
theorem marks_ok : ∀ t ∈ marksQ, SignOk 6 t := by
  intro t ht
  unfold marksQ at ht
  simp only [List.mem_cons, List.not_mem_nil, or_false] at ht
  rcases ht with rfl | rfl | rfl | rfl | rfl | rfl | rfl | rfl | rfl
  all_goals exact sign_one rfl rfl (by decide) (by decide) (fun _ _ => rfl) (by decide) (by decide) (by decide) (fun e => by first | (exact absurd e (by decide)) | exact fun _ => rfl) rfl (by kernel_rfl) (fun _ => rfl)
theorem ops_ok : ∀ t ∈ opsQ, SignOk 5 t := by
  intro t ht
  unfold opsQ at ht
  simp only [List.mem_cons, List.not_mem_nil, or_false] at ht
  rcases ht with rfl | rfl | rfl | rfl | rfl | rfl | rfl | rfl | rfl | rfl | rfl
  all_goals exact sign_one rfl rfl (by decide) (by decide) (fun _ _ => rfl) (by decide) (by decide) (by decide) (fun e => absurd e (by decide)) rfl (by kernel_rfl) (fun _ => rfl)
theorem sign_reads {l : List UInt8} (bh : Bool) {k : Int} {t : List UInt8} {z : Nat} (hl : Ok8 l) (e : signQ l = .ok (k, t, z)) : Reads l bh k t z := by
  have key : SignOk k t ∧ hasPre t l = true ∧ z = t.length := by
    unfold signQ tokQ at e
    cases h : marksQ.find? (fun s => hasPre s l) with
    | some s =>
      rw [h] at e
      cases e
      exact ⟨marks_ok t (List.mem_of_find?_eq_some h), List.find?_some (p := fun s => hasPre s l) h, rfl⟩
    | none =>
      rw [h] at e
      dsimp only at e
      cases h2 : opsQ.find? (fun s => hasPre s l) with
      | some s =>
        rw [h2] at e
        cases e
        exact ⟨ops_ok t (List.mem_of_find?_eq_some h2), List.find?_some (p := fun s => hasPre s l) h2, rfl⟩
      | none => rw [h2] at e; cases e
  obtain ⟨⟨⟨c, u, h1, h2⟩, h3, h4, h5, h6, h7⟩, h8, rfl⟩ := key
  obtain ⟨w, rfl⟩ := pre_form h8
  have hw := write_plain h4 h5 t
  refine ⟨by rw [h1]; exact Nat.succ_pos _, by rw [List.length_append]; omega, by rw [hw]; exact Nat.le_refl _, ?_, by rw [hw]; exact ok_low h3, by rw [hw]; exact ⟨c, u, h1, h2⟩, fun v => by rw [hw]; exact h6 v w, fun v _ => by rw [hw]; exact h7 bh v⟩
  rw [List.drop_left]
  exact hl.peel (fun x hx => (h3 x hx).2)

theorem digit_low {b : UInt8} (h : digitB b = true) : 48 ≤ b.toNat ∧ b.toNat ≤ 57 := by
  unfold digitB at h
  simpa using h
theorem digit46 : digitB 46 = false := rfl
theorem digit32 : digitB 32 = false := rfl
/-- A text's number: digits, or digits, a point and digits. -/
theorem num_form (l : List UInt8) : ∃ t w, l = t ++ w ∧ t.length = numLen l ∧ (∀ v, numLen (t ++ 32 :: v) = t.length) ∧ (∀ b ∈ t, digitB b = true ∨ b = 46) ∧ (∀ b u, t = b :: u → digitB b = false → ∀ v, digs (u ++ 32 :: v) = digs (u ++ w)) := by
  obtain ⟨a, u, h1, h2, h3, h4⟩ := digs_form l
  have hd : l.drop (digs l) = u := by rw [← h2, h1, List.drop_left]
  by_cases hp : hasPre [46] u = true
  · obtain ⟨u', hu⟩ := pre_form hp
    obtain ⟨b, w, g1, g2, g3, g4⟩ := digs_form u'
    have hd2 : l.drop (digs l + 1) = u' := by rw [← List.drop_drop, hd, hu]; rfl
    refine ⟨a ++ 46 :: b, w, ?_, ?_, ?_, ?_, ?_⟩
    · rw [List.append_assoc, List.cons_append, ← g1]
      rw [h1, hu]
      rfl
    · unfold numLen
      rw [hd, if_pos hp, hd2, ← g2, ← h2, List.length_append, List.length_cons]
      omega
    · intro v
      have e1 : digs (a ++ 46 :: b ++ 32 :: v) = a.length := by rw [List.append_assoc, List.cons_append]; exact digs_stop a 46 _ h3 digit46
      have e2 : (a ++ 46 :: b ++ 32 :: v).drop a.length = 46 :: (b ++ 32 :: v) := by rw [List.append_assoc, List.drop_left]; rfl
      have e3 : (a ++ 46 :: b ++ 32 :: v).drop (a.length + 1) = b ++ 32 :: v := by rw [← List.drop_drop, e2]; rfl
      unfold numLen
      rw [e1, e2, if_pos (show hasPre [46] (46 :: (b ++ 32 :: v)) = true from rfl), e3, digs_stop b 32 v g3 digit32, List.length_append, List.length_cons]
      omega
    · intro x hx
      rcases List.mem_append.1 hx with h | h
      · exact .inl (h3 x h)
      · rcases List.mem_cons.1 h with h | h
        · exact .inr h
        · exact .inl (g3 x h)
    · intro y t e hy v
      cases a with
      | nil =>
        rw [List.nil_append] at e
        injection e with e1 e2
        rw [← e2, digs_stop b 32 v g3 digit32]
        cases w with
        | nil => rw [List.append_nil, digs_all b g3]
        | cons x w => rw [digs_stop b x w g3 (g4 x w rfl)]
      | cons x a =>
        rw [List.cons_append] at e
        injection e with e1 e2
        rw [← e1, h3 x (List.mem_cons_self ..)] at hy
        cases hy
  · refine ⟨a, u, h1, ?_, ?_, fun x hx => .inl (h3 x hx), ?_⟩
    · unfold numLen
      rw [hd, if_neg hp, h2]
    · intro v
      have e1 : digs (a ++ 32 :: v) = a.length := digs_stop a 32 v h3 digit32
      unfold numLen
      rw [e1, List.drop_left, if_neg (show ¬ hasPre [46] (32 :: v) = true from fun h => by cases h)]
    · intro y t e hy v
      rw [e] at h3
      rw [h3 y (List.mem_cons_self ..)] at hy
      cases hy
theorem num_reads {c : UInt8} {u : List UInt8} (bh : Bool) (hl : Ok8 (c :: u)) (h : c = 46 ∧ digs u ≠ 0 ∨ digitB c = true) (t : List UInt8) (ht : t = (c :: u).take (numLen (c :: u))) : Reads (c :: u) bh 8 t t.length := by
  obtain ⟨p, w, h1, h2, h3, h4, h5⟩ := num_form (c :: u)
  have hpt : t = p := by
    rw [ht, ← h2]
    conv => lhs; rw [h1]
    rw [List.take_left]
  subst hpt
  clear ht
  have hw := write_plain (k := 8) (by decide) (by decide) t
  have hlow : ∀ b ∈ t, 32 ≤ b.toNat ∧ b.toNat < 128 := fun b hb => by
    rcases h4 b hb with h | rfl
    · have := digit_low h; omega
    · decide
  have hn0 : 0 < numLen (c :: u) := by
    unfold numLen
    rcases h with ⟨rfl, hd⟩ | hd
    · rw [digs, if_neg (show ¬ digitB 46 = true by decide)]
      rw [List.drop_zero, if_pos (show hasPre [46] (46 :: u) = true from rfl)]
      omega
    · rw [digs, if_pos hd]
      split <;> omega
  obtain ⟨x, p, rfl⟩ : ∃ x p, t = x :: p := by
    cases t with
    | nil => rw [List.length_nil] at h2; omega
    | cons x p => exact ⟨x, p, rfl⟩
  rw [List.cons_append] at h1
  injection h1 with hx hu
  subst hx
  have hc40 : c ≠ 40 ∧ c ≠ 58 ∧ isBl c = false ∧ ¬ (c = 34 ∨ c = 39) ∧ c ≠ 36 ∧ c ≠ 42 := by
    rcases h with ⟨rfl, _⟩ | hd
    · decide
    · have := digit_low hd
      refine ⟨?_, ?_, ?_, ?_, ?_, ?_⟩
      · rintro rfl; exact absurd this (by decide)
      · rintro rfl; exact absurd this (by decide)
      · unfold isBl pBl
        simp
        omega
      · rintro (rfl | rfl)
        · exact absurd this (by decide)
        · exact absurd this (by decide)
      · rintro rfl; exact absurd this (by decide)
      · rintro rfl; exact absurd this (by decide)
  obtain ⟨k1, k2, k3, k4, k5, k6⟩ := hc40
  refine ⟨Nat.succ_pos _, by rw [h2]; exact numLen_le _, by rw [hw]; exact Nat.le_refl _, ?_, by rw [hw]; exact ok_low hlow, by rw [hw]; exact ⟨c, p, rfl, k3⟩, fun v => ?_, fun v _ => ?_⟩
  · have : (c :: u).drop (c :: p).length = w := by rw [hu, ← List.cons_append, List.drop_left]
    rw [this]
    rw [hu, ← List.cons_append] at hl
    exact hl.peel (fun x hx => (hlow x hx).2)
  · rw [hw, List.cons_append, next_zero k2 k1, next_zero k2 k1]
  · rw [hw]
    have e3 := h3 v
    rw [List.cons_append] at e3 ⊢
    unfold readQ
    dsimp only
    rw [if_neg k4, if_neg k5, if_neg k6]
    have htk : (c :: (p ++ 32 :: v)).take (numLen (c :: (p ++ 32 :: v))) = c :: p := by
      rw [e3, ← List.cons_append, List.take_left]
    unfold tokQ
    rw [htk]
    rcases h with ⟨rfl, hd⟩ | hd
    · rw [if_pos rfl, if_neg]
      rw [h5 46 p rfl rfl v, ← hu]
      exact hd
    · by_cases h46 : c = 46
      · rw [h46] at hd
        exact absurd hd (by decide)
      · rw [if_neg h46, if_pos hd]
theorem name_reads {c : UInt8} {u : List UInt8} (bh : Bool) {k : Int} {t : List UInt8} {z : Nat} (hl : Ok8 (c :: u)) (h1 : ¬ (c = 34 ∨ c = 39)) (h2 : c ≠ 36) (h3 : c ≠ 42) (h4 : c ≠ 46) (h5 : digitB c = false) (hb : begun (c :: u) ≠ [])
    (e : namedQ (begun (c :: u)) (blk ((c :: u).drop (begun (c :: u)).length)) bh = .ok (k, t, z)) : Reads (c :: u) bh k t z := by
  obtain ⟨w, g1, g2, g3⟩ := begun_form hl
  obtain ⟨k3, k2, k1⟩ := name_head hb
  obtain ⟨n, hn⟩ : ∃ n, begun (c :: u) = n := ⟨_, rfl⟩
  rw [hn] at g1 g2 hb e
  have hdrop : (c :: u).drop n.length = w := by rw [g1, List.drop_left]
  rw [hdrop] at e
  obtain ⟨x, p, rfl⟩ := List.exists_cons_of_ne_nil hb
  have hx : c = x := by
    rw [List.cons_append] at g1
    exact (List.cons.inj g1).1
  subst hx
  have key : t = c :: p ∧ z = (c :: p).length ∧ k ≠ 9 ∧ k ≠ 7 ∧ ∀ v, nextK (blk v) = nextK (blk w) → namedQ (c :: p) (blk v) bh = .ok (k, t, z) := by
    unfold namedQ tokQ at e ⊢
    cases bh with
    | true =>
      rw [if_pos rfl] at e
      by_cases hw : wordsQ.contains (c :: p) = true
      · rw [if_pos hw] at e
        cases e
        exact ⟨rfl, rfl, by decide, by decide, fun v _ => by rw [if_pos rfl, if_pos hw]⟩
      · rw [if_neg hw] at e; cases e
    | false =>
      rw [if_neg (by decide)] at e
      cases e
      exact ⟨rfl, rfl, (kind_range _ _).1, (kind_range _ _).2, fun v hv => by rw [if_neg (by decide), kind_next hv]⟩
  obtain ⟨rfl, rfl, k9, k7, hag⟩ := key
  have hw := write_plain k9 k7 (c :: p)
  refine ⟨Nat.succ_pos _, by rw [g1, List.length_append]; omega, by rw [hw]; exact Nat.le_refl _, by rw [hdrop]; exact g3, by rw [hw]; exact g2.ok, by rw [hw]; exact ⟨c, p, rfl, k3⟩, fun v => ?_, fun v hv => ?_⟩
  · rw [hw, List.cons_append, next_zero k2 k1, next_zero k2 k1]
  · rw [hdrop] at hv
    rw [hw]
    have e1 := g2.begun v
    have e2 : (c :: p ++ 32 :: v).drop (c :: p).length = 32 :: v := List.drop_left ..
    rw [List.cons_append] at e1 e2 ⊢
    unfold readQ
    dsimp only
    rw [if_neg h1, if_neg h2, if_neg h3, if_neg h4, if_neg (by rw [h5]; decide), e1, if_neg (by simp), e2, blk_yes rfl]
    exact hag v hv
theorem read_reads {l : List UInt8} {bh : Bool} {k : Int} {t : List UInt8} {z : Nat} (hl : Ok8 l) (e : readQ l bh = .ok (k, t, z)) : Reads l bh k t z := by
  cases l with
  | nil => cases e
  | cons c u =>
    unfold readQ at e
    dsimp only at e
    by_cases h1 : c = 34 ∨ c = 39
    · rw [if_pos h1] at e
      unfold quotedQ at e
      cases hi : upTo c u with
      | none => rw [hi] at e; cases e
      | some i =>
        rw [hi] at e
        cases e
        obtain ⟨w, rfl, hci⟩ := upTo_form hi
        have hc128 : c.toNat < 128 := by rcases h1 with rfl | rfl <;> decide
        have hc0 : c ≠ 58 ∧ c ≠ 40 := by rcases h1 with rfl | rfl <;> decide
        obtain ⟨o1, _⟩ := hl.tail hc128
        obtain ⟨o2, o3⟩ := o1.split hc128
        obtain ⟨o4, _⟩ := o3.tail hc128
        obtain ⟨q, hq, hqi, hw⟩ : ∃ q : UInt8, (q = 34 ∨ q = 39) ∧ q ∉ t ∧ writeQ 7 t = q :: (t ++ [q]) := by
          unfold writeQ
          by_cases h34 : t.contains 34 = true
          · refine ⟨39, .inr rfl, ?_, by rw [if_neg (by decide), if_pos rfl, if_pos h34]⟩
            rcases h1 with rfl | rfl
            · exact absurd (List.contains_iff_mem.1 h34) hci
            · exact hci
          · exact ⟨34, .inl rfl, fun hm => h34 (List.contains_iff_mem.2 hm), by rw [if_neg (by decide), if_pos rfl, if_neg h34]⟩
        have hq128 : q.toNat < 128 ∧ inTab charsT (q.toNat : Int) = true := by rcases hq with rfl | rfl <;> exact ⟨by decide, by kernel_rfl⟩
        have hq0 : q ≠ 58 ∧ q ≠ 40 ∧ isBl q = false := by rcases hq with rfl | rfl <;> decide
        refine ⟨by omega, by rw [List.length_cons, List.length_append, List.length_cons]; omega, by rw [hw, List.length_cons, List.length_append]; simp; omega, ?_, ?_, by rw [hw]; exact ⟨q, _, rfl, hq0.2.2⟩, fun v => ?_, fun v _ => ?_⟩
        · have : (c :: (t ++ c :: w)).drop (1 + t.length + 1) = w := by
            rw [show 1 + t.length + 1 = (t.length + 1) + 1 by omega, List.drop_succ_cons, ← List.drop_drop, List.drop_left]
            rfl
          rw [this]
          exact o4
        · rw [hw]
          exact (o2.append (Ok8.nil.cons hq128.1 hq128.2)).cons hq128.1 hq128.2
        · rw [hw, List.cons_append, next_zero hq0.1 hq0.2.1, next_zero hc0.1 hc0.2]
        · rw [hw, List.cons_append, List.append_assoc]
          unfold readQ quotedQ
          dsimp only
          rw [if_pos hq, List.singleton_append, upTo_at _ hqi]
          simp
          omega
    · rw [if_neg h1] at e
      by_cases h2 : c = 36
      · subst h2
        rw [if_pos rfl] at e
        unfold varQ at e
        obtain ⟨o1, _⟩ := hl.tail (by decide)
        have o2 := ok_blk o1
        obtain ⟨w, g1, g2, g3⟩ := begun_form o2
        obtain ⟨n, hn⟩ : ∃ n, begun (blk u) = n := ⟨_, rfl⟩
        rw [hn] at g1 g2 e
        by_cases hne : n = []
        · rw [if_pos hne] at e; cases e
        · rw [if_neg hne] at e
          cases e
          obtain ⟨x, p, rfl⟩ := List.exists_cons_of_ne_nil hne
          obtain ⟨k3, _, _⟩ := name_head (c := x) (t := p ++ w) (by rw [← List.cons_append, ← g1, hn]; simp)
          have hw : writeQ 9 (x :: p) = 36 :: x :: p := rfl
          have hle := blk_le u
          have hlen := congrArg List.length g1
          rw [List.length_append] at hlen
          have hll := lead_len u
          have hlu := lead_le u
          have h36 : (36 :: u).length = u.length + 1 := rfl
          refine ⟨by omega, by omega, by rw [hw, List.length_cons]; omega, ?_, ?_, ⟨36, _, hw, rfl⟩, fun v => ?_, fun v _ => ?_⟩
          · have : (36 :: u).drop (u.length + 1 - (blk u).length + (x :: p).length) = w := by
              rw [show u.length + 1 - (blk u).length + (x :: p).length = lead u + (x :: p).length + 1 by omega, List.drop_succ_cons, ← List.drop_drop]
              show (blk u).drop _ = w
              rw [g1, List.drop_left]
            rw [this]
            exact g3
          · rw [hw]
            exact g2.ok.cons (by decide) (by kernel_rfl)
          · rw [hw]
            exact (next_zero (by decide) (by decide) _).trans (next_zero (by decide) (by decide) _).symm
          · rw [hw]
            have e1 := g2.begun v
            rw [List.cons_append] at e1
            unfold readQ varQ
            rw [List.cons_append, List.cons_append]
            dsimp only
            rw [if_neg (by decide), if_pos rfl, blk_no k3, e1, if_neg (by simp)]
            simp
            omega
      · rw [if_neg h2] at e
        by_cases h3 : c = 42
        · subst h3
          rw [if_pos rfl] at e
          unfold tokQ at e
          cases e
          have hk9 : (if bh = true then (5 : Int) else 1) ≠ 9 := by split <;> decide
          have hk7 : (if bh = true then (5 : Int) else 1) ≠ 7 := by split <;> decide
          have hw := write_plain hk9 hk7 [42]
          refine ⟨Nat.succ_pos _, by simp, by rw [hw]; exact Nat.le_refl _, (hl.tail (by decide)).1, by rw [hw]; exact Ok8.nil.cons (by decide) (by kernel_rfl), by rw [hw]; exact ⟨42, [], rfl, rfl⟩, fun v => ?_, fun v _ => ?_⟩
          · rw [hw]
            exact (next_zero (by decide) (by decide) _).trans (next_zero (by decide) (by decide) _).symm
          · rw [hw]
            rfl
        · rw [if_neg h3] at e
          by_cases h4 : c = 46
          · rw [if_pos h4] at e
            by_cases hd : digs u = 0
            · rw [if_pos hd] at e
              exact sign_reads bh hl e
            · rw [if_neg hd] at e
              unfold tokQ at e
              cases e
              exact num_reads bh hl (.inl ⟨h4, hd⟩) _ rfl
          · rw [if_neg h4] at e
            by_cases h5 : digitB c = true
            · rw [if_pos h5] at e
              unfold tokQ at e
              cases e
              exact num_reads bh hl (.inr h5) _ rfl
            · rw [if_neg h5] at e
              by_cases hb : begun (c :: u) = []
              · rw [if_pos hb] at e
                exact sign_reads bh hl e
              · rw [if_neg hb] at e
                exact name_reads bh hl h1 h2 h3 h4 (by simpa using h5) hb e
end Go.Proofs.YtkpgbcackphdbaaDoor
