/-
  What the program makes of a text, by definition: pieces at each comma, each cut at its dash. Of no program. No condition.
-/
import Derived.Test.YtiolchdfjlffoaaDoorIT
import Derived.Lib.Split
import Derived.Lib.CountLaws
import Derived.Lib.IndexLaws
namespace Go.Proofs.YtiolchdfjlffoaaDoor
open Go.RowKit Go.Lib

/-- A text at each of a byte. -/
def pieces (c : UInt8) : List UInt8 → List (List UInt8)
  | [] => [[]]
  | b :: t => if b = c then [] :: pieces c t else (b :: (pieces c t).headD []) :: (pieces c t).tail
theorem pieces_ne (c : UInt8) : ∀ l, pieces c l ≠ []
  | [] => by rw [pieces]; exact List.cons_ne_nil _ _
  | b :: t => by
    rw [pieces]
    split <;> exact List.cons_ne_nil _ _
theorem pieces_form (c : UInt8) (l : List UInt8) : pieces c l = (pieces c l).headD [] :: (pieces c l).tail := by
  cases h : pieces c l with
  | nil => exact absurd h (pieces_ne c l)
  | cons p ps => rfl
theorem pieces_at (c : UInt8) (t : List UInt8) : pieces c (c :: t) = [] :: pieces c t := by rw [pieces, if_pos rfl]
theorem pieces_on {c b : UInt8} (h : b ≠ c) (t : List UInt8) : pieces c (b :: t) = (b :: (pieces c t).headD []) :: (pieces c t).tail := by rw [pieces, if_neg h]
theorem pieces_app {c : UInt8} : ∀ {p : List UInt8}, c ∉ p → ∀ t, pieces c (p ++ c :: t) = p :: pieces c t
  | [], _, t => pieces_at c t
  | b :: p, h, t => by
    have hb : b ≠ c := fun e => h (by rw [e]; exact List.mem_cons_self ..)
    rw [List.cons_append, pieces_on hb, pieces_app (fun e => h (List.mem_cons_of_mem _ e)) t]
    rfl
theorem pieces_clean {c : UInt8} : ∀ {p : List UInt8}, c ∉ p → pieces c p = [p]
  | [], _ => rfl
  | b :: p, h => by
    have hb : b ≠ c := fun e => h (by rw [e]; exact List.mem_cons_self ..)
    rw [pieces_on hb, pieces_clean (fun e => h (List.mem_cons_of_mem _ e))]
    rfl
theorem pieces_mem {c : UInt8} : ∀ {l p : List UInt8}, p ∈ pieces c l → ∀ b ∈ p, b ∈ l ∧ b ≠ c
  | [], p, h, b, hb => by
    rw [pieces, List.mem_singleton] at h
    rw [h] at hb
    cases hb
  | x :: t, p, h, b, hb => by
    rw [pieces] at h
    by_cases hx : x = c
    · rw [if_pos hx] at h
      rcases List.mem_cons.1 h with rfl | h
      · cases hb
      · exact ⟨List.mem_cons_of_mem _ (pieces_mem h b hb).1, (pieces_mem h b hb).2⟩
    · rw [if_neg hx] at h
      have hf := pieces_form c t
      rcases List.mem_cons.1 h with rfl | h
      · rcases List.mem_cons.1 hb with rfl | hb
        · exact ⟨List.mem_cons_self .., hx⟩
        · have := pieces_mem (c := c) (l := t) (p := (pieces c t).headD []) (by rw [hf]; exact List.mem_cons_self ..) b hb
          exact ⟨List.mem_cons_of_mem _ this.1, this.2⟩
      · have := pieces_mem (c := c) (l := t) (p := p) (by rw [hf]; exact List.mem_cons_of_mem _ h) b hb
        exact ⟨List.mem_cons_of_mem _ this.1, this.2⟩
theorem pieces_size (c : UInt8) : ∀ l : List UInt8, (pieces c l).length + ((pieces c l).map List.length).sum = l.length + 1
  | [] => rfl
  | x :: t => by
    have ih := pieces_size c t
    by_cases hx : x = c
    · rw [hx, pieces_at, List.length_cons, List.map_cons, List.sum_cons, List.length_nil, List.length_cons]
      omega
    · have hf := pieces_form c t
      rw [pieces_on hx, List.length_cons, List.map_cons, List.sum_cons, List.length_cons, List.length_cons]
      rw [hf, List.length_cons, List.map_cons, List.sum_cons] at ih
      omega
theorem sum_mem {l : List (List UInt8)} {p : List UInt8} (h : p ∈ l) : p.length ≤ (l.map List.length).sum := by
  induction l with
  | nil => cases h
  | cons x t ih =>
    rw [List.map_cons, List.sum_cons]
    rcases List.mem_cons.1 h with rfl | h
    · omega
    · have := ih h
      omega
theorem pieces_short {c : UInt8} {l p : List UInt8} (h : p ∈ pieces c l) : p.length ≤ l.length := by
  have h1 := pieces_size c l
  have h2 := sum_mem h
  have h3 : 1 ≤ (pieces c l).length := by rw [pieces_form c l, List.length_cons]; omega
  omega
theorem pieces_few (c : UInt8) (l : List UInt8) : (pieces c l).length ≤ l.length + 1 := by
  have := pieces_size c l
  omega
theorem first_of (c : UInt8) : ∀ l : List UInt8, c ∉ l ∨ ∃ p t, c ∉ p ∧ l = p ++ c :: t
  | [] => .inl (fun h => by cases h)
  | b :: t => by
    by_cases hb : b = c
    · exact .inr ⟨[], t, fun h => (by cases h), by rw [hb]; rfl⟩
    · rcases first_of c t with h | ⟨p, u, h1, h2⟩
      · refine .inl (fun h2 => ?_)
        rcases List.mem_cons.1 h2 with h3 | h3
        · exact hb h3.symm
        · exact h h3
      · refine .inr ⟨b :: p, u, fun h3 => ?_, by rw [h2]; rfl⟩
        rcases List.mem_cons.1 h3 with h3 | h3
        · exact hb h3.symm
        · exact h1 h3
theorem index_skip {sub : List UInt8} {b : UInt8} {t : List UInt8} (h : sub.isPrefixOf (b :: t) = false) : index (b :: t) sub = if index t sub == -1 then -1 else index t sub + 1 := by
  rw [index, if_neg (by rw [h]; exact Bool.false_ne_true)]
theorem index_here {sub : List UInt8} {b : UInt8} {t : List UInt8} (h : sub.isPrefixOf (b :: t) = true) : index (b :: t) sub = 0 := by
  rw [index, if_pos h]
theorem index_at {c : UInt8} : ∀ {p : List UInt8}, c ∉ p → ∀ t, index (p ++ c :: t) [c] = (p.length : Int)
  | [], _, t => index_here (by simp)
  | b :: p, h, t => by
    have hb : b ≠ c := fun e => h (by rw [e]; exact List.mem_cons_self ..)
    have hs : ([c] : List UInt8).isPrefixOf (b :: (p ++ c :: t)) = false := by
      simp only [List.isPrefixOf, Bool.and_eq_false_iff]
      exact .inl (beq_eq_false_iff_ne.2 (fun e => hb e.symm))
    rw [List.cons_append, index_skip hs, index_at (fun e => h (List.mem_cons_of_mem _ e)) t]
    have : ((p.length : Int) == -1) = false := by rw [beq_eq_false_iff_ne]; omega
    rw [this, if_neg (by decide), List.length_cons]
    rfl
theorem index_no {c : UInt8} : ∀ {p : List UInt8}, c ∉ p → index p [c] = -1
  | [], _ => rfl
  | b :: p, h => by
    have hb : b ≠ c := fun e => h (by rw [e]; exact List.mem_cons_self ..)
    have hs : ([c] : List UInt8).isPrefixOf (b :: p) = false := by
      simp only [List.isPrefixOf, Bool.and_eq_false_iff]
      exact .inl (beq_eq_false_iff_ne.2 (fun e => hb e.symm))
    rw [index_skip hs, index_no (fun e => h (List.mem_cons_of_mem _ e))]
    rfl
theorem byte_at {c : UInt8} : ∀ {p : List UInt8}, c ∉ p → ∀ t, indexByte (p ++ c :: t) c = (p.length : Int)
  | [], _, t => by rw [List.nil_append, indexByte, if_pos (by simp)]; rfl
  | b :: p, h, t => by
    have hb : (b == c) = false := beq_eq_false_iff_ne.2 (fun e => h (by rw [e]; exact List.mem_cons_self ..))
    have : ((p.length : Int) == -1) = false := by rw [beq_eq_false_iff_ne]; omega
    rw [List.cons_append, indexByte, hb, if_neg (by decide), byte_at (fun e => h (List.mem_cons_of_mem _ e)) t, this, if_neg (by decide), List.length_cons]
    rfl
theorem byte_no {c : UInt8} : ∀ {p : List UInt8}, c ∉ p → indexByte p c = -1
  | [], _ => rfl
  | b :: p, h => by
    have hb : (b == c) = false := beq_eq_false_iff_ne.2 (fun e => h (by rw [e]; exact List.mem_cons_self ..))
    rw [indexByte, hb, if_neg (by decide), byte_no (fun e => h (List.mem_cons_of_mem _ e))]
    rfl
theorem drop_byte {c : UInt8} {p t : List UInt8} : (p ++ c :: t).drop (p.length + 1) = t := by
  have : p ++ c :: t = (p ++ [c]) ++ t := by rw [List.append_assoc]; rfl
  rw [this]
  exact List.drop_left' (by simp)
theorem cut_at {c : UInt8} {p : List UInt8} (h : c ∉ p) (t : List UInt8) : Lib.cut (p ++ c :: t) [c] = (p, t, true) := by
  unfold Lib.cut
  have hi := index_at h t
  rw [hi, if_pos (by omega), Int.toNat_natCast, List.take_append_of_le_length (Nat.le_refl _), List.take_length]
  show (p, (p ++ c :: t).drop (p.length + 1), true) = _
  rw [drop_byte]
theorem cut_no {c : UInt8} {p : List UInt8} (h : c ∉ p) : Lib.cut p [c] = (p, [], false) := by
  unfold Lib.cut
  rw [index_no h, if_neg (by decide)]

/-! ### texts in a slice of the call's own -/

/-- A span of a piece: two numbers, or one alone. -/
def progSp (p : List UInt8) : Option Sp :=
  match Lib.atoiAll (Lib.cut p [45]).1 with
  | .ok f => if (Lib.cut p [45]).2.2 = true then (match Lib.atoiAll (Lib.cut p [45]).2.1 with
    | .ok t => some (f, t)
    | _ => none) else some (f, f)
  | _ => none
def progL : List (List UInt8) → Option (List Sp)
  | [] => some []
  | p :: ps => match progSp p with
    | none => none
    | some x => (progL ps).map (x :: ·)
def progP (t : List UInt8) : Option (List Sp) :=
  if t = [] then some [] else match progL (pieces 44 t) with
    | none => none
    | some s => if textS s = t then some s else none
theorem progP_some {t : List UInt8} {s : List Sp} (h : progP t = some s) : IsText s t := by
  unfold progP at h
  split at h
  · rename_i ht
    injection h with h
    subst h ht
    exact ⟨rfl, rfl⟩
  · rename_i ht
    split at h
    · cases h
    · rename_i s' _
      split at h
      · rename_i he
        injection h with h
        subst h
        cases hm : mayS s' with
        | true => exact ⟨hm, by unfold textS at he; rw [if_pos hm] at he; exact he⟩
        | false =>
          unfold textS at he
          rw [hm, if_neg Bool.false_ne_true] at he
          exact absurd he.symm ht
      · cases h
theorem dig_no {n : Nat} (h1 : 1 ≤ n) (h2 : n ≤ 200) {c : UInt8} (hc : isD c = false) : c ∉ digN n := fun hm => by
  have := List.all_eq_true.1 (digN_facts h1 h2).all c hm
  rw [hc] at this
  cases this
theorem span_no {x : Sp} (h : RightP x) : (44 : UInt8) ∉ spanT x := by
  rw [spanT_form h]
  obtain ⟨h1, h2, h3⟩ := h
  intro hm
  rcases List.mem_append.1 hm with hm | hm
  · exact dig_no (by omega) (by omega) rfl hm
  · split at hm
    · cases hm
    · rcases List.mem_cons.1 hm with e | hm
      · cases e
      · exact dig_no (by omega) (by omega) rfl hm
theorem progSp_of {x : Sp} (h : RightP x) : progSp (spanT x) = some x := by
  obtain ⟨f, t⟩ := x
  rw [spanT_form h]
  obtain ⟨h1, h2, h3⟩ := h
  dsimp only at h1 h2 h3
  have a1 := (digN_facts (n := f.toNat) (by omega) (by omega)).atoi
  have a2 := (digN_facts (n := t.toNat) (by omega) (by omega)).atoi
  rw [Int.toNat_of_nonneg (by omega)] at a1 a2
  dsimp only
  unfold progSp
  by_cases e : f = t
  · rw [if_pos e, List.append_nil, cut_no (dig_no (by omega) (by omega) rfl)]
    dsimp only
    rw [a1]
    dsimp only
    rw [if_neg Bool.false_ne_true, e]
  · rw [if_neg e, cut_at (dig_no (by omega) (by omega) rfl)]
    dsimp only
    rw [a1, a2]
    rfl
theorem progL_of : ∀ {s : List Sp}, (∀ x ∈ s, RightP x) → progL (s.map spanT) = some s
  | [], _ => rfl
  | x :: s, h => by
    rw [List.map_cons, progL, progSp_of (h x (List.mem_cons_self ..))]
    dsimp only
    rw [progL_of (fun y hy => h y (List.mem_cons_of_mem _ hy))]
    rfl
theorem pieces_body : ∀ {s : List Sp} {x : Sp}, RightP x → (∀ y ∈ s, RightP y) → pieces 44 (spanT x ++ joinT s) = (x :: s).map spanT
  | [], x, hx, _ => by rw [joinT, List.append_nil, pieces_clean (span_no hx)]; rfl
  | y :: s, x, hx, h => by
    rw [joinT, pieces_app (span_no hx), pieces_body (h y (List.mem_cons_self ..)) (fun z hz => h z (List.mem_cons_of_mem _ hz))]
    rfl
theorem progP_of {t : List UInt8} {s : List Sp} (h : IsText s t) : progP t = some s := by
  obtain ⟨hm, ht⟩ := h
  have hr := may_right hm
  unfold progP
  cases s with
  | nil =>
    have h0 : t = [] := ht.symm
    rw [if_pos h0]
  | cons x s =>
    have hne : t ≠ [] := by
      rw [← ht, bodyT]
      intro e
      exact spanT_ne (hr x (List.mem_cons_self ..)) (List.append_eq_nil_iff.1 e).1
    rw [if_neg hne]
    have hp : pieces 44 t = (x :: s).map spanT := by
      rw [← ht, bodyT]
      exact pieces_body (hr x (List.mem_cons_self ..)) (fun y hy => hr y (List.mem_cons_of_mem _ hy))
    rw [hp, progL_of hr]
    dsimp only
    have htx : textS (x :: s) = t := by
      unfold textS
      rw [if_pos hm]
      exact ht
    rw [if_pos htx]
/-- Piece by piece. -/
theorem progL_snoc : ∀ {ps : List (List UInt8)} {p : List UInt8} {l : List Sp}, progL ps = some l → progL (ps ++ [p]) = (match progSp p with
    | none => none
    | some x => some (l ++ [x]))
  | [], p, l, h => by
    rw [progL] at h
    injection h with h
    subst h
    rw [List.nil_append, progL]
    cases progSp p with
    | none => rfl
    | some x => rfl
  | q :: ps, p, l, h => by
    rw [progL] at h
    rw [List.cons_append, progL]
    cases hq : progSp q with
    | none =>
      rw [hq] at h
      cases h
    | some y =>
      rw [hq] at h
      obtain ⟨l', h1, rfl⟩ := Option.map_eq_some_iff.1 h
      dsimp only
      rw [progL_snoc h1]
      cases progSp p with
      | none => rfl
      | some x => rfl
theorem progL_bad : ∀ {ps qs : List (List UInt8)} {p : List UInt8}, progSp p = none → progL (ps ++ p :: qs) = none
  | [], qs, p, h => by rw [List.nil_append, progL, h]
  | q :: ps, qs, p, h => by
    rw [List.cons_append, progL, progL_bad h]
    cases progSp q <;> rfl
end Go.Proofs.YtiolchdfjlffoaaDoor
