/-
  What the text of a specification is is read as it: alone, and with blanks, empty lines and remarks around its lines. Of no program. No condition.
-/
import Derived.Test.YtojpjhfafbdpcaaGreatDoorKP
namespace Go.Proofs.YtojpjhfafbdpcaaGreatDoor
open Go.RowKit Go.Lib

/-- Bytes that no name has. -/
def pBad (m : Nat) : Bool := m == 9 || m == 10 || m == 13 || m == 32 || m == 35 || m == 44 || m == 47 || m == 64 || m == 123 || m == 125
theorem pBad_iff (m : Nat) : pBad m = true ↔ (m = 9 ∨ m = 10 ∨ m = 13 ∨ m = 32 ∨ m = 35 ∨ m = 44 ∨ m = 47 ∨ m = 64 ∨ m = 123 ∨ m = 125) := by
  unfold pBad
  simp only [Bool.or_eq_true, beq_iff_eq]
  omega
theorem pBad_high {m : Nat} (h : 128 ≤ m) : pBad m = false := by
  rw [← Bool.not_eq_true, pBad_iff]
  omega
theorem goes_bad (m : Nat) (h : goesB (m : Int) = true) : pBad m = false := by
  rw [← Bool.not_eq_true, pBad_iff]
  simp only [goesB, inTab, firstsT, furtherT, List.any_cons, List.any_nil, inPair, Bool.or_false, Bool.or_eq_true, Bool.and_eq_true, decide_eq_true_eq] at h
  omega
theorem walkG_bad (f : Nat → Nat) (N : Nat) : ∀ (g p : Nat), N ≤ g + p → walkG f N g p = true → ∀ i, p ≤ i → i < N → pBad (f i) = false
  | 0, p, h, _, i, h1, h2 => by omega
  | g + 1, p, h, hw, i, h1, h2 => by
    have hp : p < N := by omega
    obtain ⟨he, hg, hr⟩ := walkG_step hp hw
    have hpos := dN_pos f N p
    by_cases hi : i < p + (dN f N p).2
    · have he2 : ¬ ((dN f N p).1 = 65533 ∧ (dN f N p).2 = 1) := fun h => by rw [(errD_iff _).2 h] at he; cases he
      have hs := decodeN_shape (N - p) (f p) (f (p + 1)) (f (p + 2)) (f (p + 3)) (by omega) he2
      have h4 := decodeN_width (N - p) (f p) (f (p + 1)) (f (p + 2)) (f (p + 3))
      by_cases h1w : (dN f N p).2 = 1
      · have hi0 : i = p := by omega
        have hf := (hs.2.1 h1w)
        rw [hi0]
        have := goes_bad _ hg
        unfold dN at this
        rw [hf.2] at this
        exact this
      · apply pBad_high
        have hw1 : 1 < (decodeN (N - p) (f p) (f (p + 1)) (f (p + 2)) (f (p + 3))).2 := by unfold dN at h1w hpos; omega
        have b01 := hs.2.2.1 hw1
        rcases (show i = p ∨ i = p + 1 ∨ i = p + 2 ∨ i = p + 3 from by unfold dN at hi; omega) with rfl | rfl | rfl | rfl
        · exact b01.1
        · exact b01.2
        · exact hs.2.2.2.1 (by unfold dN at hi; omega)
        · exact hs.2.2.2.2 (by unfold dN at hi; omega)
    · exact walkG_bad f N g _ (by omega) hr i (by omega) h2
theorem name_bad {l : List UInt8} (h : nameW l = true) : ∀ b ∈ l, pBad b.toNat = false := by
  obtain ⟨hl, _, _, _, hw⟩ := name_parts h
  intro b hb
  obtain ⟨i, hi, rfl⟩ := List.getElem_of_mem hb
  have := walkG_bad (fs l) l.length l.length 0 (by omega) hw i (by omega) hi
  unfold fs at this
  rw [List.getD_eq_getElem?_getD, List.getElem?_eq_getElem hi] at this
  exact this
/-- Bytes that no key's path has. -/
def pSep (m : Nat) : Bool := m == 9 || m == 10 || m == 13 || m == 32 || m == 44 || m == 123 || m == 125
theorem pSep_iff (m : Nat) : pSep m = true ↔ (m = 9 ∨ m = 10 ∨ m = 13 ∨ m = 32 ∨ m = 44 ∨ m = 123 ∨ m = 125) := by
  unfold pSep
  simp only [Bool.or_eq_true, beq_iff_eq]
  omega
theorem sep_of_bad {m : Nat} (h : pBad m = false) : pSep m = false := by
  rw [← Bool.not_eq_true, pSep_iff]
  rw [← Bool.not_eq_true, pBad_iff] at h
  omega
theorem isBl_iff (b : UInt8) : isBl b = true ↔ (b.toNat = 9 ∨ b.toNat = 10 ∨ b.toNat = 13 ∨ b.toNat = 32) := by
  unfold isBl pBl
  simp only [Bool.or_eq_true, beq_iff_eq]
  omega
theorem sep_bl {b : UInt8} (h : pSep b.toNat = false) : isBl b = false := by
  rw [← Bool.not_eq_true, isBl_iff]
  rw [← Bool.not_eq_true, pSep_iff] at h
  omega
theorem sep_ne {b c : UInt8} (h : pSep b.toNat = false) (hc : pSep c.toNat = true) : b ≠ c := by
  rintro rfl
  rw [h] at hc
  cases hc
theorem bad_ne {b c : UInt8} (h : pBad b.toNat = false) (hc : pBad c.toNat = true) : b ≠ c := by
  rintro rfl
  rw [h] at hc
  cases hc
theorem nameW_nil : nameW [] = false := by kernel_rfl
theorem strip_bytes {x : List UInt8} (h : nameW (stripAt x) = true) : x ≠ [] ∧ ∀ b ∈ x, pSep b.toNat = false := by
  constructor
  · rintro rfl
    unfold stripAt at h
    rw [if_neg (by simp), nameW_nil] at h
    cases h
  · intro b hb
    unfold stripAt at h
    by_cases h0 : x.head? = some 64
    · rw [if_pos h0] at h
      cases x with
      | nil => cases hb
      | cons y t =>
        rcases List.mem_cons.1 hb with rfl | hb
        · simp at h0
          rw [h0]
          decide
        · exact sep_of_bad (name_bad h b hb)
    · rw [if_neg h0] at h
      exact sep_of_bad (name_bad h b hb)
theorem keyGo_bytes : ∀ {ps : List (List UInt8)}, keyGo ps = true → ∀ p ∈ ps, p ≠ [] ∧ ∀ b ∈ p, pSep b.toNat = false
  | [], _, p, hp => by cases hp
  | [x], h, p, hp => by
    rw [keyGo] at h
    rw [List.mem_singleton.1 hp]
    exact strip_bytes h
  | x :: y :: t, h, p, hp => by
    rw [keyGo, Bool.and_eq_true] at h
    rcases List.mem_cons.1 hp with rfl | hp
    · refine ⟨fun e => ?_, fun b hb => sep_of_bad (name_bad h.1 b hb)⟩
      rw [e, nameW_nil] at h
      cases h.1
    · exact keyGo_bytes h.2 p hp
theorem keyW_bytes {k : List UInt8} (h : keyW k = true) : k ≠ [] ∧ ∀ b ∈ k, pSep b.toNat = false := by
  unfold keyW at h
  rw [Bool.or_eq_true] at h
  rcases h with h | h
  · rw [beq_iff_eq.1 h]
    exact ⟨List.cons_ne_nil _ _, fun b hb => by rw [List.mem_singleton.1 hb]; decide⟩
  · have hb := keyGo_bytes h
    constructor
    · rintro rfl
      exact (hb [] (by rw [pieces]; exact List.mem_cons_self ..)).1 rfl
    · intro b hm
      rw [← join_pieces 47 k] at hm
      rcases joinB_mem hm with h1 | ⟨p, hp, h1⟩
      · rw [List.mem_singleton.1 h1]
        decide
      · exact (hb p hp).2 b h1

/-! ### blanks around -/
def rtrim (d : List UInt8) : List UInt8 := (d.reverse.dropWhile isBl).reverse
theorem drop_lead : ∀ l : List UInt8, l.drop (lead l) = l.dropWhile isBl
  | [] => rfl
  | b :: t => by
    rw [lead, List.dropWhile_cons]
    by_cases h : isBl b = true
    · rw [if_pos h, if_pos h, List.drop_succ_cons, drop_lead t]
    · rw [if_neg h, if_neg h, List.drop_zero]
theorem list_revB {P : List UInt8 → Prop} (h0 : P []) (h1 : ∀ l c, P l → P (l ++ [c])) (l : List UInt8) : P l := by
  have : ∀ l : List UInt8, P l.reverse := by
    intro l
    induction l with
    | nil => exact h0
    | cons x t ih => rw [List.reverse_cons]; exact h1 _ _ ih
  have h := this l.reverse
  rwa [List.reverse_reverse] at h
theorem rl_app (d : List UInt8) (c : UInt8) : ∀ i, i ≤ d.length → rl (d ++ [c]) i = rl d i
  | 0, _ => rfl
  | i + 1, h => by
    have hg : (d ++ [c]).getD i 0 = d.getD i 0 := by
      rw [List.getD_eq_getElem?_getD, List.getD_eq_getElem?_getD, List.getElem?_append_left (by omega)]
    rw [rl, rl, rl_app d c i (by omega), hg]
theorem take_rl (d : List UInt8) : d.take (rl d d.length) = rtrim d := by
  refine list_revB (P := fun d => d.take (rl d d.length) = rtrim d) rfl ?_ d
  intro l c ih
  unfold rtrim
  rw [List.reverse_append, List.reverse_singleton, List.singleton_append, List.dropWhile_cons, List.length_append, List.length_singleton, rl]
  have hg : (l ++ [c]).getD l.length 0 = c := by
    rw [List.getD_eq_getElem?_getD, List.getElem?_append_right (Nat.le_refl _), Nat.sub_self]
    rfl
  rw [hg]
  by_cases h : isBl c = true
  · rw [if_pos h, if_pos h, rl_app l c _ (Nat.le_refl _), List.take_append_of_le_length (rl_le l l.length), ih]
    rfl
  · rw [if_neg h, if_neg h, List.take_of_length_le (by simp), List.reverse_cons, List.reverse_reverse]
theorem trim_def (l : List UInt8) : trimL l = rtrim (l.dropWhile isBl) := by
  unfold trimL
  rw [drop_lead, take_rl]
theorem drop_blanks : ∀ {bl : List UInt8}, (∀ b ∈ bl, isBl b = true) → ∀ s, (bl ++ s).dropWhile isBl = s.dropWhile isBl
  | [], _, s => rfl
  | b :: t, h, s => by
    rw [List.cons_append, List.dropWhile_cons, if_pos (h b (List.mem_cons_self ..)), drop_blanks (fun x hx => h x (List.mem_cons_of_mem _ hx)) s]
theorem rtrim_blanks {bl : List UInt8} (h : ∀ b ∈ bl, isBl b = true) (s : List UInt8) : rtrim (s ++ bl) = rtrim s := by
  unfold rtrim
  rw [List.reverse_append, drop_blanks (fun b hb => h b (List.mem_reverse.1 hb))]
theorem rtrim_self {s : List UInt8} (h : ∀ b, s.getLast? = some b → isBl b = false) : rtrim s = s := by
  unfold rtrim
  cases hr : s.reverse with
  | nil =>
    rw [List.reverse_eq_nil_iff.1 hr]
    rfl
  | cons x t =>
    have hs : s = t.reverse ++ [x] := by
      have := congrArg List.reverse hr
      rw [List.reverse_reverse, List.reverse_cons] at this
      exact this
    have hx : isBl x = false := h x (by rw [hs, List.getLast?_append]; rfl)
    rw [List.dropWhile_cons, hx, if_neg (by decide), ← hr, List.reverse_reverse]
theorem drop_self {s : List UInt8} (h : ∀ b, s.head? = some b → isBl b = false) : s.dropWhile isBl = s := by
  cases s with
  | nil => rfl
  | cons x t => rw [List.dropWhile_cons, h x rfl, if_neg (by decide)]
theorem trim_self {s : List UInt8} (h : ∀ b, s.head? = some b → isBl b = false) (k : ∀ b, s.getLast? = some b → isBl b = false) : trimL s = s := by
  rw [trim_def, drop_self h, rtrim_self k]
/-- Blanks around a text that neither begins nor ends with one. -/
theorem trim_around {a s b : List UInt8} (ha : ∀ x ∈ a, isBl x = true) (hb : ∀ x ∈ b, isBl x = true) (hs : s ≠ []) (h : ∀ x, s.head? = some x → isBl x = false) (k : ∀ x, s.getLast? = some x → isBl x = false) : trimL (a ++ (s ++ b)) = s := by
  rw [trim_def, drop_blanks ha, drop_self, rtrim_blanks hb, rtrim_self k]
  intro x hx
  cases s with
  | nil => exact absurd rfl hs
  | cons y t => exact h x hx
theorem trim_blanks {a : List UInt8} (ha : ∀ x ∈ a, isBl x = true) : trimL a = [] := by
  have := drop_blanks ha []
  rw [List.append_nil] at this
  rw [trim_def, this]
  rfl
theorem trim_clean {s : List UInt8} (h : ∀ b ∈ s, isBl b = false) : trimL s = s :=
  trim_self (fun b hb => h b (List.mem_of_mem_head? hb)) (fun b hb => h b (List.mem_of_getLast? hb))

/-! ### a line -/
theorem joinB_ne {sep : List UInt8} : ∀ {ps : List (List UInt8)}, ps ≠ [] → (∀ p ∈ ps, p ≠ []) → joinB sep ps ≠ []
  | [], h, _ => absurd rfl h
  | [p], _, h => by rw [joinB]; exact h p (List.mem_cons_self ..)
  | p :: q :: t, _, h => by
    rw [joinB_cons]
    intro e
    exact h p (List.mem_cons_self ..) (List.append_eq_nil_iff.1 e).1
theorem joinB_head {sep p : List UInt8} {t : List (List UInt8)} {b : UInt8} {u : List UInt8} (hp : p = b :: u) : (joinB sep (p :: t)).head? = some b := by
  subst hp
  cases t with
  | nil => rw [joinB]; rfl
  | cons q t => rw [joinB_cons]; rfl
theorem joinB_last {sep : List UInt8} : ∀ {ps : List (List UInt8)}, ps ≠ [] → (∀ p ∈ ps, p ≠ []) → ∀ b, (joinB sep ps).getLast? = some b → ∃ p ∈ ps, b ∈ p
  | [], h, _, _, _ => absurd rfl h
  | [p], _, _, b, hb => by
    rw [joinB] at hb
    exact ⟨p, List.mem_cons_self .., List.mem_of_getLast? hb⟩
  | p :: q :: t, _, h, b, hb => by
    have hn : joinB sep (q :: t) ≠ [] := joinB_ne (List.cons_ne_nil _ _) (fun x hx => h x (List.mem_cons_of_mem _ hx))
    rw [joinB_cons, ← List.append_assoc, List.getLast?_append] at hb
    have h2 : (joinB sep (q :: t)).getLast? = some b := by
      cases hq : (joinB sep (q :: t)).getLast? with
      | none => exact absurd (List.getLast?_eq_none_iff.1 hq) hn
      | some c =>
        rw [hq] at hb
        exact hb
    obtain ⟨x, hx, hbx⟩ := joinB_last (List.cons_ne_nil _ _) (fun x hx => h x (List.mem_cons_of_mem _ hx)) b h2
    exact ⟨x, List.mem_cons_of_mem _ hx, hbx⟩
theorem cut1_at {c : UInt8} : ∀ {p : List UInt8}, c ∉ p → ∀ t, cut1 c (p ++ c :: t) = (p, some t)
  | [], _, t => by rw [List.nil_append, cut1, if_pos rfl]
  | b :: p, h, t => by
    have hb : b ≠ c := fun e => h (by rw [e]; exact List.mem_cons_self ..)
    rw [List.cons_append, cut1, if_neg hb, cut1_at (fun e => h (List.mem_cons_of_mem _ e)) t]
/-- Behind a byte, with blanks ahead of each but the first. -/
theorem pieces_keys : ∀ {ks : List (List UInt8)}, ks ≠ [] → (∀ k ∈ ks, k ≠ [] ∧ ∀ b ∈ k, pSep b.toNat = false) → (pieces 44 (joinB [44, 32] ks)).map trimL = ks
  | [], h, _ => absurd rfl h
  | [k], _, h => by
    have hk := h k (List.mem_cons_self ..)
    have h44 : (44 : UInt8) ∉ k := fun e => sep_ne (hk.2 44 e) (by decide) rfl
    rw [joinB, pieces_clean h44, List.map_cons, List.map_nil, trim_clean (fun b hb => sep_bl (hk.2 b hb))]
  | k :: q :: t, _, h => by
    have hk := h k (List.mem_cons_self ..)
    have hq := h q (List.mem_cons_of_mem _ (List.mem_cons_self ..))
    have h44 : (44 : UInt8) ∉ k := fun e => sep_ne (hk.2 44 e) (by decide) rfl
    have ih := pieces_keys (ks := q :: t) (List.cons_ne_nil _ _) (fun x hx => h x (List.mem_cons_of_mem _ hx))
    have hf := pieces_form 44 (joinB [44, 32] (q :: t))
    rw [hf, List.map_cons] at ih
    injection ih with i1 i2
    rw [joinB_cons, show ([44, 32] : List UInt8) ++ joinB [44, 32] (q :: t) = 44 :: 32 :: joinB [44, 32] (q :: t) from rfl, pieces_app h44, pieces_on (by decide), List.map_cons, List.map_cons, trim_clean (fun b hb => sep_bl (hk.2 b hb)), i2]
    have hz : trimL (32 :: (pieces 44 (joinB [44, 32] (q :: t))).headD []) = trimL ((pieces 44 (joinB [44, 32] (q :: t))).headD []) := by
      rw [trim_def, trim_def]
      exact congrArg rtrim (drop_blanks (bl := [32]) (fun b hb => by rw [List.mem_singleton.1 hb]; rfl) _)
    rw [hz, i1]
theorem keysT_join {ks : List (List UInt8)} (h : ∀ k ∈ ks, keyW k = true) : keysT (joinB [44, 32] ks) = ks := by
  have hb : ∀ k ∈ ks, k ≠ [] ∧ ∀ b ∈ k, pSep b.toNat = false := fun k hk => keyW_bytes (h k hk)
  unfold keysT
  cases ks with
  | nil => rw [joinB]; rfl
  | cons k t =>
    have hk := hb k (List.mem_cons_self ..)
    have hne : trimL (joinB [44, 32] (k :: t)) ≠ [] := by
      obtain ⟨b, u, rfl⟩ := List.exists_cons_of_ne_nil hk.1
      have hh : (joinB [44, 32] ((b :: u) :: t)).head? = some b := joinB_head rfl
      have hbb := sep_bl (hk.2 b (List.mem_cons_self ..))
      rw [trim_self]
      · intro e
        rw [e] at hh
        cases hh
      · intro x hx
        rw [hh] at hx
        rw [← Option.some.inj hx]
        exact hbb
      · intro x hx
        obtain ⟨p, hp, hxp⟩ := joinB_last (List.cons_ne_nil _ _) (fun p hp => (hb p hp).1) x hx
        exact sep_bl ((hb p hp).2 x hxp)
    rw [if_neg hne, pieces_keys (List.cons_ne_nil _ _) hb]
theorem path_bytes {r : Rl} (h : ruleW r = true) {b : UInt8} (hb : b ∈ joinB [47] r.path) : pSep b.toNat = false := by
  rcases joinB_mem hb with h1 | ⟨p, hp, h1⟩
  · rw [List.mem_singleton.1 h1]
    decide
  · exact sep_of_bad (name_bad (ruleW_names h p hp) b h1)
theorem readW_line {r : Rl} (h : ruleW r = true) : readW (lineW r) = some r := by
  have hnm := ruleW_names h
  have hne : ∀ p ∈ r.path, p ≠ [] := fun p hp e => by have := hnm p hp; rw [e, nameW_nil] at this; cases this
  have h1 : lineW r = (47 :: (joinB [47] r.path ++ [32])) ++ 123 :: (joinB [44, 32] r.keys ++ [125]) := by
    unfold lineW
    simp only [List.cons_append, List.append_assoc, List.nil_append]
  have h2 : (123 : UInt8) ∉ 47 :: (joinB [47] r.path ++ [32]) := by
    intro e
    rcases List.mem_cons.1 e with e | e
    · cases e
    · rcases List.mem_append.1 e with e | e
      · exact sep_ne (path_bytes h e) (by decide) rfl
      · cases List.mem_singleton.1 e
  have h3 : trimL (47 :: (joinB [47] r.path ++ [32])) = 47 :: joinB [47] r.path := by
    have := trim_around (a := []) (s := 47 :: joinB [47] r.path) (b := [32]) (fun x hx => by cases hx) (fun x hx => by rw [List.mem_singleton.1 hx]; rfl) (List.cons_ne_nil _ _) (fun x hx => by simp at hx; rw [← hx]; rfl) (fun x hx => by
      rcases List.mem_cons.1 (List.mem_of_getLast? hx) with e | e
      · rw [e]; rfl
      · exact sep_bl (path_bytes h e))
    exact this
  have h4 : pieces 47 (joinB [47] r.path) = r.path := pieces_join (ruleW_path h) (fun p hp e => bad_ne (name_bad (hnm p hp) 47 e) (by decide) rfl)
  have h5 : (joinB [44, 32] r.keys ++ [125]).dropLast = joinB [44, 32] r.keys := List.dropLast_concat
  have h6 : (joinB [44, 32] r.keys ++ [125]).getLast? = some 125 := by rw [List.getLast?_append]; rfl
  have h7 : (⟨pieces 47 (joinB [47] r.path), keysT (joinB [44, 32] r.keys)⟩ : Rl) = r := Rl.eq h4 (keysT_join (ruleW_keys h))
  unfold readW
  rw [h1, cut1_at h2]
  dsimp only
  rw [h3]
  dsimp only
  rw [h5, h7, if_pos ⟨rfl, h6, h⟩]
theorem line_last (r : Rl) : (lineW r).getLast? = some 125 := by
  unfold lineW
  rw [← List.cons_append, ← List.append_assoc, ← List.append_assoc, List.getLast?_append]
  rfl
theorem idle_line (r : Rl) : idle (lineW r) = false := rfl
theorem line_ends (r : Rl) : (∀ b, (lineW r).head? = some b → isBl b = false) ∧ (∀ b, (lineW r).getLast? = some b → isBl b = false) :=
  ⟨fun b hb => by
    have hh : (lineW r).head? = some 47 := rfl
    rw [hh] at hb
    rw [← Option.some.inj hb]
    rfl, fun b hb => by rw [line_last] at hb; rw [← Option.some.inj hb]; rfl⟩
theorem line_trim (r : Rl) : trimL (lineW r) = lineW r := trim_self (line_ends r).1 (line_ends r).2
theorem line_bytes {r : Rl} (h : ruleW r = true) {b : UInt8} (hb : b ∈ lineW r) : b ≠ 10 ∧ b ≠ 13 := by
  unfold lineW at hb
  have hs : pSep b.toNat = false ∨ b = 47 ∨ b = 32 ∨ b = 123 ∨ b = 125 ∨ b = 44 := by
    rcases List.mem_cons.1 hb with e | hb
    · exact .inr (.inl e)
    · rcases List.mem_append.1 hb with hb | hb
      · exact .inl (path_bytes h hb)
      · rcases List.mem_append.1 hb with hb | hb
        · rcases List.mem_cons.1 hb with e | hb
          · exact .inr (.inr (.inl e))
          · exact .inr (.inr (.inr (.inl (List.mem_singleton.1 hb))))
        · rcases List.mem_append.1 hb with hb | hb
          · rcases joinB_mem hb with hb | ⟨k, hk, hb⟩
            · rcases List.mem_cons.1 hb with e | hb
              · exact .inr (.inr (.inr (.inr (.inr e))))
              · exact .inr (.inr (.inl (List.mem_singleton.1 hb)))
            · exact .inl ((keyW_bytes (ruleW_keys h k hk)).2 b hb)
          · exact .inr (.inr (.inr (.inr (.inl (List.mem_singleton.1 hb)))))
  rcases hs with hs | hs | hs | hs | hs | hs
  · exact ⟨sep_ne hs (by decide), sep_ne hs (by decide)⟩
  all_goals
    rw [hs]
    exact ⟨by decide, by decide⟩

/-! ### lines -/
/-- Lines, each with the end it has. -/
def segs : List (List UInt8 × Bool) → List UInt8
  | [] => []
  | x :: t => x.1 ++ ((if x.2 = true then [13, 10] else [10]) ++ segs t)
theorem segs_app : ∀ l m : List (List UInt8 × Bool), segs (l ++ m) = segs l ++ segs m
  | [], _ => rfl
  | x :: t, m => by rw [List.cons_append, segs, segs, segs_app t m, List.append_assoc, List.append_assoc]
theorem eols_app : ∀ {p : List UInt8}, (∀ b ∈ p, b ≠ 13) → ∀ t, eols (p ++ t) = p ++ eols t
  | [], _, t => rfl
  | b :: p, h, t => by
    rw [List.cons_append, eols_cons, if_neg (h b (List.mem_cons_self ..)), eols_app (fun x hx => h x (List.mem_cons_of_mem _ hx)) t]
    rfl
theorem segs_lines : ∀ {L : List (List UInt8 × Bool)}, (∀ x ∈ L, ∀ b ∈ x.1, b ≠ 10 ∧ b ≠ 13) → pieces 10 (eols (segs L)) = L.map (fun x => x.1) ++ [[]]
  | [], _ => rfl
  | x :: t, h => by
    have hx := h x (List.mem_cons_self ..)
    have ih := segs_lines (L := t) (fun y hy => h y (List.mem_cons_of_mem _ hy))
    have h10 : (10 : UInt8) ∉ x.1 := fun e => (hx 10 e).1 rfl
    have he : eols ((if x.2 = true then [13, 10] else [10]) ++ segs t) = 10 :: eols (segs t) := by
      by_cases hc : x.2 = true
      · rw [if_pos hc]
        show eols (13 :: 10 :: segs t) = _
        rw [eols_cons, if_pos rfl, List.head?_cons, if_pos rfl, eols_cons, if_neg (by decide)]
      · rw [if_neg hc]
        show eols (10 :: segs t) = _
        rw [eols_cons, if_neg (by decide)]
    rw [segs, eols_app (fun b hb => (hx b hb).2), he, pieces_app h10, ih, List.map_cons]
    rfl
theorem goW_lines : ∀ {ts : List (List UInt8)} {n : Nat} {acc l : List Rl}, ts.filter (fun t => !idle t) = l.map lineW → mayGo acc l = true → acc.length + l.length ≤ 64 → acc ++ l ≠ [] → goW ts n acc = .ok (acc ++ l)
  | [], n, acc, l, hf, _, _, hne => by
    cases l with
    | cons r t => cases hf
    | nil =>
      rw [List.append_nil] at hne ⊢
      rw [goW, if_neg (by simpa using hne)]
  | t :: ts, n, acc, l, hf, hm, hl, hne => by
    rw [goW]
    by_cases hi : idle t = true
    · rw [if_pos hi]
      rw [List.filter_cons, if_neg (by rw [hi]; decide)] at hf
      exact goW_lines hf hm hl hne
    · rw [if_neg hi]
      rw [List.filter_cons, if_pos (by rw [Bool.not_eq_true] at hi; rw [hi]; rfl)] at hf
      cases l with
      | nil => cases hf
      | cons r l =>
        rw [List.map_cons] at hf
        injection hf with h1 h2
        rw [mayGo, Bool.and_eq_true, Bool.and_eq_true] at hm
        rw [List.length_cons] at hl
        rw [h1, readW_line hm.1.1]
        dsimp only
        rw [if_neg (by omega), if_pos hm.1.2, goW_lines h2 hm.2 (by rw [List.length_append, List.length_singleton]; omega) (by simp), List.append_assoc, List.singleton_append]
theorem mayW_parts {l : List Rl} (h : mayW l = true) : l ≠ [] ∧ l.length ≤ 64 ∧ mayGo [] l = true := by
  unfold mayW at h
  rw [Bool.and_eq_true, Bool.and_eq_true, decide_eq_true_eq] at h
  exact ⟨by simpa using h.1.1, h.1.2, h.2⟩
theorem mayGo_rules : ∀ {l acc : List Rl}, mayGo acc l = true → ∀ r ∈ l, ruleW r = true
  | [], _, _, r, hr => by cases hr
  | x :: t, acc, h, r, hr => by
    rw [mayGo, Bool.and_eq_true, Bool.and_eq_true] at h
    rcases List.mem_cons.1 hr with rfl | hr
    · exact h.1.1
    · exact mayGo_rules h.2 r hr
theorem parse_segs {L : List (List UInt8 × Bool)} {l : List Rl} (hb : ∀ x ∈ L, ∀ b ∈ x.1, b ≠ 10 ∧ b ≠ 13) (hf : ((L.map fun x => trimL x.1)).filter (fun t => !idle t) = l.map lineW) (h : mayW l = true) : parseW (segs L) = .ok l := by
  obtain ⟨h1, h2, h3⟩ := mayW_parts h
  unfold parseW
  rw [segs_lines hb, List.map_append, List.map_map]
  have hf2 : ((L.map (trimL ∘ fun x => x.1)) ++ List.map trimL [[]]).filter (fun t => !idle t) = l.map lineW := by
    rw [List.filter_append]
    have : (List.map trimL [[]]).filter (fun t => !idle t) = [] := rfl
    rw [this, List.append_nil]
    exact hf
  have := goW_lines (n := 1) (acc := []) hf2 h3 (by simpa using h2) (by simpa using h1)
  exact this
theorem text_segs : ∀ l : List Rl, textW l = segs (l.map fun r => (lineW r, false))
  | [] => rfl
  | r :: t => by
    rw [textW, text_segs t, List.map_cons, segs]
    rfl
/-- What the text of a specification is is read as it. -/
theorem parse_text {l : List Rl} (h : mayW l = true) : parseW (textW l) = .ok l := by
  have hr := mayGo_rules (mayW_parts h).2.2
  rw [text_segs]
  refine parse_segs (fun x hx b hb => ?_) ?_ h
  · obtain ⟨r, hrl, rfl⟩ := List.mem_map.1 hx
    exact line_bytes (hr r hrl) hb
  · rw [List.map_map]
    have : (l.map ((fun x : List UInt8 × Bool => trimL x.1) ∘ fun r => (lineW r, false))) = l.map lineW := List.map_congr_left (fun r _ => line_trim r)
    rw [this]
    exact List.filter_eq_self.2 (fun t ht => by obtain ⟨r, _, rfl⟩ := List.mem_map.1 ht; rw [idle_line]; rfl)

/-! ### with remarks, empty lines and blanks -/
def remarkS : List UInt8 := [35, 32, 97, 32, 114, 101, 109, 97, 114, 107]
def idleS : Nat → List UInt8
  | 0 => []
  | k + 1 => idleS k ++ [32, 10, 35, 120, 10]
def idleL : Nat → List (List UInt8 × Bool)
  | 0 => []
  | k + 1 => idleL k ++ [([32], false), ([35, 120], false)]
theorem idle_segs : ∀ k, idleS k = segs (idleL k)
  | 0 => rfl
  | k + 1 => by
    rw [idleS, idleL, segs_app, ← idle_segs k]
    rfl
/-- The lines of rules, with as much around. -/
def decoS (k : Nat) : List Rl → List UInt8
  | [] => []
  | r :: t => idleS k ++ ([32, 9] ++ (lineW r ++ ([32, 13, 10] ++ decoS k t)))
def decoL (k : Nat) : List Rl → List (List UInt8 × Bool)
  | [] => []
  | r :: t => idleL k ++ ([32, 9] ++ (lineW r ++ [32]), true) :: decoL k t
theorem deco_segs (k : Nat) : ∀ l, decoS k l = segs (decoL k l)
  | [] => rfl
  | r :: t => by
    rw [decoS, decoL, segs_app, segs, idle_segs, deco_segs k t]
    simp only [if_pos, List.append_assoc]
    rfl
theorem decoS_app (k : Nat) : ∀ l m, decoS k (l ++ m) = decoS k l ++ decoS k m
  | [], _ => rfl
  | r :: t, m => by
    rw [List.cons_append, decoS, decoS, decoS_app k t m]
    simp only [List.append_assoc]
theorem idleL_bytes : ∀ {k : Nat} {x : List UInt8 × Bool}, x ∈ idleL k → ∀ b ∈ x.1, b ≠ 10 ∧ b ≠ 13
  | 0, x, h, _, _ => by cases h
  | k + 1, x, h, b, hb => by
    rw [idleL] at h
    rcases List.mem_append.1 h with h | h
    · exact idleL_bytes h b hb
    · rcases List.mem_cons.1 h with rfl | h
      · rw [List.mem_singleton.1 hb]
        exact ⟨by decide, by decide⟩
      · rw [List.mem_singleton.1 h] at hb
        rcases List.mem_cons.1 hb with rfl | hb
        · exact ⟨by decide, by decide⟩
        · rw [List.mem_singleton.1 hb]
          exact ⟨by decide, by decide⟩
theorem idleL_idle : ∀ k : Nat, ((idleL k).map fun x => trimL x.1).filter (fun t => !idle t) = []
  | 0 => rfl
  | k + 1 => by
    rw [idleL, List.map_append, List.filter_append, idleL_idle k]
    rfl
theorem deco_filter (k : Nat) : ∀ l : List Rl, ((decoL k l).map fun x => trimL x.1).filter (fun t => !idle t) = l.map lineW
  | [] => rfl
  | r :: t => by
    have ht : trimL ([32, 9] ++ (lineW r ++ [32])) = lineW r := trim_around (fun x hx => by
      rcases List.mem_cons.1 hx with rfl | hx
      · rfl
      · rw [List.mem_singleton.1 hx]; rfl) (fun x hx => by rw [List.mem_singleton.1 hx]; rfl) (by unfold lineW; exact List.cons_ne_nil _ _) (line_ends r).1 (line_ends r).2
    rw [decoL, List.map_append, List.filter_append, idleL_idle, List.nil_append, List.map_cons, ht, List.filter_cons, if_pos (by rw [idle_line]; rfl), deco_filter k t, List.map_cons]
theorem deco_bytes {k : Nat} : ∀ {l : List Rl}, (∀ r ∈ l, ruleW r = true) → ∀ x ∈ decoL k l, ∀ b ∈ x.1, b ≠ 10 ∧ b ≠ 13
  | [], _, x, hx, _, _ => by cases hx
  | r :: t, h, x, hx, b, hb => by
    rw [decoL] at hx
    rcases List.mem_append.1 hx with hx | hx
    · exact idleL_bytes hx b hb
    · rcases List.mem_cons.1 hx with rfl | hx
      · rcases List.mem_append.1 hb with hb | hb
        · rcases List.mem_cons.1 hb with rfl | hb
          · exact ⟨by decide, by decide⟩
          · rw [List.mem_singleton.1 hb]
            exact ⟨by decide, by decide⟩
        · rcases List.mem_append.1 hb with hb | hb
          · exact line_bytes (h r (List.mem_cons_self ..)) hb
          · rw [List.mem_singleton.1 hb]
            exact ⟨by decide, by decide⟩
      · exact deco_bytes (fun y hy => h y (List.mem_cons_of_mem _ hy)) x hx b hb
/-- Remarks, empty lines, and blanks around lines, don't matter. -/
theorem parse_deco (k : Nat) {l : List Rl} (h : mayW l = true) : parseW (remarkS ++ ([13, 10] ++ decoS k l)) = .ok l := by
  have hr := mayGo_rules (mayW_parts h).2.2
  have hs : remarkS ++ ([13, 10] ++ decoS k l) = segs ((remarkS, true) :: decoL k l) := by
    rw [segs, deco_segs]
    rfl
  rw [hs]
  refine parse_segs (fun x hx b hb => ?_) ?_ h
  · rcases List.mem_cons.1 hx with rfl | hx
    · exact (show ∀ b ∈ remarkS, b ≠ 10 ∧ b ≠ 13 by decide) b hb
    · exact deco_bytes hr x hx b hb
  · rw [List.map_cons, List.filter_cons, if_neg (by decide), deco_filter]

end Go.Proofs.YtojpjhfafbdpcaaGreatDoor
