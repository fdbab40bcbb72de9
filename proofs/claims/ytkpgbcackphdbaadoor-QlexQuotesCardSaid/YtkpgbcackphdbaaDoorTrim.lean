/-
  strings.TrimFunc with the four blanks, as a function of a text's bytes: the blanks at both ends fall away; a second time nothing turns. No condition.
-/
import Derived.Shelf.GgClosure.StringsTrimFunc
import Derived.Lib.TrimAscii
namespace Go.Proofs.YtkpgbcackphdbaaDoor
open Go.RowKit Go.Lib

def pBl (m : Nat) : Bool := m == 9 || m == 10 || m == 13 || m == 32
def isBl (b : UInt8) : Bool := pBl b.toNat

theorem pBl_high {m : Nat} (h : 128 ≤ m) : pBl m = false := by
  unfold pBl
  simp
  omega

/-- How many blanks stand ahead. -/
def lead : List UInt8 → Nat
  | [] => 0
  | b :: t => if isBl b = true then lead t + 1 else 0
/-- What is left of the first i bytes without the blanks at their end. -/
def rl (l : List UInt8) : Nat → Nat
  | 0 => 0
  | i + 1 => if isBl (l.getD i 0) = true then rl l i else i + 1
def trimL (l : List UInt8) : List UInt8 := (l.drop (lead l)).take (rl (l.drop (lead l)) (l.drop (lead l)).length)

theorem lead_le : ∀ l, lead l ≤ l.length
  | [] => Nat.le_refl _
  | b :: t => by
    have := lead_le t
    unfold lead
    split
    · simp; omega
    · omega
theorem rl_le (l : List UInt8) : ∀ i, rl l i ≤ i
  | 0 => Nat.le_refl _
  | i + 1 => by
    have := rl_le l i
    unfold rl
    split <;> omega

theorem decodeN_high (n b0 b1 b2 b3 : Nat) (h : 128 ≤ b0) : 128 ≤ (decodeN n b0 b1 b2 b3).1 := by
  unfold decodeN
  repeat' split
  all_goals simp only
  all_goals omega

theorem rune_blank (b : UInt8) (t : List UInt8) : pBl (decodeL (b :: t)).1 = isBl b := by
  by_cases h : b.toNat < 128
  · rw [decodeL_ascii b t h]
    rfl
  · have h1 : isBl b = false := pBl_high (by omega)
    rw [h1, decodeL_N]
    exact pBl_high (decodeN_high _ _ _ _ _ (by show 128 ≤ b.toNat; omega))

theorem rune_width (b : UInt8) (t : List UInt8) (h : isBl b = true) : (decodeL (b :: t)).2 = 1 := by
  have h2 : b.toNat < 128 := by
    rcases Nat.lt_or_ge b.toNat 128 with h3 | h3
    · exact h3
    · rw [isBl, pBl_high h3] at h; cases h
  rw [decodeL_ascii b t h2]

theorem idx_lead (s : ByteArray) : ∀ (f pos : Nat), s.size ≤ pos + f →
    idxFuncFrom pBl false s f pos = if pos + lead (s.data.toList.drop pos) < s.size then ((pos + lead (s.data.toList.drop pos) : Nat) : Int) else -1
  | 0, pos, h => by rw [idxFuncFrom, if_neg (by omega)]
  | f + 1, pos, h => by
    have hlen : s.data.toList.length = s.size := Array.length_toList
    by_cases hp : pos < s.size
    · obtain ⟨x, hd⟩ : ∃ x, s.data.toList.drop pos = x :: s.data.toList.drop (pos + 1) := ⟨_, List.drop_eq_getElem_cons (by omega)⟩
      have ih := idx_lead s f (pos + 1) (by omega)
      rw [idxFuncFrom, if_pos hp, ← decodeL_drop, hd, rune_blank]
      cases hb : isBl x with
      | true =>
        have hz : lead (x :: s.data.toList.drop (pos + 1)) = lead (s.data.toList.drop (pos + 1)) + 1 := by rw [lead, if_pos hb]
        rw [rune_width _ _ hb, hz, ih, if_neg (by decide), show pos + 1 + lead (s.data.toList.drop (pos + 1)) = pos + (lead (s.data.toList.drop (pos + 1)) + 1) by omega]
      | false =>
        have hz : lead (x :: s.data.toList.drop (pos + 1)) = 0 := by rw [lead, hb]; rfl
        rw [hz, if_pos rfl, Nat.add_zero, if_pos hp]
    · rw [idxFuncFrom_end _ _ _ _ _ hp, if_neg (by omega)]

theorem left_eq (s : ByteArray) : (trimLeftF pBl s).data.toList = s.data.toList.drop (lead s.data.toList) := by
  have hlen : s.data.toList.length = s.size := Array.length_toList
  have hl := lead_le s.data.toList
  have h := idx_lead s s.size 0 (by omega)
  rw [Nat.zero_add, List.drop_zero] at h
  unfold trimLeftF idxFunc
  rw [h]
  by_cases hc : lead s.data.toList < s.size
  · rw [if_pos hc, if_neg (by omega), Lib.extract_data, Int.toNat_natCast]
    exact List.take_of_length_le (by rw [List.length_drop]; omega)
  · rw [if_neg hc, if_pos rfl, List.drop_eq_nil_of_le (by omega)]

theorem last_rl (s : ByteArray) : ∀ (f i : Nat), i ≤ f → i ≤ s.data.toList.length → OpenAt s.data.toList i →
    (rl s.data.toList i = 0 ∧ lastIdxFuncFrom pBl false s f i = -1) ∨
      ∃ j : Nat, lastIdxFuncFrom pBl false s f i = j ∧ j < s.data.toList.length ∧ j + (decodeL (s.data.toList.drop j)).2 = rl s.data.toList i
  | f, 0, _, _, _ => Or.inl ⟨rfl, lastIdxFuncFrom_zero _ _ _ _⟩
  | 0, i + 1, h, _, _ => by omega
  | f + 1, i + 1, hf, hi, ho => by
    have hw := fw_width s.data.toList (i + 1) (by omega) hi ho
    rw [lastIdxFuncFrom, if_pos (by omega)]
    rcases last_cases s.data.toList (i + 1) (by omega) hi with ⟨ha, hd⟩ | ⟨ha, hd⟩ | ⟨ha, st, hst, hd, hsum⟩
    · rw [Nat.add_sub_cancel] at ha hd
      rw [hd] at hw ⊢
      simp only [Nat.add_sub_cancel] at hw ⊢
      rw [show pBl (s.data.toList.getD i 0).toNat = isBl (s.data.toList.getD i 0) from rfl, rl]
      cases hb : isBl (s.data.toList.getD i 0) with
      | true =>
        rw [if_pos rfl, if_neg (by decide)]
        exact last_rl s f i (by omega) (by omega) (Or.inr (by omega))
      | false =>
        rw [if_pos rfl, if_neg (by decide)]
        exact Or.inr ⟨i, rfl, by omega, by rw [hw]⟩
    all_goals
      rw [Nat.add_sub_cancel] at ha
      have hbl : isBl (s.data.toList.getD i 0) = false := pBl_high ha
      rw [rl, hbl, if_neg (by decide)]
    · rw [hd] at hw ⊢
      simp only [Nat.add_sub_cancel] at hw ⊢
      rw [show pBl 65533 = false from rfl, if_pos rfl]
      exact Or.inr ⟨i, rfl, by omega, by rw [hw]⟩
    · have hne : (s.data.toList.take (i + 1)).drop st ≠ [] := fun h => by
        have := congrArg List.length h
        rw [List.length_drop, List.length_take, List.length_nil] at this
        omega
      obtain ⟨b, t, hbt⟩ := List.exists_cons_of_ne_nil hne
      have hb0 : b = s.data.toList.getD st 0 := by
        have e : b = ((s.data.toList.take (i + 1)).drop st).getD 0 0 := by rw [hbt]; rfl
        rw [e, getD_dropU, getD_takeU _ _ _ (by omega)]
        rfl
      have hnb : pBl (decodeLastL (s.data.toList.take (i + 1))).1 = false := by
        rw [hd, hbt, rune_blank]
        cases hq : isBl b with
        | false => rfl
        | true =>
          have h1 := rune_width b t hq
          rw [hbt, h1] at hsum
          have : st = i := by omega
          subst this
          rw [hb0, hbl] at hq
          cases hq
      rw [hnb, if_pos rfl]
      have hw1 : (decodeLastL (s.data.toList.take (i + 1))).2 ≤ i + 1 := by rw [hd]; omega
      have hpos : 1 ≤ (decodeLastL (s.data.toList.take (i + 1))).2 := by
        rw [hd, hbt, decodeL_N]
        unfold decodeN
        repeat' split
        all_goals simp
      exact Or.inr ⟨_, rfl, by omega, by rw [hw]; omega⟩

theorem right_end (s : ByteArray) : rightEndF pBl s = rl s.data.toList s.data.toList.length := by
  have hlen : s.data.toList.length = s.size := Array.length_toList
  unfold rightEndF lastIdxFunc
  rw [← hlen]
  rcases last_rl s s.data.toList.length s.data.toList.length (Nat.le_refl _) (Nat.le_refl _) (Or.inl rfl) with ⟨h1, h2⟩ | ⟨j, h1, h2, h3⟩
  · rw [h2, h1]
    rfl
  · rw [h1, if_pos (by omega), Int.toNat_natCast, ← h3]
    have he : (s.extract j s.data.toList.length).data.toList = s.data.toList.drop j := by
      rw [Lib.extract_data]
      exact List.take_of_length_le (by rw [List.length_drop]; omega)
    have hs : (s.extract j s.data.toList.length).size ≠ 0 := by
      intro h0
      have := congrArg List.length he
      rw [Array.length_toList] at this
      simp only [List.length_drop] at this
      have e2 : (s.extract j s.data.toList.length).data.size = (s.extract j s.data.toList.length).size := rfl
      omega
    unfold decodeGoB
    rw [if_neg hs, ← decodeL_drop, he]
    rfl

theorem trim_eq (s : ByteArray) : (trimF pBl s).data.toList = trimL s.data.toList := by
  unfold trimF trimRightF
  rw [right_end, left_eq, Lib.extract_data]
  have hlen := left_eq s
  simp only [hlen, List.drop_zero, Nat.sub_zero]
  rfl

theorem lead_drop : ∀ l : List UInt8, lead (l.drop (lead l)) = 0
  | [] => rfl
  | b :: t => by
    by_cases h : isBl b = true
    · rw [show lead (b :: t) = lead t + 1 by rw [lead, if_pos h], List.drop_succ_cons]
      exact lead_drop t
    · have hz : lead (b :: t) = 0 := by rw [lead, if_neg h]
      rw [hz, List.drop_zero, hz]

theorem rl_take (l : List UInt8) (m : Nat) : ∀ i, i ≤ m → rl (l.take m) i = rl l i
  | 0, _ => rfl
  | i + 1, h => by
    rw [rl, rl, rl_take l m i (by omega), getD_takeU l m i (by omega)]

theorem rl_again (l : List UInt8) : ∀ i, rl l (rl l i) = rl l i
  | 0 => rfl
  | i + 1 => by
    by_cases h : isBl (l.getD i 0) = true
    · rw [show rl l (i + 1) = rl l i by rw [rl, if_pos h]]
      exact rl_again l i
    · rw [show rl l (i + 1) = i + 1 by rw [rl, if_neg h], rl, if_neg h]

theorem lead_take (d : List UInt8) (m : Nat) (h : lead d = 0) : lead (d.take m) = 0 := by
  cases d with
  | nil => simp [lead]
  | cons b t =>
    cases m with
    | zero => rfl
    | succ m =>
      rw [List.take_succ_cons]
      unfold lead at h ⊢
      by_cases hb : isBl b = true
      · rw [if_pos hb] at h; omega
      · rw [if_neg hb]

theorem trim_again (l : List UInt8) : trimL (trimL l) = trimL l := by
  have h0 := lead_drop l
  obtain ⟨d, hd⟩ : ∃ d, l.drop (lead l) = d := ⟨_, rfl⟩
  unfold trimL
  rw [hd] at h0 ⊢
  have hm := rl_le d d.length
  obtain ⟨m, hmm⟩ : ∃ m, rl d d.length = m := ⟨_, rfl⟩
  have ha := rl_again d d.length
  rw [hmm] at hm ha ⊢
  rw [lead_take d m h0, List.drop_zero]
  have hl : (d.take m).length = m := by rw [List.length_take]; omega
  rw [hl, rl_take d m m (Nat.le_refl _), ha, List.take_take, Nat.min_self]

theorem trim_sides (s : List UInt8) (hne : s ≠ []) (hb : ∀ b ∈ s, isBl b = false) : trimL (32 :: 9 :: (s ++ [13, 10])) = s := by
  obtain ⟨b, t, rfl⟩ := List.exists_cons_of_ne_nil hne
  have hbb := hb b (by simp)
  have hl : lead (32 :: 9 :: (b :: t ++ [13, 10])) = 2 := by
    rw [lead, if_pos (by decide), lead, if_pos (by decide), List.cons_append, lead, if_neg (by rw [hbb]; decide)]
  unfold trimL
  rw [hl]
  simp only [List.drop_succ_cons, List.drop_zero]
  obtain ⟨n, hn⟩ : ∃ n, (b :: t).length = n + 1 := ⟨t.length, by simp⟩
  have hlen : ((b :: t) ++ [13, 10]).length = n + 1 + 1 + 1 := by rw [List.length_append, hn]; rfl
  have g1 : ((b :: t) ++ [13, 10]).getD (n + 1 + 1) 0 = 10 := by
    rw [List.getD_eq_getElem?_getD, List.getElem?_append_right (by omega), hn, show n + 1 + 1 - (n + 1) = 1 by omega]
    rfl
  have g2 : ((b :: t) ++ [13, 10]).getD (n + 1) 0 = 13 := by
    rw [List.getD_eq_getElem?_getD, List.getElem?_append_right (by omega), hn, Nat.sub_self]
    rfl
  have g3 : isBl (((b :: t) ++ [13, 10]).getD n 0) = false := by
    rw [List.getD_eq_getElem?_getD, List.getElem?_append_left (by omega)]
    cases hq : (b :: t)[n]? with
    | none => rw [List.getElem?_eq_none_iff] at hq; omega
    | some x => exact hb x (List.mem_of_getElem? hq)
  rw [hlen, rl, g1, if_pos (by decide), rl, g2, if_pos (by decide), rl, if_neg (by rw [g3]; decide), List.take_append_of_le_length (by omega), List.take_of_length_le (by omega)]

end Go.Proofs.YtkpgbcackphdbaaDoor
