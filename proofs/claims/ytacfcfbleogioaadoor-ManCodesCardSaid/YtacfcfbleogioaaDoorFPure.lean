/-
  Frames by definition: a number's four bytes, what stands at the beginning of bytes, the record there, all records. Of no program. No condition.
-/
import Derived.Test.YtacfcfbleogioaaDoorCPure
namespace Go.Proofs.YtacfcfbleogioaaDoor

/-- These are bytes. -/
def Byts (l : List Nat) : Prop := ∀ c ∈ l, c < 256
theorem Byts.app {l m : List Nat} (h : Byts l) (k : Byts m) : Byts (l ++ m) := fun c hc => (List.mem_append.1 hc).elim (h c) (k c)
theorem Byts.take {l : List Nat} (h : Byts l) (n : Nat) : Byts (l.take n) := fun c hc => h c (List.mem_of_mem_take hc)
theorem Byts.drop {l : List Nat} (h : Byts l) (n : Nat) : Byts (l.drop n) := fun c hc => h c (List.mem_of_mem_drop hc)

/-- A number's four bytes. -/
def w32 (n : Nat) : List Nat := [n % 256, n / 256 % 256, n / 65536 % 256, n / 16777216 % 256]
/-- The number that four bytes are. -/
def g4 (a b c d : Nat) : Nat := a + 256 * b + 65536 * c + 16777216 * d
def get32 : List Nat → Nat
  | a :: b :: c :: d :: _ => g4 a b c d
  | _ => 0

theorem w32_len (n : Nat) : (w32 n).length = 4 := rfl
theorem w32_byts (n : Nat) : Byts (w32 n) := by
  intro c hc
  unfold w32 at hc
  simp only [List.mem_cons, List.not_mem_nil, or_false] at hc
  rcases hc with rfl | rfl | rfl | rfl <;> omega
theorem get_w32 {n : Nat} (h : n < 4294967296) (t : List Nat) : get32 (w32 n ++ t) = n := by
  show g4 (n % 256) (n / 256 % 256) (n / 65536 % 256) (n / 16777216 % 256) = n
  unfold g4
  omega
theorem four {l : List Nat} (h : 4 ≤ l.length) : ∃ a b c d t, l = a :: b :: c :: d :: t := by
  match l, h with
  | a :: b :: c :: d :: t, _ => exact ⟨a, b, c, d, t, rfl⟩
theorem get32_lt {l : List Nat} (h : Byts l) : get32 l < 4294967296 := by
  unfold get32
  split
  · next a b c d t =>
    have ha := h a (by simp)
    have hb := h b (by simp)
    have hc := h c (by simp)
    have hd := h d (by simp)
    unfold g4
    omega
  · decide
theorem w32_get {l : List Nat} (h : Byts l) (h4 : 4 ≤ l.length) : w32 (get32 l) = l.take 4 := by
  obtain ⟨a, b, c, d, t, rfl⟩ := four h4
  have ha := h a (by simp)
  have hb := h b (by simp)
  have hc := h c (by simp)
  have hd := h d (by simp)
  show w32 (g4 a b c d) = [a, b, c, d]
  unfold w32 g4
  simp only [List.cons.injEq, and_true]
  refine ⟨by omega, by omega, by omega, by omega⟩
theorem get32_take {l : List Nat} {n : Nat} (h4 : 4 ≤ n) : get32 (l.take n) = get32 l := by
  match n, h4 with
  | n + 4, _ =>
    match l with
    | [] => rfl
    | [a] => rfl
    | [a, b] => rfl
    | [a, b, c] => rfl
    | a :: b :: c :: d :: t => rfl
theorem get32_app {l t : List Nat} (h4 : 4 ≤ l.length) : get32 (l ++ t) = get32 l := by
  obtain ⟨a, b, c, d, s, rfl⟩ := four h4
  rfl

/-- A frame's sum, as a number. -/
def sumN (l r : List Nat) : Nat := (onB (sumB l) r).toNat
theorem sumN_lt (l r : List Nat) : sumN l r < 4294967296 := (onB (sumB l) r).isLt
/-- A record's frame. -/
def frm (r : List Nat) : List Nat := w32 r.length ++ (w32 (sumN (w32 r.length) r) ++ r)
theorem frm_len (r : List Nat) : (frm r).length = 8 + r.length := by
  unfold frm
  rw [List.length_append, List.length_append, w32_len, w32_len]
  omega
theorem frm_byts {r : List Nat} (h : Byts r) : Byts (frm r) := (w32_byts _).app ((w32_byts _).app h)
/-- Put. -/
def putB (r : List Nat) : List Nat := if 1 ≤ r.length ∧ r.length ≤ 1048576 then frm r else []
theorem putB_byts {r : List Nat} (h : Byts r) : Byts (putB r) := by
  unfold putB
  split
  · exact frm_byts h
  · intro c hc; cases hc
theorem putB_len (r : List Nat) : (putB r).length ≤ 8 + r.length := by
  unfold putB
  split
  · rw [frm_len]; omega
  · exact Nat.zero_le _

/-- The record at the beginning. -/
def recB (b : List Nat) : List Nat := (b.drop 8).take (get32 b)
/-- What stands at the beginning. -/
def standsB (b : List Nat) : Nat :=
  if b.length = 0 then 2
  else if b.length < 4 then 3
  else if ¬ (1 ≤ get32 b ∧ get32 b ≤ 1048576) then 4
  else if b.length < 8 + get32 b then 3
  else if get32 (b.drop 4) ≠ sumN (b.take 4) (recB b) then 4
  else 1

theorem stands_any (b : List Nat) : standsB b = 1 ∨ standsB b = 2 ∨ standsB b = 3 ∨ standsB b = 4 := by
  unfold standsB
  repeat' split
  all_goals simp
/-- What is known of bytes that begin with a frame. -/
theorem fwhole {b : List Nat} (h : standsB b = 1) : 1 ≤ get32 b ∧ get32 b ≤ 1048576 ∧ 8 + get32 b ≤ b.length ∧ get32 (b.drop 4) = sumN (b.take 4) (recB b) ∧ (recB b).length = get32 b := by
  unfold standsB at h
  split at h
  · cases h
  split at h
  · cases h
  split at h
  · cases h
  split at h
  · cases h
  split at h
  · cases h
  · next h1 h2 h3 h4 h5 =>
    have h3' := Classical.not_not.1 h3
    refine ⟨h3'.1, h3'.2, by omega, Classical.not_not.1 h5, ?_⟩
    unfold recB
    rw [List.length_take, List.length_drop]
    omega
/-- Bytes that begin with a frame are that frame, and what is behind it. -/
theorem whole_frm {b : List Nat} (hb : Byts b) (h : standsB b = 1) : frm (recB b) = b.take (8 + get32 b) := by
  obtain ⟨h1, h2, h3, h4, h5⟩ := fwhole h
  unfold frm
  have e1 : w32 (get32 b) = b.take 4 := w32_get hb (by omega)
  have e2 : w32 (get32 (b.drop 4)) = (b.drop 4).take 4 := w32_get (hb.drop 4) (by rw [List.length_drop]; omega)
  rw [h5, e1, ← h4, e2]
  unfold recB
  rw [show 8 + get32 b = 4 + (4 + get32 b) by omega, List.take_add, List.take_add, List.drop_drop]
theorem frm_first (r t : List Nat) (hr : 1 ≤ r.length) (hr2 : r.length ≤ 1048576) : standsB (frm r ++ t) = 1 ∧ get32 (frm r ++ t) = r.length ∧ recB (frm r ++ t) = r ∧ (frm r ++ t).drop (8 + r.length) = t := by
  have hg : get32 (frm r ++ t) = r.length := by
    unfold frm
    rw [List.append_assoc]
    exact get_w32 (by omega) _
  have hl : (frm r ++ t).length = 8 + r.length + t.length := by rw [List.length_append, frm_len]
  have hrec : recB (frm r ++ t) = r := by
    unfold recB
    rw [hg]
    unfold frm
    show List.take r.length (r ++ t) = r
    exact List.take_left
  have htk : (frm r ++ t).take 4 = w32 r.length := rfl
  have hdr : get32 ((frm r ++ t).drop 4) = sumN (w32 r.length) r := by
    show get32 (w32 (sumN (w32 r.length) r) ++ r ++ t) = _
    rw [List.append_assoc]
    exact get_w32 (sumN_lt _ _) _
  refine ⟨?_, hg, hrec, ?_⟩
  · unfold standsB
    rw [if_neg (by omega), if_neg (by omega), if_neg (by rw [hg]; omega), if_neg (by rw [hg]; omega), if_neg (by rw [hdr, hrec, htk]; exact fun h => h rfl)]
  · exact List.drop_left' (frm_len r)
/-- A frame of which bytes are missing at the end. -/
theorem frm_torn (r t : List Nat) (hr : 1 ≤ r.length) (hr2 : r.length ≤ 1048576) (n : Nat) (h0 : 0 < n) (h1 : n < 8 + r.length) : standsB ((frm r ++ t).take n) = 3 := by
  have hl : ((frm r ++ t).take n).length = n := by rw [List.length_take, List.length_append, frm_len]; omega
  unfold standsB
  rw [hl, if_neg (by omega)]
  by_cases h4 : n < 4
  · rw [if_pos h4]
  · have hg : get32 ((frm r ++ t).take n) = r.length := by
      rw [get32_take (by omega)]
      exact (frm_first r t hr hr2).2.1
    rw [if_neg h4, hg, if_neg (by omega), if_pos h1]

/-- All records, so many at most. -/
def allF : Nat → List Nat → List (List Nat) × Nat × Nat
  | 0, b => ([], 0, standsB b)
  | f + 1, b => if standsB b = 1 then (recB b :: (allF f (b.drop (8 + get32 b))).1, 8 + get32 b + (allF f (b.drop (8 + get32 b))).2.1, (allF f (b.drop (8 + get32 b))).2.2) else ([], 0, standsB b)
def allB (b : List Nat) : List (List Nat) × Nat × Nat := allF b.length b
theorem allF_more : ∀ (f g : Nat) (b : List Nat), b.length ≤ f → b.length ≤ g → allF f b = allF g b
  | 0, 0, _, _, _ => rfl
  | 0, g + 1, b, h, _ => by
    have hb : b = [] := List.length_eq_zero_iff.1 (by omega)
    subst hb
    rfl
  | f + 1, 0, b, _, h => by
    have hb : b = [] := List.length_eq_zero_iff.1 (by omega)
    subst hb
    rfl
  | f + 1, g + 1, b, hf, hg => by
    unfold allF
    by_cases hs : standsB b = 1
    · have hw := fwhole hs
      rw [if_pos hs, if_pos hs, allF_more f g _ (by rw [List.length_drop]; omega) (by rw [List.length_drop]; omega)]
    · rw [if_neg hs, if_neg hs]
theorem allB_whole {b : List Nat} (h : standsB b = 1) : allB b = (recB b :: (allB (b.drop (8 + get32 b))).1, 8 + get32 b + (allB (b.drop (8 + get32 b))).2.1, (allB (b.drop (8 + get32 b))).2.2) := by
  have hw := fwhole h
  unfold allB
  obtain ⟨n, hn⟩ : ∃ n, b.length = n + 1 := ⟨b.length - 1, by omega⟩
  rw [hn]
  conv => lhs; unfold allF
  rw [if_pos h, allF_more n (b.drop (8 + get32 b)).length _ (by rw [List.length_drop]; omega) (Nat.le_refl _)]
theorem allB_else {b : List Nat} (h : standsB b ≠ 1) : allB b = ([], 0, standsB b) := by
  unfold allB allF
  split
  · rfl
  · rw [if_neg h]
theorem allB_nil : allB [] = ([], 0, 2) := rfl
theorem allB_frm (r t : List Nat) (hr : 1 ≤ r.length) (hr2 : r.length ≤ 1048576) : allB (frm r ++ t) = (r :: (allB t).1, 8 + r.length + (allB t).2.1, (allB t).2.2) := by
  obtain ⟨h1, h2, h3, h4⟩ := frm_first r t hr hr2
  rw [allB_whole h1, h2, h3, h4]

/-- Frames one behind the other. -/
def frs : List (List Nat) → List Nat
  | [] => []
  | r :: l => putB r ++ frs l
/-- Those that are no empty ones. -/
def full (l : List (List Nat)) : List (List Nat) := l.filter fun r => decide (0 < r.length)
def Small (l : List (List Nat)) : Prop := ∀ r ∈ l, r.length ≤ 1048576
theorem frs_app (l m : List (List Nat)) : frs (l ++ m) = frs l ++ frs m := by
  induction l with
  | nil => rfl
  | cons r l ih => rw [List.cons_append, frs, frs, ih, List.append_assoc]
theorem full_app (l m : List (List Nat)) : full (l ++ m) = full l ++ full m := List.filter_append ..
/-- Frames, and bytes behind: what is read is what they were, and what is read of the bytes. -/
theorem all_frs : ∀ (l : List (List Nat)) (t : List Nat), Small l → allB (frs l ++ t) = (full l ++ (allB t).1, (frs l).length + (allB t).2.1, (allB t).2.2)
  | [], t, _ => by simp [frs, full]
  | r :: l, t, h => by
    have ih := all_frs l t (fun x hx => h x (List.mem_cons_of_mem _ hx))
    have hr := h r (List.mem_cons_self ..)
    by_cases h0 : 1 ≤ r.length
    · have hp : putB r = frm r := by unfold putB; rw [if_pos ⟨h0, hr⟩]
      have hf : full (r :: l) = r :: full l := by
        unfold full
        rw [List.filter_cons, if_pos (by simp only [decide_eq_true_eq]; omega)]
      rw [frs, hp, List.append_assoc, allB_frm _ _ h0 hr, ih, hf, List.length_append, frm_len]
      simp only [List.cons_append, Nat.add_assoc]
    · have hp : putB r = [] := by unfold putB; rw [if_neg (by omega)]
      have hf : full (r :: l) = full l := by
        unfold full
        rw [List.filter_cons, if_neg (by simp only [decide_eq_true_eq]; omega)]
      rw [frs, hp, List.nil_append, ih, hf]
theorem frs_byts : ∀ {l : List (List Nat)}, (∀ r ∈ l, Byts r) → Byts (frs l)
  | [], _ => fun c hc => by cases hc
  | r :: l, h => by
    rw [frs]
    exact (putB_byts (h r (List.mem_cons_self ..))).app (frs_byts (fun x hx => h x (List.mem_cons_of_mem _ hx)))
/-- How many bytes some rows have together. -/
def tot (l : List (List Nat)) : Nat := (l.map List.length).sum
theorem tot_nil : tot [] = 0 := rfl
theorem tot_cons (r : List Nat) (l : List (List Nat)) : tot (r :: l) = r.length + tot l := by simp [tot]
theorem tot_mem : ∀ {l : List (List Nat)} {r : List Nat}, r ∈ l → r.length ≤ tot l
  | x :: l, r, h => by
    rw [tot_cons]
    rcases List.mem_cons.1 h with rfl | h
    · omega
    · have := tot_mem h; omega
theorem frs_len : ∀ l : List (List Nat), (frs l).length ≤ 8 * l.length + tot l
  | [] => Nat.zero_le _
  | r :: l => by
    have := frs_len l
    have := putB_len r
    rw [frs, List.length_append, tot_cons, List.length_cons]
    omega

end Go.Proofs.YtacfcfbleogioaaDoor
