/-
  The first bad byte of texts one behind the other; the tokens of a document of one tag with one attribute, by definition. Of no program. No condition.
-/
import Derived.Test.YtemohjodihcdfaaGreatDoorXPf
import Derived.KernelRfl
namespace Go.Proofs.YtemohjodihcdfaaGreatDoor
open Go.RowKit Go.Lib Go.Joins

def badL (l : List UInt8) : Int := badZ (fs l) l.length
theorem bad_ge (f : Nat → Nat) (N : Nat) : ∀ g p, badFrom f N g p = -1 ∨ 0 ≤ badFrom f N g p
  | 0, _ => .inl rfl
  | g + 1, p => by
    rw [badFrom]
    split
    · split
      · right; omega
      · exact bad_ge f N g _
    · exact .inl rfl
theorem bad_fuel (f : Nat → Nat) (N : Nat) : ∀ g g' p, N - p ≤ g → N - p ≤ g' → badFrom f N g p = badFrom f N g' p
  | 0, g', p, h, _ => by
    cases g' with
    | zero => rfl
    | succ g' => rw [badFrom, badFrom, if_neg (by omega)]
  | g + 1, g', p, h, h' => by
    cases g' with
    | zero => rw [badFrom, badFrom, if_neg (by omega)]
    | succ g' =>
      rw [badFrom, badFrom]
      split
      · split
        · rfl
        · exact bad_fuel f N g g' _ (by omega) (by omega)
      · rfl
theorem decodeN_fits (n b0 b1 b2 b3 : Nat) (hn : 1 ≤ n) : (decodeN n b0 b1 b2 b3).2 ≤ n := by
  unfold decodeN
  repeat' split
  all_goals first | omega | (dsimp only; omega)
theorem nx_fits2 {f : Nat → Nat} {N p : Nat} (hp : p < N) : p + (nx f N p).2 ≤ N := by
  have h := decodeN_fits (N - p) (f p) (f (p + 1)) (f (p + 2)) (f (p + 3)) (by omega)
  unfold nx
  dsimp only
  split
  · omega
  · dsimp only; omega
theorem nx_shift (a l : List UInt8) (k : Nat) : nx (fs (a ++ l)) (a ++ l).length (a.length + k) = nx (fs l) l.length k := by
  have hf : ∀ j, fs (a ++ l) (a.length + j) = fs l j := fun j => by rw [Nat.add_comm]; exact fs_right a l j
  unfold nx
  rw [show (a ++ l).length - (a.length + k) = l.length - k by rw [List.length_append]; omega, hf k, show a.length + k + 1 = a.length + (k + 1) by omega, show a.length + k + 2 = a.length + (k + 2) by omega, show a.length + k + 3 = a.length + (k + 3) by omega, hf, hf, hf]
theorem bad_shift (a l : List UInt8) : ∀ g k, badFrom (fs (a ++ l)) (a ++ l).length g (a.length + k) = if 0 ≤ badFrom (fs l) l.length g k then (a.length : Int) + badFrom (fs l) l.length g k else -1
  | 0, k => rfl
  | g + 1, k => by
    rw [badFrom, badFrom, nx_shift]
    by_cases hk : k < l.length
    · rw [if_pos (by rw [List.length_append]; omega), if_pos hk]
      by_cases hw : (nx (fs l) l.length k).2 = 0
      · rw [if_pos hw, if_pos hw, if_pos (by omega)]
        omega
      · rw [if_neg hw, if_neg hw, Nat.add_assoc, bad_shift a l g]
    · rw [if_neg (by rw [List.length_append]; omega), if_neg hk, if_neg (by omega)]
theorem decodeN_tail (n n' b0 b1 b2 b3 c1 c2 c3 : Nat) (hn : 1 ≤ n) (hn' : n ≤ n') (h1 : 1 < n → c1 = b1) (h2 : 2 < n → c2 = b2) (h3 : 3 < n → c3 = b3) (t1 : n = 1 → n < n' → c1 < 128) (t2 : n = 2 → n < n' → c2 < 128) (t3 : n = 3 → n < n' → c3 < 128) : decodeN n' b0 c1 c2 c3 = decodeN n b0 b1 b2 b3 := by
  have e1 : (1 < n' ∧ c1 / 64 = 2) = (1 < n ∧ b1 / 64 = 2) := propext (by
    by_cases h : 1 < n
    · rw [h1 h]; constructor <;> (intro h'; exact ⟨by omega, h'.2⟩)
    · constructor
      · intro h'; have := t1 (by omega) (by omega); omega
      · intro h'; omega)
  by_cases hc1 : 1 < n ∧ b1 / 64 = 2
  · have e1b := h1 hc1.1
    have e2 : (2 < n' ∧ c2 / 64 = 2) = (2 < n ∧ b2 / 64 = 2) := propext (by
      by_cases h : 2 < n
      · rw [h2 h]; constructor <;> (intro h'; exact ⟨by omega, h'.2⟩)
      · constructor
        · intro h'; have := t2 (by omega) (by omega); omega
        · intro h'; omega)
    by_cases hc2 : 2 < n ∧ b2 / 64 = 2
    · have e2b := h2 hc2.1
      have e3 : (3 < n' ∧ c3 / 64 = 2) = (3 < n ∧ b3 / 64 = 2) := propext (by
        by_cases h : 3 < n
        · rw [h3 h]; constructor <;> (intro h'; exact ⟨by omega, h'.2⟩)
        · constructor
          · intro h'; have := t3 (by omega) (by omega); omega
          · intro h'; omega)
      unfold decodeN
      simp only [e1, e2, e3]
      by_cases hc3 : 3 < n ∧ b3 / 64 = 2
      · rw [e1b, e2b, h3 hc3.1]
      · simp only [hc3, and_false, if_false, e1b, e2b]
    · rw [e1b] at e1
      unfold decodeN
      simp only [e1b, e1, e2, hc2, and_false, false_and, if_false]
  · unfold decodeN
    simp only [e1, hc1, and_false, false_and, if_false]
theorem nx_tail (s t : List UInt8) (ht : ∀ x u, t = x :: u → x.toNat < 128) (k : Nat) (hk : k < s.length) : nx (fs (s ++ t)) (s ++ t).length k = nx (fs s) s.length k := by
  have hf : ∀ j, j < s.length → fs (s ++ t) j = fs s j := fun j hj => fs_left s t j hj
  have hz : t.length ≠ 0 → fs (s ++ t) s.length < 128 := fun h => by
    cases t with
    | nil => exact absurd rfl h
    | cons x u =>
      have h1 := fs_right s (x :: u) 0
      rw [Nat.zero_add] at h1
      rw [h1]
      exact ht x u rfl
  have hlen : (s ++ t).length = s.length + t.length := List.length_append
  unfold nx
  rw [hf k hk]
  rw [decodeN_tail (s.length - k) ((s ++ t).length - k) (fs s k) (fs s (k + 1)) (fs s (k + 2)) (fs s (k + 3)) (fs (s ++ t) (k + 1)) (fs (s ++ t) (k + 2)) (fs (s ++ t) (k + 3)) (by omega) (by omega)
    (fun h => hf _ (by omega)) (fun h => hf _ (by omega)) (fun h => hf _ (by omega))
    (fun h h' => by rw [show k + 1 = s.length by omega]; exact hz (by omega)) (fun h h' => by rw [show k + 2 = s.length by omega]; exact hz (by omega)) (fun h h' => by rw [show k + 3 = s.length by omega]; exact hz (by omega))]
theorem bad_tail (s t : List UInt8) (ht : ∀ x u, t = x :: u → x.toNat < 128) : ∀ m k g h, s.length - k = m → k ≤ s.length → s.length - k ≤ g → (s ++ t).length - k ≤ h →
    badFrom (fs (s ++ t)) (s ++ t).length h k = if 0 ≤ badFrom (fs s) s.length g k then badFrom (fs s) s.length g k else if 0 ≤ badL t then (s.length : Int) + badL t else -1 := by
  intro m
  induction m using Nat.strongRecOn with
  | _ m ih =>
    intro k g h hm hk hg hh
    have hlen : (s ++ t).length = s.length + t.length := List.length_append
    by_cases hks : k < s.length
    · obtain ⟨g, rfl⟩ : ∃ z, g = z + 1 := ⟨g - 1, by omega⟩
      obtain ⟨h, rfl⟩ : ∃ z, h = z + 1 := ⟨h - 1, by omega⟩
      rw [badFrom, badFrom, nx_tail s t ht k hks, if_pos (by omega), if_pos hks]
      by_cases hw : (nx (fs s) s.length k).2 = 0
      · rw [if_pos hw, if_pos hw, if_pos (by omega)]
      · rw [if_neg hw, if_neg hw]
        have hfit := nx_fits2 (f := fs s) hks
        exact ih (s.length - (k + (nx (fs s) s.length k).2)) (by omega) _ g h rfl hfit (by omega) (by omega)
    · have hke : k = s.length + 0 := by omega
      have h0 : badFrom (fs s) s.length g k = -1 := by
        cases g with
        | zero => rfl
        | succ g => rw [badFrom, if_neg hks]
      rw [h0, if_neg (by omega), hke, bad_shift s t h 0]
      unfold badL badZ
      rw [bad_fuel (fs t) t.length h t.length 0 (by omega) (by omega)]
theorem bad_append (s t : List UInt8) (ht : ∀ x u, t = x :: u → x.toNat < 128) : badL (s ++ t) = if 0 ≤ badL s then badL s else if 0 ≤ badL t then (s.length : Int) + badL t else -1 :=
  bad_tail s t ht _ 0 s.length (s ++ t).length rfl (Nat.zero_le _) (by omega) (by omega)
theorem nx_ascii (x : UInt8) (t : List UInt8) (hx : x.toNat < 128) (hc : inTab charsT (x.toNat : Int) = true) : nx (fs (x :: t)) (x :: t).length 0 = (x.toNat, 1) := by
  have hd : decodeN ((x :: t).length - 0) (fs (x :: t) 0) (fs (x :: t) (0 + 1)) (fs (x :: t) (0 + 2)) (fs (x :: t) (0 + 3)) = (x.toNat, 1) := by
    unfold decodeN
    rw [show fs (x :: t) 0 = x.toNat from rfl, if_pos hx]
  unfold nx
  rw [hd]
  dsimp only
  rw [if_pos ⟨hc, by omega⟩]
theorem bad_cons (x : UInt8) (t : List UInt8) (hx : x.toNat < 128) (hc : inTab charsT (x.toNat : Int) = true) : badL (x :: t) = if 0 ≤ badL t then 1 + badL t else -1 := by
  unfold badL badZ
  rw [List.length_cons, badFrom, if_pos (Nat.succ_pos _)]
  have h := nx_ascii x t hx hc
  rw [List.length_cons] at h
  rw [h]
  dsimp only
  rw [if_neg (by decide)]
  have h2 := bad_shift [x] t t.length 0
  exact h2

end Go.Proofs.YtemohjodihcdfaaGreatDoor
namespace Go.Proofs.YtemohjodihcdfaaGreatDoor
open Go.RowKit Go.Lib Go.Joins

/-- A document of one empty tag with one attribute. -/
def vdoc (q : UInt8) (s : List UInt8) : List UInt8 := 60 :: 97 :: 32 :: 120 :: 61 :: q :: (s ++ [q, 47, 62])
theorem vdoc_len (q : UInt8) (s : List UInt8) : (vdoc q s).length = s.length + 9 := by
  simp only [vdoc, List.length_cons, List.length_append, List.length_nil]
theorem tab97 : inTab charsT (((97 : UInt8).toNat : Nat) : Int) = true := by kernel_rfl
theorem tab60 : inTab charsT (((60 : UInt8).toNat : Nat) : Int) = true := by kernel_rfl
theorem tab32 : inTab charsT (((32 : UInt8).toNat : Nat) : Int) = true := by kernel_rfl
theorem tab120 : inTab charsT (((120 : UInt8).toNat : Nat) : Int) = true := by kernel_rfl
theorem tab61 : inTab charsT (((61 : UInt8).toNat : Nat) : Int) = true := by kernel_rfl
theorem tab34 : inTab charsT (((34 : UInt8).toNat : Nat) : Int) = true := by kernel_rfl
theorem tab39 : inTab charsT (((39 : UInt8).toNat : Nat) : Int) = true := by kernel_rfl
theorem bad34 : badL [34, 47, 62] = -1 := by kernel_rfl
theorem bad39 : badL [39, 47, 62] = -1 := by kernel_rfl
theorem vdoc_bad (q : UInt8) (hq : q = 34 ∨ q = 39) (s : List UInt8) : badL (vdoc q s) = if 0 ≤ badL s then 6 + badL s else -1 := by
  have h0 : badL (s ++ [q, 47, 62]) = if 0 ≤ badL s then badL s else -1 := by
    rw [bad_append s [q, 47, 62] (fun x u h => by injection h with h _; rw [← h]; rcases hq with rfl | rfl <;> decide)]
    have : badL [q, 47, 62] = -1 := by rcases hq with rfl | rfl; exact bad34; exact bad39
    rw [this]
    split
    · rfl
    · rfl
  have hqa : q.toNat < 128 ∧ inTab charsT (q.toNat : Int) = true := by
    rcases hq with rfl | rfl
    · exact ⟨by decide, tab34⟩
    · exact ⟨by decide, tab39⟩
  unfold vdoc
  rw [bad_cons 60 _ (by decide) tab60, bad_cons 97 _ (by decide) tab97, bad_cons 32 _ (by decide) tab32, bad_cons 120 _ (by decide) tab120, bad_cons 61 _ (by decide) tab61, bad_cons q _ hqa.1 hqa.2, h0]
  by_cases h : 0 ≤ badL s
  · rw [if_pos h, if_pos h, if_pos h, if_pos (by omega), if_pos (by omega), if_pos (by omega), if_pos (by omega), if_pos (by omega)]
    omega
  · rw [if_neg h, if_neg h]
    rfl
theorem vals_bad (q : UInt8) (hq : q = 34 ∨ q = 39) (s : List UInt8) (hs : s.length ≤ 2000) (hb : 0 ≤ badL s) : allS (vdoc q s) = .no 1 (6 + badL s).toNat := by
  have h := vdoc_bad q hq s
  rw [if_pos hb] at h
  have h2 : badZ (fs (vdoc q s)) (vdoc q s).length = 6 + badL s := h
  unfold allS
  rw [if_neg (by rw [vdoc_len]; omega), h2, if_pos (by omega)]

theorem name_one (c d : UInt8) (rest : List UInt8) (i : Nat) (hc : c.toNat < 128) (hct : inTab charsT (c.toNat : Int) = true) (hcb : fitsB true c.toNat = true) (hd : d.toNat < 128) (hdt : inTab charsT (d.toNat : Int) = true) (hdb : fitsB false d.toNat = false) : nameS i (c :: d :: rest) = .ok [c] (i + 1) (d :: rest) := by
  unfold nameS
  rw [show (c :: d :: rest).length = rest.length + 1 + 1 from rfl, nmG, if_neg (List.cons_ne_nil _ _)]
  have h1 := nx_ascii c (d :: rest) hc hct
  rw [h1, if_pos hcb]
  dsimp only
  rw [show (c :: d :: rest).drop 1 = d :: rest from rfl, nmG, if_neg (List.cons_ne_nil _ _), nx_ascii d rest hd hdt, if_neg (by rw [hdb]; decide), Sx.then_ok, if_neg (by omega), show i + 1 - i = 1 by omega]
  rfl
theorem blanks_none (i : Nat) (x : UInt8) (t : List UInt8) (h : blankB (x.toNat : Int) = false) : blanksS i (x :: t) = .ok false i (x :: t) := by
  unfold blanksS
  rw [blkS, if_neg (by rw [h]; decide), Sx.then_ok, decide_eq_false (Nat.lt_irrefl i)]
theorem blanks_one (i : Nat) (x : UInt8) (t : List UInt8) (h : blankB (x.toNat : Int) = false) : blanksS i (32 :: x :: t) = .ok true (i + 1) (x :: t) := by
  unfold blanksS
  rw [blkS, if_pos (by decide), blkS, if_neg (by rw [h]; decide), Sx.then_ok, decide_eq_true (Nat.lt_succ_self i)]
theorem run_app (q : Option UInt8) (y : UInt8) (t : List UInt8) (hy : endS q y = true) : ∀ s : List UInt8, (∀ x, x ∈ s → endS q x = false) → runS q (s ++ y :: t) = s ∧ restS q (s ++ y :: t) = y :: t
  | [], _ => by
    unfold runS restS
    rw [List.nil_append, List.takeWhile_cons, List.dropWhile_cons]
    simp [hy]
  | x :: s, h => by
    have ih := run_app q y t hy s (fun z hz => h z (List.mem_cons_of_mem _ hz))
    have hx := h x (List.mem_cons_self ..)
    unfold runS restS at ih ⊢
    rw [List.cons_append, List.takeWhile_cons, List.dropWhile_cons]
    simp only [hx, Bool.not_false, if_true]
    exact ⟨by rw [ih.1], ih.2⟩
theorem value_plain (q : UInt8) (hq : q = 34 ∨ q = 39) (s : List UInt8) (h : ∀ x, x ∈ s → x ≠ 34 ∧ x ≠ 39 ∧ x ≠ 60 ∧ x ≠ 38) (i : Nat) (t : List UInt8) : valueS i (q :: (s ++ q :: t)) = .ok (flatS s) (i + 1 + s.length + 1) t := by
  unfold valueS
  rw [peekS, Sx.then_ok, if_neg (by rcases hq with rfl | rfl <;> decide), show (q :: (s ++ q :: t)).drop 1 = s ++ q :: t from rfl]
  unfold mixS
  have hr := run_app (some q) q t (by simp [endS]) s (fun x hx => by
    have := h x hx
    unfold endS
    have h1 : (x == 60) = false := beq_eq_false_iff_ne.2 this.2.2.1
    have h2 : (x == 38) = false := beq_eq_false_iff_ne.2 this.2.2.2
    have h3 : (x == q) = false := beq_eq_false_iff_ne.2 (by rcases hq with rfl | rfl; exact this.1; exact this.2.1)
    simp [h1, h2, h3])
  rw [mixG, hr.1, hr.2]
  dsimp only [turnS]
  rw [if_neg (by
    intro h2
    have h3 : ((38 : UInt8) == q && true) = true := h2
    rw [Bool.and_true, beq_iff_eq] at h3
    rcases hq with h4 | h4 <;> (rw [h4] at h3; exact absurd h3 (by decide))), Sx.then_ok, mustS, if_pos rfl, Sx.then_ok]
theorem attr_plain (q : UInt8) (hq : q = 34 ∨ q = 39) (s : List UInt8) (h : ∀ x, x ∈ s → x ≠ 34 ∧ x ≠ 39 ∧ x ≠ 60 ∧ x ≠ 38) (i : Nat) (t : List UInt8) : attrS [] i (120 :: 61 :: q :: (s ++ q :: t)) = .ok ([120], flatS s) (i + 1 + 1 + 1 + s.length + 1) t := by
  unfold attrS
  rw [name_one 120 61 _ i (by decide) tab120 (by kernel_rfl) (by decide) tab61 (by kernel_rfl), Sx.then_ok, if_neg (List.not_mem_nil), blanks_none (i + 1) 61 _ (by decide), Sx.then_ok, mustS, if_pos rfl, Sx.then_ok, blanks_none (i + 1 + 1) q _ (by rcases hq with rfl | rfl <;> decide), Sx.then_ok, value_plain q hq s h (i + 1 + 1) t, Sx.then_ok]
theorem tag_plain (q : UInt8) (hq : q = 34 ∨ q = 39) (s : List UInt8) (h : ∀ x, x ∈ s → x ≠ 34 ∧ x ≠ 39 ∧ x ≠ 60 ∧ x ≠ 38) (g i : Nat) : tagG (g + 1 + 1) [] i (32 :: 120 :: 61 :: q :: (s ++ [q, 47, 62])) = .ok (2, [([120], flatS s)]) (i + 1 + 1 + 1 + 1 + s.length + 1 + 1 + 1) [] := by
  rw [tagG, blanks_one i 120 _ (by decide), Sx.then_ok, peekS, Sx.then_ok, if_neg (by decide), if_neg (by decide), if_neg (by decide)]
  have ha := attr_plain q hq s h (i + 1) [47, 62]
  rw [show List.map Prod.fst ([] : List (List UInt8 × List UInt8)) = [] from rfl, ha, Sx.then_ok, tagG, blanks_none _ 47 _ (by decide), Sx.then_ok, peekS, Sx.then_ok, if_pos rfl, show ([47, 62] : List UInt8).drop 1 = [62] from rfl, mustS, if_pos rfl, Sx.then_ok]
  rfl
theorem opens_miss (m : List UInt8) (i : Nat) (r : List UInt8) (h1 : m.length ≤ r.length) (h2 : m.isPrefixOf r = false) : opensS m i r = .ok false i r := by
  unfold opensS
  rw [if_neg (by omega), if_neg (by rw [h2]; decide)]
theorem tok_plain (q : UInt8) (hq : q = 34 ∨ q = 39) (s : List UInt8) (h : ∀ x, x ∈ s → x ≠ 34 ∧ x ≠ 39 ∧ x ≠ 60 ∧ x ≠ 38) : tokS 0 (vdoc q s) = .ok ⟨2, 0, [97], [], [([120], flatS s)]⟩ (0 + 1 + 1 + 1 + 1 + 1 + 1 + s.length + 1 + 1 + 1) [] := by
  have hl := vdoc_len q s
  unfold tokS lenS
  rw [if_neg (by
    intro h2
    have : [60].isPrefixOf (vdoc q s) = true := rfl
    rw [this] at h2
    cases h2)]
  rw [opens_miss [60, 33, 45, 45] 0 _ (by rw [hl]; show 4 ≤ _; omega) rfl, Sx.then_ok, if_neg (by decide)]
  rw [opens_miss [60, 33, 91, 67, 68, 65, 84, 65, 91] 0 _ (by rw [hl]; show 9 ≤ _; omega) rfl, Sx.then_ok, if_neg (by decide)]
  rw [opens_miss [60, 33] 0 _ (by rw [hl]; show 2 ≤ _; omega) rfl, Sx.then_ok, if_neg (by decide)]
  rw [opens_miss [60, 63] 0 _ (by rw [hl]; show 2 ≤ _; omega) rfl, Sx.then_ok, if_neg (by decide)]
  rw [opens_miss [60, 47] 0 _ (by rw [hl]; show 2 ≤ _; omega) rfl, Sx.then_ok, if_neg (by decide)]
  have ho : opensS [60] 0 (vdoc q s) = .ok true 1 (97 :: 32 :: 120 :: 61 :: q :: (s ++ [q, 47, 62])) := by
    unfold opensS
    rw [if_neg (by rw [hl]; show ¬ (_ < 1 ∧ _); omega), if_pos (show [60].isPrefixOf (vdoc q s) = true from rfl)]
    rfl
  rw [ho, Sx.then_ok, if_pos rfl]
  dsimp only
  unfold startS
  rw [name_one 97 32 _ 1 (by decide) tab97 (by kernel_rfl) (by decide) tab32 (by kernel_rfl), Sx.then_ok]
  have hg : ∃ g, (32 :: 120 :: 61 :: q :: (s ++ [q, 47, 62])).length + 1 = g + 1 + 1 := ⟨(120 :: 61 :: q :: (s ++ [q, 47, 62])).length, rfl⟩
  obtain ⟨g, hg⟩ := hg
  rw [hg, tag_plain q hq s h g (1 + 1), Sx.then_ok, Sx.then_ok]
theorem vals_good (q : UInt8) (hq : q = 34 ∨ q = 39) (s : List UInt8) (hs : s.length ≤ 2000) (hb : ¬ 0 ≤ badL s) (h : ∀ x, x ∈ s → x ≠ 34 ∧ x ≠ 39 ∧ x ≠ 60 ∧ x ≠ 38) : ∃ j, allS (vdoc q s) = .ok [⟨2, 0, [97], [], [([120], flatS s)]⟩] j [] := by
  have h1 := vdoc_bad q hq s
  rw [if_neg hb] at h1
  have h2 : badZ (fs (vdoc q s)) (vdoc q s).length = -1 := h1
  refine ⟨0 + 1 + 1 + 1 + 1 + 1 + 1 + s.length + 1 + 1 + 1, ?_⟩
  unfold allS
  rw [if_neg (by rw [vdoc_len]; omega), h2, if_neg (by decide)]
  have hd : declS (vdoc q s) = .ok () 0 (vdoc q s) := by
    unfold declS
    exact if_neg (fun h3 => by
      have : [60, 63, 120, 109, 108].isPrefixOf (vdoc q s) = false := rfl
      rw [this] at h3
      cases h3.1)
  rw [hd, Sx.then_ok, toksG, if_neg (show vdoc q s ≠ [] from List.cons_ne_nil _ _), tok_plain q hq s h, Sx.then_ok]
  have hn : ∀ g j, toksG g j [] = .ok [] j [] := fun g j => by
    cases g with
    | zero => rfl
    | succ g => rw [toksG, if_pos rfl]
  rw [hn, Sx.then_ok]
theorem eols_mem {x : UInt8} (hx : x ≠ 13) : ∀ {s : List UInt8}, x ∈ s → x ∈ eols s
  | [], h => by cases h
  | b :: t, h => by
    rw [eols_cons]
    by_cases hb : b = 13
    · rw [if_pos hb]
      have hxt : x ∈ t := by
        rcases List.mem_cons.1 h with h1 | h1
        · exact absurd (h1.trans hb) hx
        · exact h1
      split
      · exact eols_mem hx hxt
      · exact List.mem_cons_of_mem _ (eols_mem hx hxt)
    · rw [if_neg hb]
      rcases List.mem_cons.1 h with h1 | h1
      · rw [h1]; exact List.mem_cons_self ..
      · exact List.mem_cons_of_mem _ (eols_mem hx h1)

end Go.Proofs.YtemohjodihcdfaaGreatDoor
