/-
  The first bad byte of texts one behind the other; the tokens of a document of one tag with one attribute, by definition. Of no program. No condition. Bytes that are those of runes that XML has, one behind the other: up to an ASCII byte and behind it they are such, with ends of lines turned they are; names by their runes. Of no program. No condition.
-/
import Derived.Test.YtfonflbpkbibbaaGreatDoorXPf
import Derived.KernelRfl
namespace Go.Proofs.YtfonflbpkbibbaaGreatDoor
open Go.RowKit Go.Lib Go.Joins

def badL (l : List UInt8) : Int := badZ (fs l) l.length
theorem bad_ge (f : Nat → Nat) (N : Nat) : ∀ g p, badFrom f N g p = -1 ∨ 0 ≤ badFrom f N g p
  | 0, _ => .inl rfl
  | g + 1, p => by
    rw [badFrom]
    split
    · split
      · right; omega
      · exact bad_ge f N g _
    · exact .inl rfl
theorem bad_fuel (f : Nat → Nat) (N : Nat) : ∀ g g' p, N - p ≤ g → N - p ≤ g' → badFrom f N g p = badFrom f N g' p
  | 0, g', p, h, _ => by
    cases g' with
    | zero => rfl
    | succ g' => rw [badFrom, badFrom, if_neg (by omega)]
  | g + 1, g', p, h, h' => by
    cases g' with
    | zero => rw [badFrom, badFrom, if_neg (by omega)]
    | succ g' =>
      rw [badFrom, badFrom]
      split
      · split
        · rfl
        · exact bad_fuel f N g g' _ (by omega) (by omega)
      · rfl
theorem decodeN_fits (n b0 b1 b2 b3 : Nat) (hn : 1 ≤ n) : (decodeN n b0 b1 b2 b3).2 ≤ n := by
  unfold decodeN
  repeat' split
  all_goals first | omega | (dsimp only; omega)
theorem nx_fits2 {f : Nat → Nat} {N p : Nat} (hp : p < N) : p + (nx f N p).2 ≤ N := by
  have h := decodeN_fits (N - p) (f p) (f (p + 1)) (f (p + 2)) (f (p + 3)) (by omega)
  unfold nx
  dsimp only
  split
  · omega
  · dsimp only; omega
theorem nx_shift (a l : List UInt8) (k : Nat) : nx (fs (a ++ l)) (a ++ l).length (a.length + k) = nx (fs l) l.length k := by
  have hf : ∀ j, fs (a ++ l) (a.length + j) = fs l j := fun j => by rw [Nat.add_comm]; exact fs_right a l j
  unfold nx
  rw [show (a ++ l).length - (a.length + k) = l.length - k by rw [List.length_append]; omega, hf k, show a.length + k + 1 = a.length + (k + 1) by omega, show a.length + k + 2 = a.length + (k + 2) by omega, show a.length + k + 3 = a.length + (k + 3) by omega, hf, hf, hf]
theorem bad_shift (a l : List UInt8) : ∀ g k, badFrom (fs (a ++ l)) (a ++ l).length g (a.length + k) = if 0 ≤ badFrom (fs l) l.length g k then (a.length : Int) + badFrom (fs l) l.length g k else -1
  | 0, k => rfl
  | g + 1, k => by
    rw [badFrom, badFrom, nx_shift]
    by_cases hk : k < l.length
    · rw [if_pos (by rw [List.length_append]; omega), if_pos hk]
      by_cases hw : (nx (fs l) l.length k).2 = 0
      · rw [if_pos hw, if_pos hw, if_pos (by omega)]
        omega
      · rw [if_neg hw, if_neg hw, Nat.add_assoc, bad_shift a l g]
    · rw [if_neg (by rw [List.length_append]; omega), if_neg hk, if_neg (by omega)]
theorem decodeN_tail (n n' b0 b1 b2 b3 c1 c2 c3 : Nat) (hn : 1 ≤ n) (hn' : n ≤ n') (h1 : 1 < n → c1 = b1) (h2 : 2 < n → c2 = b2) (h3 : 3 < n → c3 = b3) (t1 : n = 1 → n < n' → c1 < 128) (t2 : n = 2 → n < n' → c2 < 128) (t3 : n = 3 → n < n' → c3 < 128) : decodeN n' b0 c1 c2 c3 = decodeN n b0 b1 b2 b3 := by
  have e1 : (1 < n' ∧ c1 / 64 = 2) = (1 < n ∧ b1 / 64 = 2) := propext (by
    by_cases h : 1 < n
    · rw [h1 h]; constructor <;> (intro h'; exact ⟨by omega, h'.2⟩)
    · constructor
      · intro h'; have := t1 (by omega) (by omega); omega
      · intro h'; omega)
  by_cases hc1 : 1 < n ∧ b1 / 64 = 2
  · have e1b := h1 hc1.1
    have e2 : (2 < n' ∧ c2 / 64 = 2) = (2 < n ∧ b2 / 64 = 2) := propext (by
      by_cases h : 2 < n
      · rw [h2 h]; constructor <;> (intro h'; exact ⟨by omega, h'.2⟩)
      · constructor
        · intro h'; have := t2 (by omega) (by omega); omega
        · intro h'; omega)
    by_cases hc2 : 2 < n ∧ b2 / 64 = 2
    · have e2b := h2 hc2.1
      have e3 : (3 < n' ∧ c3 / 64 = 2) = (3 < n ∧ b3 / 64 = 2) := propext (by
        by_cases h : 3 < n
        · rw [h3 h]; constructor <;> (intro h'; exact ⟨by omega, h'.2⟩)
        · constructor
          · intro h'; have := t3 (by omega) (by omega); omega
          · intro h'; omega)
      unfold decodeN
      simp only [e1, e2, e3]
      by_cases hc3 : 3 < n ∧ b3 / 64 = 2
      · rw [e1b, e2b, h3 hc3.1]
      · simp only [hc3, and_false, if_false, e1b, e2b]
    · rw [e1b] at e1
      unfold decodeN
      simp only [e1b, e1, e2, hc2, and_false, false_and, if_false]
  · unfold decodeN
    simp only [e1, hc1, and_false, false_and, if_false]
theorem nx_tail (s t : List UInt8) (ht : ∀ x u, t = x :: u → x.toNat < 128) (k : Nat) (hk : k < s.length) : nx (fs (s ++ t)) (s ++ t).length k = nx (fs s) s.length k := by
  have hf : ∀ j, j < s.length → fs (s ++ t) j = fs s j := fun j hj => fs_left s t j hj
  have hz : t.length ≠ 0 → fs (s ++ t) s.length < 128 := fun h => by
    cases t with
    | nil => exact absurd rfl h
    | cons x u =>
      have h1 := fs_right s (x :: u) 0
      rw [Nat.zero_add] at h1
      rw [h1]
      exact ht x u rfl
  have hlen : (s ++ t).length = s.length + t.length := List.length_append
  unfold nx
  rw [hf k hk]
  rw [decodeN_tail (s.length - k) ((s ++ t).length - k) (fs s k) (fs s (k + 1)) (fs s (k + 2)) (fs s (k + 3)) (fs (s ++ t) (k + 1)) (fs (s ++ t) (k + 2)) (fs (s ++ t) (k + 3)) (by omega) (by omega)
    (fun h => hf _ (by omega)) (fun h => hf _ (by omega)) (fun h => hf _ (by omega))
    (fun h h' => by rw [show k + 1 = s.length by omega]; exact hz (by omega)) (fun h h' => by rw [show k + 2 = s.length by omega]; exact hz (by omega)) (fun h h' => by rw [show k + 3 = s.length by omega]; exact hz (by omega))]
theorem bad_tail (s t : List UInt8) (ht : ∀ x u, t = x :: u → x.toNat < 128) : ∀ m k g h, s.length - k = m → k ≤ s.length → s.length - k ≤ g → (s ++ t).length - k ≤ h →
    badFrom (fs (s ++ t)) (s ++ t).length h k = if 0 ≤ badFrom (fs s) s.length g k then badFrom (fs s) s.length g k else if 0 ≤ badL t then (s.length : Int) + badL t else -1 := by
  intro m
  induction m using Nat.strongRecOn with
  | _ m ih =>
    intro k g h hm hk hg hh
    have hlen : (s ++ t).length = s.length + t.length := List.length_append
    by_cases hks : k < s.length
    · obtain ⟨g, rfl⟩ : ∃ z, g = z + 1 := ⟨g - 1, by omega⟩
      obtain ⟨h, rfl⟩ : ∃ z, h = z + 1 := ⟨h - 1, by omega⟩
      rw [badFrom, badFrom, nx_tail s t ht k hks, if_pos (by omega), if_pos hks]
      by_cases hw : (nx (fs s) s.length k).2 = 0
      · rw [if_pos hw, if_pos hw, if_pos (by omega)]
      · rw [if_neg hw, if_neg hw]
        have hfit := nx_fits2 (f := fs s) hks
        exact ih (s.length - (k + (nx (fs s) s.length k).2)) (by omega) _ g h rfl hfit (by omega) (by omega)
    · have hke : k = s.length + 0 := by omega
      have h0 : badFrom (fs s) s.length g k = -1 := by
        cases g with
        | zero => rfl
        | succ g => rw [badFrom, if_neg hks]
      rw [h0, if_neg (by omega), hke, bad_shift s t h 0]
      unfold badL badZ
      rw [bad_fuel (fs t) t.length h t.length 0 (by omega) (by omega)]
theorem bad_append (s t : List UInt8) (ht : ∀ x u, t = x :: u → x.toNat < 128) : badL (s ++ t) = if 0 ≤ badL s then badL s else if 0 ≤ badL t then (s.length : Int) + badL t else -1 :=
  bad_tail s t ht _ 0 s.length (s ++ t).length rfl (Nat.zero_le _) (by omega) (by omega)
theorem nx_ascii (x : UInt8) (t : List UInt8) (hx : x.toNat < 128) (hc : inTab charsT (x.toNat : Int) = true) : nx (fs (x :: t)) (x :: t).length 0 = (x.toNat, 1) := by
  have hd : decodeN ((x :: t).length - 0) (fs (x :: t) 0) (fs (x :: t) (0 + 1)) (fs (x :: t) (0 + 2)) (fs (x :: t) (0 + 3)) = (x.toNat, 1) := by
    unfold decodeN
    rw [show fs (x :: t) 0 = x.toNat from rfl, if_pos hx]
  unfold nx
  rw [hd]
  dsimp only
  rw [if_pos ⟨hc, by omega⟩]
theorem bad_cons (x : UInt8) (t : List UInt8) (hx : x.toNat < 128) (hc : inTab charsT (x.toNat : Int) = true) : badL (x :: t) = if 0 ≤ badL t then 1 + badL t else -1 := by
  unfold badL badZ
  rw [List.length_cons, badFrom, if_pos (Nat.succ_pos _)]
  have h := nx_ascii x t hx hc
  rw [List.length_cons] at h
  rw [h]
  dsimp only
  rw [if_neg (by decide)]
  have h2 := bad_shift [x] t t.length 0
  exact h2

end Go.Proofs.YtfonflbpkbibbaaGreatDoor
namespace Go.Proofs.YtfonflbpkbibbaaGreatDoor
open Go.RowKit Go.Lib Go.Joins

/-- A document of one empty tag with one attribute. -/
def vdoc (q : UInt8) (s : List UInt8) : List UInt8 := 60 :: 97 :: 32 :: 120 :: 61 :: q :: (s ++ [q, 47, 62])
theorem vdoc_len (q : UInt8) (s : List UInt8) : (vdoc q s).length = s.length + 9 := by
  simp only [vdoc, List.length_cons, List.length_append, List.length_nil]
theorem tab97 : inTab charsT (((97 : UInt8).toNat : Nat) : Int) = true := by kernel_rfl
theorem tab60 : inTab charsT (((60 : UInt8).toNat : Nat) : Int) = true := by kernel_rfl
theorem tab32 : inTab charsT (((32 : UInt8).toNat : Nat) : Int) = true := by kernel_rfl
theorem tab120 : inTab charsT (((120 : UInt8).toNat : Nat) : Int) = true := by kernel_rfl
theorem tab61 : inTab charsT (((61 : UInt8).toNat : Nat) : Int) = true := by kernel_rfl
theorem tab34 : inTab charsT (((34 : UInt8).toNat : Nat) : Int) = true := by kernel_rfl
theorem tab39 : inTab charsT (((39 : UInt8).toNat : Nat) : Int) = true := by kernel_rfl
theorem bad34 : badL [34, 47, 62] = -1 := by kernel_rfl
theorem bad39 : badL [39, 47, 62] = -1 := by kernel_rfl
theorem vdoc_bad (q : UInt8) (hq : q = 34 ∨ q = 39) (s : List UInt8) : badL (vdoc q s) = if 0 ≤ badL s then 6 + badL s else -1 := by
  have h0 : badL (s ++ [q, 47, 62]) = if 0 ≤ badL s then badL s else -1 := by
    rw [bad_append s [q, 47, 62] (fun x u h => by injection h with h _; rw [← h]; rcases hq with rfl | rfl <;> decide)]
    have : badL [q, 47, 62] = -1 := by rcases hq with rfl | rfl; exact bad34; exact bad39
    rw [this]
    split
    · rfl
    · rfl
  have hqa : q.toNat < 128 ∧ inTab charsT (q.toNat : Int) = true := by
    rcases hq with rfl | rfl
    · exact ⟨by decide, tab34⟩
    · exact ⟨by decide, tab39⟩
  unfold vdoc
  rw [bad_cons 60 _ (by decide) tab60, bad_cons 97 _ (by decide) tab97, bad_cons 32 _ (by decide) tab32, bad_cons 120 _ (by decide) tab120, bad_cons 61 _ (by decide) tab61, bad_cons q _ hqa.1 hqa.2, h0]
  by_cases h : 0 ≤ badL s
  · rw [if_pos h, if_pos h, if_pos h, if_pos (by omega), if_pos (by omega), if_pos (by omega), if_pos (by omega), if_pos (by omega)]
    omega
  · rw [if_neg h, if_neg h]
    rfl
theorem vals_bad (q : UInt8) (hq : q = 34 ∨ q = 39) (s : List UInt8) (hs : s.length ≤ 2000) (hb : 0 ≤ badL s) : allS (vdoc q s) = .no 1 (6 + badL s).toNat := by
  have h := vdoc_bad q hq s
  rw [if_pos hb] at h
  have h2 : badZ (fs (vdoc q s)) (vdoc q s).length = 6 + badL s := h
  unfold allS
  rw [if_neg (by rw [vdoc_len]; omega), h2, if_pos (by omega)]

theorem name_one (c d : UInt8) (rest : List UInt8) (i : Nat) (hc : c.toNat < 128) (hct : inTab charsT (c.toNat : Int) = true) (hcb : fitsB true c.toNat = true) (hd : d.toNat < 128) (hdt : inTab charsT (d.toNat : Int) = true) (hdb : fitsB false d.toNat = false) : nameS i (c :: d :: rest) = .ok [c] (i + 1) (d :: rest) := by
  unfold nameS
  rw [show (c :: d :: rest).length = rest.length + 1 + 1 from rfl, nmG, if_neg (List.cons_ne_nil _ _)]
  have h1 := nx_ascii c (d :: rest) hc hct
  rw [h1, if_pos hcb]
  dsimp only
  rw [show (c :: d :: rest).drop 1 = d :: rest from rfl, nmG, if_neg (List.cons_ne_nil _ _), nx_ascii d rest hd hdt, if_neg (by rw [hdb]; decide), Sx.then_ok, if_neg (by omega), show i + 1 - i = 1 by omega]
  rfl
theorem blanks_none (i : Nat) (x : UInt8) (t : List UInt8) (h : blankB (x.toNat : Int) = false) : blanksS i (x :: t) = .ok false i (x :: t) := by
  unfold blanksS
  rw [blkS, if_neg (by rw [h]; decide), Sx.then_ok, decide_eq_false (Nat.lt_irrefl i)]
theorem blanks_one (i : Nat) (x : UInt8) (t : List UInt8) (h : blankB (x.toNat : Int) = false) : blanksS i (32 :: x :: t) = .ok true (i + 1) (x :: t) := by
  unfold blanksS
  rw [blkS, if_pos (by decide), blkS, if_neg (by rw [h]; decide), Sx.then_ok, decide_eq_true (Nat.lt_succ_self i)]
theorem run_app (q : Option UInt8) (y : UInt8) (t : List UInt8) (hy : endS q y = true) : ∀ s : List UInt8, (∀ x, x ∈ s → endS q x = false) → runS q (s ++ y :: t) = s ∧ restS q (s ++ y :: t) = y :: t
  | [], _ => by
    unfold runS restS
    rw [List.nil_append, List.takeWhile_cons, List.dropWhile_cons]
    simp [hy]
  | x :: s, h => by
    have ih := run_app q y t hy s (fun z hz => h z (List.mem_cons_of_mem _ hz))
    have hx := h x (List.mem_cons_self ..)
    unfold runS restS at ih ⊢
    rw [List.cons_append, List.takeWhile_cons, List.dropWhile_cons]
    simp only [hx, Bool.not_false, if_true]
    exact ⟨by rw [ih.1], ih.2⟩
theorem value_plain (q : UInt8) (hq : q = 34 ∨ q = 39) (s : List UInt8) (h : ∀ x, x ∈ s → x ≠ 34 ∧ x ≠ 39 ∧ x ≠ 60 ∧ x ≠ 38) (i : Nat) (t : List UInt8) : valueS i (q :: (s ++ q :: t)) = .ok (flatS s) (i + 1 + s.length + 1) t := by
  unfold valueS
  rw [peekS, Sx.then_ok, if_neg (by rcases hq with rfl | rfl <;> decide), show (q :: (s ++ q :: t)).drop 1 = s ++ q :: t from rfl]
  unfold mixS
  have hr := run_app (some q) q t (by simp [endS]) s (fun x hx => by
    have := h x hx
    unfold endS
    have h1 : (x == 60) = false := beq_eq_false_iff_ne.2 this.2.2.1
    have h2 : (x == 38) = false := beq_eq_false_iff_ne.2 this.2.2.2
    have h3 : (x == q) = false := beq_eq_false_iff_ne.2 (by rcases hq with rfl | rfl; exact this.1; exact this.2.1)
    simp [h1, h2, h3])
  rw [mixG, hr.1, hr.2]
  dsimp only [turnS]
  rw [if_neg (by
    intro h2
    have h3 : ((38 : UInt8) == q && true) = true := h2
    rw [Bool.and_true, beq_iff_eq] at h3
    rcases hq with h4 | h4 <;> (rw [h4] at h3; exact absurd h3 (by decide))), Sx.then_ok, mustS, if_pos rfl, Sx.then_ok]
theorem attr_plain (q : UInt8) (hq : q = 34 ∨ q = 39) (s : List UInt8) (h : ∀ x, x ∈ s → x ≠ 34 ∧ x ≠ 39 ∧ x ≠ 60 ∧ x ≠ 38) (i : Nat) (t : List UInt8) : attrS [] i (120 :: 61 :: q :: (s ++ q :: t)) = .ok ([120], flatS s) (i + 1 + 1 + 1 + s.length + 1) t := by
  unfold attrS
  rw [name_one 120 61 _ i (by decide) tab120 (by kernel_rfl) (by decide) tab61 (by kernel_rfl), Sx.then_ok, if_neg (List.not_mem_nil), blanks_none (i + 1) 61 _ (by decide), Sx.then_ok, mustS, if_pos rfl, Sx.then_ok, blanks_none (i + 1 + 1) q _ (by rcases hq with rfl | rfl <;> decide), Sx.then_ok, value_plain q hq s h (i + 1 + 1) t, Sx.then_ok]
theorem tag_plain (q : UInt8) (hq : q = 34 ∨ q = 39) (s : List UInt8) (h : ∀ x, x ∈ s → x ≠ 34 ∧ x ≠ 39 ∧ x ≠ 60 ∧ x ≠ 38) (g i : Nat) : tagG (g + 1 + 1) [] i (32 :: 120 :: 61 :: q :: (s ++ [q, 47, 62])) = .ok (2, [([120], flatS s)]) (i + 1 + 1 + 1 + 1 + s.length + 1 + 1 + 1) [] := by
  rw [tagG, blanks_one i 120 _ (by decide), Sx.then_ok, peekS, Sx.then_ok, if_neg (by decide), if_neg (by decide), if_neg (by decide)]
  have ha := attr_plain q hq s h (i + 1) [47, 62]
  rw [show List.map Prod.fst ([] : List (List UInt8 × List UInt8)) = [] from rfl, ha, Sx.then_ok, tagG, blanks_none _ 47 _ (by decide), Sx.then_ok, peekS, Sx.then_ok, if_pos rfl, show ([47, 62] : List UInt8).drop 1 = [62] from rfl, mustS, if_pos rfl, Sx.then_ok]
  rfl
theorem opens_miss (m : List UInt8) (i : Nat) (r : List UInt8) (h1 : m.length ≤ r.length) (h2 : m.isPrefixOf r = false) : opensS m i r = .ok false i r := by
  unfold opensS
  rw [if_neg (by omega), if_neg (by rw [h2]; decide)]
theorem tok_plain (q : UInt8) (hq : q = 34 ∨ q = 39) (s : List UInt8) (h : ∀ x, x ∈ s → x ≠ 34 ∧ x ≠ 39 ∧ x ≠ 60 ∧ x ≠ 38) : tokS 0 (vdoc q s) = .ok ⟨2, 0, [97], [], [([120], flatS s)]⟩ (0 + 1 + 1 + 1 + 1 + 1 + 1 + s.length + 1 + 1 + 1) [] := by
  have hl := vdoc_len q s
  unfold tokS lenS
  rw [if_neg (by
    intro h2
    have : [60].isPrefixOf (vdoc q s) = true := rfl
    rw [this] at h2
    cases h2)]
  rw [opens_miss [60, 33, 45, 45] 0 _ (by rw [hl]; show 4 ≤ _; omega) rfl, Sx.then_ok, if_neg (by decide)]
  rw [opens_miss [60, 33, 91, 67, 68, 65, 84, 65, 91] 0 _ (by rw [hl]; show 9 ≤ _; omega) rfl, Sx.then_ok, if_neg (by decide)]
  rw [opens_miss [60, 33] 0 _ (by rw [hl]; show 2 ≤ _; omega) rfl, Sx.then_ok, if_neg (by decide)]
  rw [opens_miss [60, 63] 0 _ (by rw [hl]; show 2 ≤ _; omega) rfl, Sx.then_ok, if_neg (by decide)]
  rw [opens_miss [60, 47] 0 _ (by rw [hl]; show 2 ≤ _; omega) rfl, Sx.then_ok, if_neg (by decide)]
  have ho : opensS [60] 0 (vdoc q s) = .ok true 1 (97 :: 32 :: 120 :: 61 :: q :: (s ++ [q, 47, 62])) := by
    unfold opensS
    rw [if_neg (by rw [hl]; show ¬ (_ < 1 ∧ _); omega), if_pos (show [60].isPrefixOf (vdoc q s) = true from rfl)]
    rfl
  rw [ho, Sx.then_ok, if_pos rfl]
  dsimp only
  unfold startS
  rw [name_one 97 32 _ 1 (by decide) tab97 (by kernel_rfl) (by decide) tab32 (by kernel_rfl), Sx.then_ok]
  have hg : ∃ g, (32 :: 120 :: 61 :: q :: (s ++ [q, 47, 62])).length + 1 = g + 1 + 1 := ⟨(120 :: 61 :: q :: (s ++ [q, 47, 62])).length, rfl⟩
  obtain ⟨g, hg⟩ := hg
  rw [hg, tag_plain q hq s h g (1 + 1), Sx.then_ok, Sx.then_ok]
theorem vals_good (q : UInt8) (hq : q = 34 ∨ q = 39) (s : List UInt8) (hs : s.length ≤ 2000) (hb : ¬ 0 ≤ badL s) (h : ∀ x, x ∈ s → x ≠ 34 ∧ x ≠ 39 ∧ x ≠ 60 ∧ x ≠ 38) : ∃ j, allS (vdoc q s) = .ok [⟨2, 0, [97], [], [([120], flatS s)]⟩] j [] := by
  have h1 := vdoc_bad q hq s
  rw [if_neg hb] at h1
  have h2 : badZ (fs (vdoc q s)) (vdoc q s).length = -1 := h1
  refine ⟨0 + 1 + 1 + 1 + 1 + 1 + 1 + s.length + 1 + 1 + 1, ?_⟩
  unfold allS
  rw [if_neg (by rw [vdoc_len]; omega), h2, if_neg (by decide)]
  have hd : declS (vdoc q s) = .ok () 0 (vdoc q s) := by
    unfold declS
    exact if_neg (fun h3 => by
      have : [60, 63, 120, 109, 108].isPrefixOf (vdoc q s) = false := rfl
      rw [this] at h3
      cases h3.1)
  rw [hd, Sx.then_ok, toksG, if_neg (show vdoc q s ≠ [] from List.cons_ne_nil _ _), tok_plain q hq s h, Sx.then_ok]
  have hn : ∀ g j, toksG g j [] = .ok [] j [] := fun g j => by
    cases g with
    | zero => rfl
    | succ g => rw [toksG, if_pos rfl]
  rw [hn, Sx.then_ok]
theorem eols_mem {x : UInt8} (hx : x ≠ 13) : ∀ {s : List UInt8}, x ∈ s → x ∈ eols s
  | [], h => by cases h
  | b :: t, h => by
    rw [eols_cons]
    by_cases hb : b = 13
    · rw [if_pos hb]
      have hxt : x ∈ t := by
        rcases List.mem_cons.1 h with h1 | h1
        · exact absurd (h1.trans hb) hx
        · exact h1
      split
      · exact eols_mem hx hxt
      · exact List.mem_cons_of_mem _ (eols_mem hx hxt)
    · rw [if_neg hb]
      rcases List.mem_cons.1 h with h1 | h1
      · rw [h1]; exact List.mem_cons_self ..
      · exact List.mem_cons_of_mem _ (eols_mem hx h1)

end Go.Proofs.YtfonflbpkbibbaaGreatDoor
namespace Go.Proofs.YtfonflbpkbibbaaGreatDoor
open Go.RowKit Go.Lib Go.Joins

/-- Bytes that are those of runes that XML has, one behind the other. -/
inductive Ok8 : List UInt8 → Prop
  | nil : Ok8 []
  | rune (v : Nat) (hv : inTab charsT (v : Int) = true) (t : List UInt8) (ht : Ok8 t) : Ok8 (encB v ++ t)

theorem nx_bytes {f : Nat → Nat} {N p : Nat} (hf : ∀ i, f i < 256) (hp : p < N) (h : (nx f N p).2 ≠ 0) : inTab charsT ((nx f N p).1 : Int) = true ∧ (encN (nx f N p).1).length = (nx f N p).2 ∧ p + (nx f N p).2 ≤ N ∧ ∀ i, i < (nx f N p).2 → nth (encN (nx f N p).1) i = f (p + i) := by
  rw [← ref_is_nx f N p hp hf] at h ⊢
  have key : ∀ g n, (refFrom f N p g n).2 ≠ 0 → inTab charsT ((refFrom f N p g n).1 : Int) = true ∧ (encN (refFrom f N p g n).1).length = (refFrom f N p g n).2 ∧ p + (refFrom f N p g n).2 ≤ N ∧ ∀ i, i < (refFrom f N p g n).2 → nth (encN (refFrom f N p g n).1) i = f (p + i) := by
    intro g
    induction g with
    | zero => intro n h; exact absurd rfl h
    | succ g ih =>
      intro n h
      rw [refFrom] at h ⊢
      by_cases hpn : p + n ≤ N
      · rw [if_pos hpn] at h ⊢
        by_cases hfit : fits f p n = true
        · rw [if_pos hfit]
          obtain ⟨h1, h2, h3⟩ := (fits_iff f p n).1 hfit
          exact ⟨h1, h2, hpn, h3⟩
        · rw [if_neg hfit] at h ⊢
          exact ih _ h
      · rw [if_neg hpn] at h
        exact absurd rfl h
  exact key 4 1 h
theorem chars_pos {v : Nat} (hv : inTab charsT (v : Int) = true) : 0 < (encN v).length := by
  have := (chars_nat v).1 hv
  unfold encN
  rw [if_neg (by omega)]
  repeat' split
  all_goals simp
theorem nx_enc {v : Nat} (hv : inTab charsT (v : Int) = true) (t : List UInt8) : nx (fs (encB v ++ t)) (encB v ++ t).length 0 = (v, (encB v).length) := by
  have hk := chars_pos hv
  have hl : (encB v ++ t).length = (encN v).length + t.length := by rw [List.length_append, encB_length]
  have hd := dN_enc v (fs (encB v ++ t)) (encB v ++ t).length 0 hk (by omega) (fun i hi => by rw [Nat.zero_add, fs_left _ _ _ (by rw [encB_length]; exact hi), encB_at v i hi])
  rw [nx_yes (by rw [hd]; exact enc_right v hk) (by rw [hd]; exact hv), hd, encB_length]
theorem bad_rune {v : Nat} (hv : inTab charsT (v : Int) = true) (t : List UInt8) : badL (encB v ++ t) = if 0 ≤ badL t then ((encB v).length : Int) + badL t else -1 := by
  have hk := chars_pos hv
  have hl := encB_length v
  obtain ⟨n, hn⟩ : ∃ n, (encB v ++ t).length = n + 1 := ⟨(encB v ++ t).length - 1, by rw [List.length_append]; omega⟩
  have hn2 : (encB v).length + t.length = n + 1 := by rw [← hn, List.length_append]
  have h1 : badFrom (fs (encB v ++ t)) (encB v ++ t).length (n + 1) 0 = badFrom (fs (encB v ++ t)) (encB v ++ t).length n ((encB v).length + 0) := by
    rw [badFrom, if_pos (by omega), nx_enc hv t]
    dsimp only
    rw [if_neg (by omega), Nat.zero_add, Nat.add_zero]
  unfold badL badZ
  rw [show badFrom (fs (encB v ++ t)) (encB v ++ t).length (encB v ++ t).length 0 = badFrom (fs (encB v ++ t)) (encB v ++ t).length (n + 1) 0 from congrArg (fun g => badFrom (fs (encB v ++ t)) (encB v ++ t).length g 0) hn, h1, bad_shift (encB v) t n 0, bad_fuel (fs t) t.length n t.length 0 (by omega) (by omega)]
theorem bad_of_ok {l : List UInt8} (h : Ok8 l) : badL l = -1 := by
  induction h with
  | nil => rfl
  | rune v hv t _ ih => rw [bad_rune hv, ih]; rfl
theorem fs_ext {a b : List UInt8} (hl : a.length = b.length) (h : ∀ i, i < a.length → fs a i = fs b i) : a = b := by
  refine List.ext_getElem hl fun i h1 h2 => ?_
  have := h i h1
  unfold fs at this
  rw [List.getD_eq_getElem?_getD, List.getD_eq_getElem?_getD, List.getElem?_eq_getElem h1, List.getElem?_eq_getElem h2] at this
  exact UInt8.toNat_inj.1 this
theorem fs_take (l : List UInt8) (n i : Nat) (h : i < n) : fs (l.take n) i = fs l i := by
  unfold fs
  rw [List.getD_eq_getElem?_getD, List.getD_eq_getElem?_getD, List.getElem?_take_of_lt h]
theorem ok_of_bad : ∀ (n : Nat) (l : List UInt8), l.length ≤ n → ¬ 0 ≤ badL l → Ok8 l
  | 0, l, hl, _ => by rw [List.length_eq_zero_iff.1 (Nat.le_zero.1 hl)]; exact .nil
  | n + 1, l, hl, hb => by
    by_cases hpos : 0 < l.length
    · by_cases hw : (nx (fs l) l.length 0).2 = 0
      · exfalso
        apply hb
        obtain ⟨k, hk⟩ : ∃ k, l.length = k + 1 := ⟨l.length - 1, by omega⟩
        have h1 : badFrom (fs l) l.length (k + 1) 0 = 0 := by rw [badFrom, if_pos hpos, if_pos hw]; rfl
        unfold badL badZ
        rw [show badFrom (fs l) l.length l.length 0 = badFrom (fs l) l.length (k + 1) 0 from congrArg (fun g => badFrom (fs l) l.length g 0) hk, h1]
        exact Int.le_refl _
      · obtain ⟨h1, h2, h3, h4⟩ := nx_bytes (fs_lt l) hpos hw
        obtain ⟨v, hv⟩ : ∃ v, (nx (fs l) l.length 0).1 = v := ⟨_, rfl⟩
        obtain ⟨w, hwd⟩ : ∃ w, (nx (fs l) l.length 0).2 = w := ⟨_, rfl⟩
        rw [hv] at h1 h2 h4
        rw [hwd] at h2 h3 h4
        have hsp : encB v ++ l.drop w = l := by
          have : encB v = l.take w := fs_ext (by rw [encB_length, List.length_take]; omega) (fun i hi => by
            rw [encB_length] at hi
            rw [encB_at v i hi, h4 i (by omega), fs_take l w i (by omega), Nat.zero_add])
          rw [this, List.take_append_drop]
        rw [← hsp]
        have hk := chars_pos h1
        refine .rune v h1 _ (ok_of_bad n _ (by rw [List.length_drop]; omega) fun h => hb ?_)
        rw [← hsp, bad_rune h1, if_pos h]
        omega
    · have h0 : l = [] := List.length_eq_zero_iff.1 (by omega)
      rw [h0]; exact .nil
theorem ok_iff (l : List UInt8) : Ok8 l ↔ badL l = -1 := ⟨bad_of_ok, fun h => ok_of_bad l.length l (Nat.le_refl _) (by omega)⟩
theorem encB_low {v : Nat} (h : v < 128) : encB v = [UInt8.ofNat v] := by
  unfold encB encN
  rw [if_neg (by omega), if_pos h]
  rfl
theorem ofNat_low {v : Nat} (h : v < 128) : (UInt8.ofNat v).toNat = v := by rw [UInt8.toNat_ofNat']; omega
theorem encB_high {v : Nat} (h : 128 ≤ v) : ∀ x ∈ encB v, 128 ≤ x.toNat := by
  intro x hx
  unfold encB at hx
  obtain ⟨y, hy, rfl⟩ := List.mem_map.1 hx
  have hlt := encN_lt v y hy
  rw [UInt8.toNat_ofNat', Nat.mod_eq_of_lt (by omega)]
  unfold encN at hy
  split at hy
  · cases hy
  · rw [if_neg (by omega)] at hy
    split at hy
    · simp only [List.mem_cons, List.not_mem_nil, or_false] at hy; omega
    · split at hy <;> (simp only [List.mem_cons, List.not_mem_nil, or_false] at hy; omega)
theorem encB_ne {v : Nat} (hv : inTab charsT (v : Int) = true) : encB v ≠ [] := by
  intro h
  have h1 := chars_pos hv
  have h2 := encB_length v
  rw [h] at h2
  rw [List.length_nil] at h2
  omega
theorem encB_ascii (x : UInt8) (h : x.toNat < 128) : encB x.toNat = [x] := by
  rw [encB_low h]
  congr 1
  exact UInt8.toNat_inj.1 (ofNat_low h)
theorem Ok8.cons {x : UInt8} {t : List UInt8} (h : Ok8 t) (hx : x.toNat < 128) (hc : inTab charsT (x.toNat : Int) = true) : Ok8 (x :: t) := by
  have := Ok8.rune x.toNat hc t h
  rw [encB_ascii x hx] at this
  exact this
theorem Ok8.of_rune {v : Nat} (hv : inTab charsT (v : Int) = true) : Ok8 (encB v) := by
  have := Ok8.rune v hv [] .nil
  rwa [List.append_nil] at this
theorem Ok8.tail {x : UInt8} {t : List UInt8} (h : Ok8 (x :: t)) (hx : x.toNat < 128) : Ok8 t ∧ inTab charsT (x.toNat : Int) = true := by
  generalize hl : x :: t = l at h
  cases h with
  | nil => cases hl
  | rune v hv u hu =>
    by_cases h128 : v < 128
    · rw [encB_low h128] at hl
      injection hl with h1 h2
      have h2' : t = u := h2
      subst h1
      subst h2'
      exact ⟨hu, by rw [ofNat_low h128]; exact hv⟩
    · exfalso
      cases he : encB v with
      | nil => exact encB_ne hv he
      | cons y z =>
        rw [he] at hl
        injection hl with h1 _
        have := encB_high (v := v) (by omega) y (by rw [he]; exact List.mem_cons_self ..)
        rw [← h1] at this
        omega
theorem Ok8.append {a b : List UInt8} (ha : Ok8 a) (hb : Ok8 b) : Ok8 (a ++ b) := by
  induction ha with
  | nil => exact hb
  | rune v hv t _ ih => rw [List.append_assoc]; exact .rune v hv _ ih
theorem Ok8.split {x : UInt8} {t : List UInt8} (hx : x.toNat < 128) {s : List UInt8} (h : Ok8 (s ++ x :: t)) : Ok8 s ∧ Ok8 (x :: t) := by
  generalize hl : s ++ x :: t = l at h
  induction h generalizing s with
  | nil => cases s <;> cases hl
  | rune v hv u hu ih =>
    rcases List.append_eq_append_iff.1 hl with ⟨a, h1, h2⟩ | ⟨c, h1, h2⟩
    · cases a with
      | nil =>
        rw [List.append_nil] at h1
        rw [← h1]
        exact ⟨.of_rune hv, by rw [h2]; exact hu⟩
      | cons y a =>
        injection h2 with h3 h4
        subst h3
        have hv128 : v < 128 := by
          apply Nat.lt_of_not_le
          intro hh
          have := encB_high hh x (by rw [h1]; simp)
          omega
        have hs : s = [] := by
          rw [encB_low hv128] at h1
          cases s with
          | nil => rfl
          | cons z s => injection h1 with _ h5; cases s <;> cases h5
        subst hs
        refine ⟨.nil, ?_⟩
        rw [List.nil_append] at hl
        rw [hl]
        exact .rune v hv u hu
    · obtain ⟨h5, h6⟩ := ih h2.symm
      exact ⟨by rw [h1]; exact .rune v hv c h5, h6⟩
/-- Up to an ASCII byte, or the end. -/
theorem Ok8.cut {s t : List UInt8} (ht : ∀ x u, t = x :: u → x.toNat < 128) (h : Ok8 (s ++ t)) : Ok8 s ∧ Ok8 t := by
  cases t with
  | nil => rw [List.append_nil] at h; exact ⟨h, .nil⟩
  | cons x u => exact h.split (ht x u rfl)
theorem Ok8.peel {t : List UInt8} : ∀ {m : List UInt8}, (∀ x ∈ m, x.toNat < 128) → Ok8 (m ++ t) → Ok8 t
  | [], _, h => h
  | x :: _m, hm, h => Ok8.peel (fun y hy => hm y (List.mem_cons_of_mem _ hy)) (Ok8.tail h (hm x (List.mem_cons_self ..))).1
theorem eols_app {t : List UInt8} : ∀ {a : List UInt8}, (∀ x ∈ a, x ≠ 13) → eols (a ++ t) = a ++ eols t
  | [], _ => rfl
  | x :: a, h => by
    rw [List.cons_append, eols_cons, if_neg (h x (List.mem_cons_self ..)), eols_app (fun y hy => h y (List.mem_cons_of_mem _ hy))]
    rfl
theorem encB_not {v : Nat} (n : Nat) (hn : n < 128) (hv : v ≠ n) : ∀ x ∈ encB v, x.toNat ≠ n := by
  intro x hx
  by_cases h : v < 128
  · rw [encB_low h] at hx
    rw [List.mem_singleton.1 hx, ofNat_low h]
    exact hv
  · have := encB_high (by omega) x hx
    omega
theorem tab10 : inTab charsT (((10 : UInt8).toNat : Nat) : Int) = true := by kernel_rfl
theorem Ok8.eols {l : List UInt8} (h : Ok8 l) : Ok8 (eols l) := by
  induction h with
  | nil => exact .nil
  | rune v hv t _ ih =>
    by_cases h13 : v = 13
    · subst h13
      rw [encB_low (by decide)]
      show Ok8 (Go.Proofs.YtfonflbpkbibbaaGreatDoor.eols ((13 : UInt8) :: t))
      rw [eols_cons, if_pos rfl]
      split
      · exact ih
      · exact ih.cons (by decide) tab10
    · rw [eols_app (fun x hx he => encB_not 13 (by decide) h13 x hx (by rw [he]; rfl))]
      exact .rune v hv _ ih
theorem Ok8.map_flat {l : List UInt8} (h : Ok8 l) : Ok8 (l.map fun x => if x = 10 ∨ x = 9 then 32 else x) := by
  induction h with
  | nil => exact .nil
  | rune v hv t _ ih =>
    rw [List.map_append]
    by_cases h1 : v = 10 ∨ v = 9
    · have h2 : v < 128 := by omega
      rw [encB_low h2, List.map_singleton, if_pos (by rcases h1 with h1 | h1 <;> (subst h1; decide))]
      exact ih.cons (by decide) tab32
    · have h2 : (encB v).map (fun x => if x = 10 ∨ x = 9 then 32 else x) = encB v := by
        conv => rhs; rw [← List.map_id (encB v)]
        refine List.map_congr_left fun x hx => ?_
        rw [if_neg]
        · rfl
        · rintro (h3 | h3)
          · exact encB_not 10 (by decide) (fun h => h1 (.inl h)) x hx (by rw [h3]; rfl)
          · exact encB_not 9 (by decide) (fun h => h1 (.inr h)) x hx (by rw [h3]; rfl)
      rw [h2]
      exact .rune v hv _ ih
theorem Ok8.flat {l : List UInt8} (h : Ok8 l) : Ok8 (flatS l) := h.eols.map_flat

/-- Runes that a name has, the first of which may begin it. -/
inductive Nm8 : Bool → List UInt8 → Prop
  | nil (fb : Bool) : Nm8 fb []
  | rune (fb : Bool) (v : Nat) (hv : inTab charsT (v : Int) = true) (hf : fitsB fb v = true) (t : List UInt8) (ht : Nm8 false t) : Nm8 fb (encB v ++ t)
theorem Nm8.runes {fb : Bool} {l : List UInt8} (h : Nm8 fb l) : ∀ (a : List UInt8) (g : Nat), l.length ≤ g → ∃ rs : List Nat, runesFrom (fs (a ++ l)) (a ++ l).length g a.length = some rs ∧ (rs.all fun x => goesB (x : Int)) = true ∧ (fb = true → ∀ r t, rs = r :: t → beginsB (r : Int) = true) ∧ (l ≠ [] → rs ≠ []) := by
  induction h with
  | nil fb =>
    intro a g _
    refine ⟨[], ?_, rfl, fun _ _ _ h => (by cases h), fun h => absurd rfl h⟩
    cases g with
    | zero => rfl
    | succ g => rw [runesFrom, if_neg (by rw [List.append_nil]; omega)]
  | rune fb v hv hf t _ ih =>
    intro a g hg
    have hk := chars_pos hv
    have hl := encB_length v
    rw [List.length_append] at hg
    obtain ⟨g, rfl⟩ : ∃ k, g = k + 1 := ⟨g - 1, by omega⟩
    obtain ⟨rs, h1, h2, _, _⟩ := ih (a ++ encB v) g (by omega)
    have hn := nx_shift a (encB v ++ t) 0
    rw [Nat.add_zero, nx_enc hv t] at hn
    refine ⟨v :: rs, ?_, ?_, fun hb r t' he => ?_, fun _ h => by cases h⟩
    · rw [runesFrom, if_pos (by rw [List.length_append, List.length_append]; omega), hn]
      dsimp only
      rw [if_neg (by omega)]
      rw [List.append_assoc, @List.length_append _ a (encB v)] at h1
      rw [h1]
      rfl
    · rw [List.all_cons, h2, goes_of_fits hf]
      rfl
    · cases he
      subst hb
      exact hf
theorem Nm8.name {l : List UInt8} (h : Nm8 true l) (hne : l ≠ []) : nameR (runesFrom (fs l) l.length l.length 0) = true := by
  obtain ⟨rs, h1, h2, h3, h4⟩ := h.runes [] l.length (Nat.le_refl _)
  rw [List.nil_append, List.length_nil] at h1
  rw [h1]
  cases rs with
  | nil => exact absurd rfl (h4 hne)
  | cons r t =>
    show (beginsB (r : Int) && (r :: t).all fun x => goesB (x : Int)) = true
    rw [h3 rfl r t rfl, h2]
    rfl
theorem Nm8.ok {fb : Bool} {l : List UInt8} (h : Nm8 fb l) : Ok8 l := by
  induction h with
  | nil => exact .nil
  | rune fb v hv _ t _ ih => exact .rune v hv t ih
theorem nmG_ok : ∀ (g : Nat) (fb : Bool) (i : Nat) {r : List UInt8}, Ok8 r → ∀ x j t, nmG g fb i r = .ok x j t → ∃ p, r = p ++ t ∧ j = i + p.length ∧ Nm8 fb p ∧ Ok8 t
  | 0, _, _, _, _ => fun x j t e => by cases e
  | g + 1, fb, i, r, h => fun x j t e => by
    rw [nmG] at e
    by_cases hr : r = []
    · rw [if_pos hr] at e; cases e
    · rw [if_neg hr] at e
      cases h with
      | nil => exact absurd rfl hr
      | rune v hv u hu =>
        rw [nx_enc hv u] at e
        dsimp only at e
        by_cases hf : fitsB fb v = true
        · rw [if_pos hf, List.drop_left] at e
          obtain ⟨p, h1, h2, h3, h4⟩ := nmG_ok g false (i + (encB v).length) hu x j t e
          exact ⟨encB v ++ p, by rw [h1, List.append_assoc], by rw [h2, List.length_append]; omega, .rune fb v hv hf p h3, h4⟩
        · rw [if_neg hf] at e
          cases e
          exact ⟨[], rfl, rfl, .nil fb, .rune v hv u hu⟩
theorem nameS_ok {i : Nat} {r : List UInt8} (h : Ok8 r) {nm : List UInt8} {j : Nat} {t : List UInt8} (e : nameS i r = .ok nm j t) : r = nm ++ t ∧ j = i + nm.length ∧ nm ≠ [] ∧ Nm8 true nm ∧ Ok8 t := by
  unfold nameS at e
  cases hn : nmG r.length true i r with
  | no c p => rw [hn] at e; cases e
  | ok x j2 t2 =>
    rw [hn, Sx.then_ok] at e
    obtain ⟨p, h1, h2, h3, h4⟩ := nmG_ok _ _ _ h x j2 t2 hn
    split at e
    · cases e
    · next hj =>
      cases e
      have hp : r.take (j - i) = p := by rw [h1, h2, Nat.add_sub_cancel_left, List.take_left]
      rw [hp]
      exact ⟨h1, h2, fun h0 => hj (by rw [h2, h0]; rfl), h3, h4⟩

end Go.Proofs.YtfonflbpkbibbaaGreatDoor
