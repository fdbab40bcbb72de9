/-
  Bytes that are those of runes that XML has, one behind the other; the first bad byte of texts one behind the other. Of no program. No condition.
-/
import Derived.Test.YtkpgbcackphdbaaDoorPureSides
namespace Go.Proofs.YtkpgbcackphdbaaDoor
open Go.RowKit Go.Lib

def badL (l : List UInt8) : Int := badZ (fs l) l.length
theorem bad_ge (f : Nat → Nat) (N : Nat) : ∀ g p, badFrom f N g p = -1 ∨ 0 ≤ badFrom f N g p
  | 0, _ => .inl rfl
  | g + 1, p => by
    rw [badFrom]
    split
    · split
      · right; omega
      · exact bad_ge f N g _
    · exact .inl rfl
theorem bad_fuel (f : Nat → Nat) (N : Nat) : ∀ g g' p, N - p ≤ g → N - p ≤ g' → badFrom f N g p = badFrom f N g' p
  | 0, g', p, h, _ => by
    cases g' with
    | zero => rfl
    | succ g' => rw [badFrom, badFrom, if_neg (by omega)]
  | g + 1, g', p, h, h' => by
    cases g' with
    | zero => rw [badFrom, badFrom, if_neg (by omega)]
    | succ g' =>
      rw [badFrom, badFrom]
      split
      · split
        · rfl
        · exact bad_fuel f N g g' _ (by omega) (by omega)
      · rfl
theorem decodeN_fits (n b0 b1 b2 b3 : Nat) (hn : 1 ≤ n) : (decodeN n b0 b1 b2 b3).2 ≤ n := by
  unfold decodeN
  repeat' split
  all_goals first | omega | (dsimp only; omega)
theorem nx_fits2 {f : Nat → Nat} {N p : Nat} (hp : p < N) : p + (nx f N p).2 ≤ N := by
  have h := decodeN_fits (N - p) (f p) (f (p + 1)) (f (p + 2)) (f (p + 3)) (by omega)
  unfold nx
  dsimp only
  split
  · omega
  · dsimp only; omega
theorem nx_shift (a l : List UInt8) (k : Nat) : nx (fs (a ++ l)) (a ++ l).length (a.length + k) = nx (fs l) l.length k := by
  have hf : ∀ j, fs (a ++ l) (a.length + j) = fs l j := fun j => by rw [Nat.add_comm]; exact fs_right a l j
  unfold nx
  rw [show (a ++ l).length - (a.length + k) = l.length - k by rw [List.length_append]; omega, hf k, show a.length + k + 1 = a.length + (k + 1) by omega, show a.length + k + 2 = a.length + (k + 2) by omega, show a.length + k + 3 = a.length + (k + 3) by omega, hf, hf, hf]
theorem bad_shift (a l : List UInt8) : ∀ g k, badFrom (fs (a ++ l)) (a ++ l).length g (a.length + k) = if 0 ≤ badFrom (fs l) l.length g k then (a.length : Int) + badFrom (fs l) l.length g k else -1
  | 0, k => rfl
  | g + 1, k => by
    rw [badFrom, badFrom, nx_shift]
    by_cases hk : k < l.length
    · rw [if_pos (by rw [List.length_append]; omega), if_pos hk]
      by_cases hw : (nx (fs l) l.length k).2 = 0
      · rw [if_pos hw, if_pos hw, if_pos (by omega)]
        omega
      · rw [if_neg hw, if_neg hw, Nat.add_assoc, bad_shift a l g]
    · rw [if_neg (by rw [List.length_append]; omega), if_neg hk, if_neg (by omega)]
theorem decodeN_tail (n n' b0 b1 b2 b3 c1 c2 c3 : Nat) (hn : 1 ≤ n) (hn' : n ≤ n') (h1 : 1 < n → c1 = b1) (h2 : 2 < n → c2 = b2) (h3 : 3 < n → c3 = b3) (t1 : n = 1 → n < n' → c1 < 128) (t2 : n = 2 → n < n' → c2 < 128) (t3 : n = 3 → n < n' → c3 < 128) : decodeN n' b0 c1 c2 c3 = decodeN n b0 b1 b2 b3 := by
  have e1 : (1 < n' ∧ c1 / 64 = 2) = (1 < n ∧ b1 / 64 = 2) := propext (by
    by_cases h : 1 < n
    · rw [h1 h]; constructor <;> (intro h'; exact ⟨by omega, h'.2⟩)
    · constructor
      · intro h'; have := t1 (by omega) (by omega); omega
      · intro h'; omega)
  by_cases hc1 : 1 < n ∧ b1 / 64 = 2
  · have e1b := h1 hc1.1
    have e2 : (2 < n' ∧ c2 / 64 = 2) = (2 < n ∧ b2 / 64 = 2) := propext (by
      by_cases h : 2 < n
      · rw [h2 h]; constructor <;> (intro h'; exact ⟨by omega, h'.2⟩)
      · constructor
        · intro h'; have := t2 (by omega) (by omega); omega
        · intro h'; omega)
    by_cases hc2 : 2 < n ∧ b2 / 64 = 2
    · have e2b := h2 hc2.1
      have e3 : (3 < n' ∧ c3 / 64 = 2) = (3 < n ∧ b3 / 64 = 2) := propext (by
        by_cases h : 3 < n
        · rw [h3 h]; constructor <;> (intro h'; exact ⟨by omega, h'.2⟩)
        · constructor
          · intro h'; have := t3 (by omega) (by omega); omega
          · intro h'; omega)
      unfold decodeN
      simp only [e1, e2, e3]
      by_cases hc3 : 3 < n ∧ b3 / 64 = 2
      · rw [e1b, e2b, h3 hc3.1]
      · simp only [hc3, and_false, if_false, e1b, e2b]
    · rw [e1b] at e1
      unfold decodeN
      simp only [e1b, e1, e2, hc2, and_false, false_and, if_false]
  · unfold decodeN
    simp only [e1, hc1, and_false, false_and, if_false]
theorem nx_tail (s t : List UInt8) (ht : ∀ x u, t = x :: u → x.toNat < 128) (k : Nat) (hk : k < s.length) : nx (fs (s ++ t)) (s ++ t).length k = nx (fs s) s.length k := by
  have hf : ∀ j, j < s.length → fs (s ++ t) j = fs s j := fun j hj => fs_left s t j hj
  have hz : t.length ≠ 0 → fs (s ++ t) s.length < 128 := fun h => by
    cases t with
    | nil => exact absurd rfl h
    | cons x u =>
      have h1 := fs_right s (x :: u) 0
      rw [Nat.zero_add] at h1
      rw [h1]
      exact ht x u rfl
  have hlen : (s ++ t).length = s.length + t.length := List.length_append
  unfold nx
  rw [hf k hk]
  rw [decodeN_tail (s.length - k) ((s ++ t).length - k) (fs s k) (fs s (k + 1)) (fs s (k + 2)) (fs s (k + 3)) (fs (s ++ t) (k + 1)) (fs (s ++ t) (k + 2)) (fs (s ++ t) (k + 3)) (by omega) (by omega)
    (fun h => hf _ (by omega)) (fun h => hf _ (by omega)) (fun h => hf _ (by omega))
    (fun h h' => by rw [show k + 1 = s.length by omega]; exact hz (by omega)) (fun h h' => by rw [show k + 2 = s.length by omega]; exact hz (by omega)) (fun h h' => by rw [show k + 3 = s.length by omega]; exact hz (by omega))]
theorem bad_tail (s t : List UInt8) (ht : ∀ x u, t = x :: u → x.toNat < 128) : ∀ m k g h, s.length - k = m → k ≤ s.length → s.length - k ≤ g → (s ++ t).length - k ≤ h →
    badFrom (fs (s ++ t)) (s ++ t).length h k = if 0 ≤ badFrom (fs s) s.length g k then badFrom (fs s) s.length g k else if 0 ≤ badL t then (s.length : Int) + badL t else -1 := by
  intro m
  induction m using Nat.strongRecOn with
  | _ m ih =>
    intro k g h hm hk hg hh
    have hlen : (s ++ t).length = s.length + t.length := List.length_append
    by_cases hks : k < s.length
    · obtain ⟨g, rfl⟩ : ∃ z, g = z + 1 := ⟨g - 1, by omega⟩
      obtain ⟨h, rfl⟩ : ∃ z, h = z + 1 := ⟨h - 1, by omega⟩
      rw [badFrom, badFrom, nx_tail s t ht k hks, if_pos (by omega), if_pos hks]
      by_cases hw : (nx (fs s) s.length k).2 = 0
      · rw [if_pos hw, if_pos hw, if_pos (by omega)]
      · rw [if_neg hw, if_neg hw]
        have hfit := nx_fits2 (f := fs s) hks
        exact ih (s.length - (k + (nx (fs s) s.length k).2)) (by omega) _ g h rfl hfit (by omega) (by omega)
    · have hke : k = s.length + 0 := by omega
      have h0 : badFrom (fs s) s.length g k = -1 := by
        cases g with
        | zero => rfl
        | succ g => rw [badFrom, if_neg hks]
      rw [h0, if_neg (by omega), hke, bad_shift s t h 0]
      unfold badL badZ
      rw [bad_fuel (fs t) t.length h t.length 0 (by omega) (by omega)]
theorem bad_append (s t : List UInt8) (ht : ∀ x u, t = x :: u → x.toNat < 128) : badL (s ++ t) = if 0 ≤ badL s then badL s else if 0 ≤ badL t then (s.length : Int) + badL t else -1 :=
  bad_tail s t ht _ 0 s.length (s ++ t).length rfl (Nat.zero_le _) (by omega) (by omega)
theorem nx_ascii (x : UInt8) (t : List UInt8) (hx : x.toNat < 128) (hc : inTab charsT (x.toNat : Int) = true) : nx (fs (x :: t)) (x :: t).length 0 = (x.toNat, 1) := by
  have hd : decodeN ((x :: t).length - 0) (fs (x :: t) 0) (fs (x :: t) (0 + 1)) (fs (x :: t) (0 + 2)) (fs (x :: t) (0 + 3)) = (x.toNat, 1) := by
    unfold decodeN
    rw [show fs (x :: t) 0 = x.toNat from rfl, if_pos hx]
  unfold nx
  rw [hd]
  dsimp only
  rw [if_pos ⟨hc, by omega⟩]
theorem bad_cons (x : UInt8) (t : List UInt8) (hx : x.toNat < 128) (hc : inTab charsT (x.toNat : Int) = true) : badL (x :: t) = if 0 ≤ badL t then 1 + badL t else -1 := by
  unfold badL badZ
  rw [List.length_cons, badFrom, if_pos (Nat.succ_pos _)]
  have h := nx_ascii x t hx hc
  rw [List.length_cons] at h
  rw [h]
  dsimp only
  rw [if_neg (by decide)]
  have h2 := bad_shift [x] t t.length 0
  exact h2

theorem tab32 : inTab charsT (((32 : UInt8).toNat : Nat) : Int) = true := by kernel_rfl
theorem tab34 : inTab charsT (((34 : UInt8).toNat : Nat) : Int) = true := by kernel_rfl
theorem tab39 : inTab charsT (((39 : UInt8).toNat : Nat) : Int) = true := by kernel_rfl
/-- Bytes that are those of runes that XML has, one behind the other. -/
inductive Ok8 : List UInt8 → Prop
  | nil : Ok8 []
  | rune (v : Nat) (hv : inTab charsT (v : Int) = true) (t : List UInt8) (ht : Ok8 t) : Ok8 (encB v ++ t)

theorem nx_bytes {f : Nat → Nat} {N p : Nat} (hf : ∀ i, f i < 256) (hp : p < N) (h : (nx f N p).2 ≠ 0) : inTab charsT ((nx f N p).1 : Int) = true ∧ (encN (nx f N p).1).length = (nx f N p).2 ∧ p + (nx f N p).2 ≤ N ∧ ∀ i, i < (nx f N p).2 → nth (encN (nx f N p).1) i = f (p + i) := by
  rw [← ref_is_nx f N p hp hf] at h ⊢
  have key : ∀ g n, (refFrom f N p g n).2 ≠ 0 → inTab charsT ((refFrom f N p g n).1 : Int) = true ∧ (encN (refFrom f N p g n).1).length = (refFrom f N p g n).2 ∧ p + (refFrom f N p g n).2 ≤ N ∧ ∀ i, i < (refFrom f N p g n).2 → nth (encN (refFrom f N p g n).1) i = f (p + i) := by
    intro g
    induction g with
    | zero => intro n h; exact absurd rfl h
    | succ g ih =>
      intro n h
      rw [refFrom] at h ⊢
      by_cases hpn : p + n ≤ N
      · rw [if_pos hpn] at h ⊢
        by_cases hfit : fits f p n = true
        · rw [if_pos hfit]
          obtain ⟨h1, h2, h3⟩ := (fits_iff f p n).1 hfit
          exact ⟨h1, h2, hpn, h3⟩
        · rw [if_neg hfit] at h ⊢
          exact ih _ h
      · rw [if_neg hpn] at h
        exact absurd rfl h
  exact key 4 1 h
theorem chars_pos {v : Nat} (hv : inTab charsT (v : Int) = true) : 0 < (encN v).length := by
  have := (chars_nat v).1 hv
  unfold encN
  rw [if_neg (by omega)]
  repeat' split
  all_goals simp
theorem nx_enc {v : Nat} (hv : inTab charsT (v : Int) = true) (t : List UInt8) : nx (fs (encB v ++ t)) (encB v ++ t).length 0 = (v, (encB v).length) := by
  have hk := chars_pos hv
  have hl : (encB v ++ t).length = (encN v).length + t.length := by rw [List.length_append, encB_length]
  have hd := dN_enc v (fs (encB v ++ t)) (encB v ++ t).length 0 hk (by omega) (fun i hi => by rw [Nat.zero_add, fs_left _ _ _ (by rw [encB_length]; exact hi), encB_at v i hi])
  rw [nx_yes (by rw [hd]; exact enc_right v hk) (by rw [hd]; exact hv), hd, encB_length]
theorem bad_rune {v : Nat} (hv : inTab charsT (v : Int) = true) (t : List UInt8) : badL (encB v ++ t) = if 0 ≤ badL t then ((encB v).length : Int) + badL t else -1 := by
  have hk := chars_pos hv
  have hl := encB_length v
  obtain ⟨n, hn⟩ : ∃ n, (encB v ++ t).length = n + 1 := ⟨(encB v ++ t).length - 1, by rw [List.length_append]; omega⟩
  have hn2 : (encB v).length + t.length = n + 1 := by rw [← hn, List.length_append]
  have h1 : badFrom (fs (encB v ++ t)) (encB v ++ t).length (n + 1) 0 = badFrom (fs (encB v ++ t)) (encB v ++ t).length n ((encB v).length + 0) := by
    rw [badFrom, if_pos (by omega), nx_enc hv t]
    dsimp only
    rw [if_neg (by omega), Nat.zero_add, Nat.add_zero]
  unfold badL badZ
  rw [show badFrom (fs (encB v ++ t)) (encB v ++ t).length (encB v ++ t).length 0 = badFrom (fs (encB v ++ t)) (encB v ++ t).length (n + 1) 0 from congrArg (fun g => badFrom (fs (encB v ++ t)) (encB v ++ t).length g 0) hn, h1, bad_shift (encB v) t n 0, bad_fuel (fs t) t.length n t.length 0 (by omega) (by omega)]
theorem bad_of_ok {l : List UInt8} (h : Ok8 l) : badL l = -1 := by
  induction h with
  | nil => rfl
  | rune v hv t _ ih => rw [bad_rune hv, ih]; rfl
theorem fs_ext {a b : List UInt8} (hl : a.length = b.length) (h : ∀ i, i < a.length → fs a i = fs b i) : a = b := by
  refine List.ext_getElem hl fun i h1 h2 => ?_
  have := h i h1
  unfold fs at this
  rw [List.getD_eq_getElem?_getD, List.getD_eq_getElem?_getD, List.getElem?_eq_getElem h1, List.getElem?_eq_getElem h2] at this
  exact UInt8.toNat_inj.1 this
theorem fs_take (l : List UInt8) (n i : Nat) (h : i < n) : fs (l.take n) i = fs l i := by
  unfold fs
  rw [List.getD_eq_getElem?_getD, List.getD_eq_getElem?_getD, List.getElem?_take_of_lt h]
theorem ok_of_bad : ∀ (n : Nat) (l : List UInt8), l.length ≤ n → ¬ 0 ≤ badL l → Ok8 l
  | 0, l, hl, _ => by rw [List.length_eq_zero_iff.1 (Nat.le_zero.1 hl)]; exact .nil
  | n + 1, l, hl, hb => by
    by_cases hpos : 0 < l.length
    · by_cases hw : (nx (fs l) l.length 0).2 = 0
      · exfalso
        apply hb
        obtain ⟨k, hk⟩ : ∃ k, l.length = k + 1 := ⟨l.length - 1, by omega⟩
        have h1 : badFrom (fs l) l.length (k + 1) 0 = 0 := by rw [badFrom, if_pos hpos, if_pos hw]; rfl
        unfold badL badZ
        rw [show badFrom (fs l) l.length l.length 0 = badFrom (fs l) l.length (k + 1) 0 from congrArg (fun g => badFrom (fs l) l.length g 0) hk, h1]
        exact Int.le_refl _
      · obtain ⟨h1, h2, h3, h4⟩ := nx_bytes (fs_lt l) hpos hw
        obtain ⟨v, hv⟩ : ∃ v, (nx (fs l) l.length 0).1 = v := ⟨_, rfl⟩
        obtain ⟨w, hwd⟩ : ∃ w, (nx (fs l) l.length 0).2 = w := ⟨_, rfl⟩
        rw [hv] at h1 h2 h4
        rw [hwd] at h2 h3 h4
        have hsp : encB v ++ l.drop w = l := by
          have : encB v = l.take w := fs_ext (by rw [encB_length, List.length_take]; omega) (fun i hi => by
            rw [encB_length] at hi
            rw [encB_at v i hi, h4 i (by omega), fs_take l w i (by omega), Nat.zero_add])
          rw [this, List.take_append_drop]
        rw [← hsp]
        have hk := chars_pos h1
        refine .rune v h1 _ (ok_of_bad n _ (by rw [List.length_drop]; omega) fun h => hb ?_)
        rw [← hsp, bad_rune h1, if_pos h]
        omega
    · have h0 : l = [] := List.length_eq_zero_iff.1 (by omega)
      rw [h0]; exact .nil
theorem ok_iff (l : List UInt8) : Ok8 l ↔ badL l = -1 := ⟨bad_of_ok, fun h => ok_of_bad l.length l (Nat.le_refl _) (by omega)⟩
theorem encB_low {v : Nat} (h : v < 128) : encB v = [UInt8.ofNat v] := by
  unfold encB encN
  rw [if_neg (by omega), if_pos h]
  rfl
theorem ofNat_low {v : Nat} (h : v < 128) : (UInt8.ofNat v).toNat = v := by rw [UInt8.toNat_ofNat']; omega
theorem encB_high {v : Nat} (h : 128 ≤ v) : ∀ x ∈ encB v, 128 ≤ x.toNat := by
  intro x hx
  unfold encB at hx
  obtain ⟨y, hy, rfl⟩ := List.mem_map.1 hx
  have hlt := encN_lt v y hy
  rw [UInt8.toNat_ofNat', Nat.mod_eq_of_lt (by omega)]
  unfold encN at hy
  split at hy
  · cases hy
  · rw [if_neg (by omega)] at hy
    split at hy
    · simp only [List.mem_cons, List.not_mem_nil, or_false] at hy; omega
    · split at hy <;> (simp only [List.mem_cons, List.not_mem_nil, or_false] at hy; omega)
theorem encB_ne {v : Nat} (hv : inTab charsT (v : Int) = true) : encB v ≠ [] := by
  intro h
  have h1 := chars_pos hv
  have h2 := encB_length v
  rw [h] at h2
  rw [List.length_nil] at h2
  omega
theorem encB_ascii (x : UInt8) (h : x.toNat < 128) : encB x.toNat = [x] := by
  rw [encB_low h]
  congr 1
  exact UInt8.toNat_inj.1 (ofNat_low h)
theorem Ok8.cons {x : UInt8} {t : List UInt8} (h : Ok8 t) (hx : x.toNat < 128) (hc : inTab charsT (x.toNat : Int) = true) : Ok8 (x :: t) := by
  have := Ok8.rune x.toNat hc t h
  rw [encB_ascii x hx] at this
  exact this
theorem Ok8.of_rune {v : Nat} (hv : inTab charsT (v : Int) = true) : Ok8 (encB v) := by
  have := Ok8.rune v hv [] .nil
  rwa [List.append_nil] at this
theorem Ok8.tail {x : UInt8} {t : List UInt8} (h : Ok8 (x :: t)) (hx : x.toNat < 128) : Ok8 t ∧ inTab charsT (x.toNat : Int) = true := by
  generalize hl : x :: t = l at h
  cases h with
  | nil => cases hl
  | rune v hv u hu =>
    by_cases h128 : v < 128
    · rw [encB_low h128] at hl
      injection hl with h1 h2
      have h2' : t = u := h2
      subst h1
      subst h2'
      exact ⟨hu, by rw [ofNat_low h128]; exact hv⟩
    · exfalso
      cases he : encB v with
      | nil => exact encB_ne hv he
      | cons y z =>
        rw [he] at hl
        injection hl with h1 _
        have := encB_high (v := v) (by omega) y (by rw [he]; exact List.mem_cons_self ..)
        rw [← h1] at this
        omega
theorem Ok8.append {a b : List UInt8} (ha : Ok8 a) (hb : Ok8 b) : Ok8 (a ++ b) := by
  induction ha with
  | nil => exact hb
  | rune v hv t _ ih => rw [List.append_assoc]; exact .rune v hv _ ih
theorem Ok8.split {x : UInt8} {t : List UInt8} (hx : x.toNat < 128) {s : List UInt8} (h : Ok8 (s ++ x :: t)) : Ok8 s ∧ Ok8 (x :: t) := by
  generalize hl : s ++ x :: t = l at h
  induction h generalizing s with
  | nil => cases s <;> cases hl
  | rune v hv u hu ih =>
    rcases List.append_eq_append_iff.1 hl with ⟨a, h1, h2⟩ | ⟨c, h1, h2⟩
    · cases a with
      | nil =>
        rw [List.append_nil] at h1
        rw [← h1]
        exact ⟨.of_rune hv, by rw [h2]; exact hu⟩
      | cons y a =>
        injection h2 with h3 h4
        subst h3
        have hv128 : v < 128 := by
          apply Nat.lt_of_not_le
          intro hh
          have := encB_high hh x (by rw [h1]; simp)
          omega
        have hs : s = [] := by
          rw [encB_low hv128] at h1
          cases s with
          | nil => rfl
          | cons z s => injection h1 with _ h5; cases s <;> cases h5
        subst hs
        refine ⟨.nil, ?_⟩
        rw [List.nil_append] at hl
        rw [hl]
        exact .rune v hv u hu
    · obtain ⟨h5, h6⟩ := ih h2.symm
      exact ⟨by rw [h1]; exact .rune v hv c h5, h6⟩
/-- Up to an ASCII byte, or the end. -/
theorem Ok8.cut {s t : List UInt8} (ht : ∀ x u, t = x :: u → x.toNat < 128) (h : Ok8 (s ++ t)) : Ok8 s ∧ Ok8 t := by
  cases t with
  | nil => rw [List.append_nil] at h; exact ⟨h, .nil⟩
  | cons x u => exact h.split (ht x u rfl)
theorem Ok8.peel {t : List UInt8} : ∀ {m : List UInt8}, (∀ x ∈ m, x.toNat < 128) → Ok8 (m ++ t) → Ok8 t
  | [], _, h => h
  | x :: _m, hm, h => Ok8.peel (fun y hy => hm y (List.mem_cons_of_mem _ hy)) (Ok8.tail h (hm x (List.mem_cons_self ..))).1

end Go.Proofs.YtkpgbcackphdbaaDoor
