/-
  Texts of sets by definition: a span's, a set's; what a text is read as. Of no program. No condition.
-/
import Derived.Test.YtiolchdfjlffoaaDoorIP
import Derived.Lib.Join
import Derived.Lib.AtoiAll
import Derived.Lib.ItoaMem
namespace Go.Proofs.YtiolchdfjlffoaaDoor
open Go.RowKit

def isD (b : UInt8) : Bool := decide (48 ≤ b.toNat) && decide (b.toNat ≤ 57)
def stepD (a : Nat) (c : UInt8) : Nat := a * 10 + (c.toNat - 48)
def valD (l : List UInt8) : Nat := l.foldl stepD 0
/-- The digits of a number below 1000. -/
def digN (n : Nat) : List UInt8 :=
  if n < 10 then [UInt8.ofNat (48 + n)] else if n < 100 then [UInt8.ofNat (48 + n / 10), UInt8.ofNat (48 + n % 10)] else [UInt8.ofNat (48 + n / 100), UInt8.ofNat (48 + n / 10 % 10), UInt8.ofNat (48 + n % 10)]
theorem dec_digN {n : Nat} (h : n < 1000) : Lib.decDigits n = digN n := by
  unfold digN
  by_cases h1 : n < 10
  · rw [if_pos h1, Lib.decDigits_one h1]
  · by_cases h2 : n < 100
    · rw [if_neg h1, if_pos h2, Lib.decDigits_two h1 h2]
    · rw [if_neg h1, if_neg h2, Lib.decDigits, dif_neg h1, Lib.decDigits_two (by omega) (by omega), show n / 10 / 10 = n / 100 by omega]
      rfl
theorem itoa_digN {v : Int} (h0 : 0 ≤ v) (h : v < 1000) : Lib.itoa v = digN v.toNat := by
  unfold Lib.itoa
  rw [if_neg (by omega), dec_digN (by omega)]
def okN (n : Nat) : Bool := (digN n).all isD && decide ((digN n).length ≤ 3) && (!(digN n).isEmpty) && (!((digN n).head? == some 48)) && (valD (digN n) == n) && decide (Lib.atoiAll (digN n) = .ok (n : Int))
set_option maxRecDepth 100000 in
theorem okN_all : (List.range 201).all (fun n => n == 0 || okN n) = true := by kernel_rfl
theorem okN_of {n : Nat} (h1 : 1 ≤ n) (h2 : n ≤ 200) : okN n = true := by
  have := List.all_eq_true.1 okN_all n (List.mem_range.2 (by omega))
  rw [Bool.or_eq_true] at this
  rcases this with h | h
  · rw [beq_iff_eq] at h
    omega
  · exact h
structure DigN (n : Nat) : Prop where
  all : (digN n).all isD = true
  len : (digN n).length ≤ 3
  ne : digN n ≠ []
  head : (digN n).head? ≠ some 48
  val : valD (digN n) = n
  atoi : Lib.atoiAll (digN n) = .ok (n : Int)
theorem digN_facts {n : Nat} (h1 : 1 ≤ n) (h2 : n ≤ 200) : DigN n := by
  have h := okN_of h1 h2
  unfold okN at h
  simp only [Bool.and_eq_true, decide_eq_true_eq, Bool.not_eq_true', beq_iff_eq] at h
  obtain ⟨⟨⟨⟨⟨a, b⟩, c⟩, d⟩, e⟩, f⟩ := h
  refine ⟨a, b, ?_, ?_, e, f⟩
  · intro hn
    rw [hn] at c
    cases c
  · intro hn
    rw [hn] at d
    cases d
theorem isD_iff {b : UInt8} : isD b = true ↔ 48 ≤ b.toNat ∧ b.toNat ≤ 57 := by
  unfold isD
  rw [Bool.and_eq_true, decide_eq_true_eq, decide_eq_true_eq]
theorem byte_of {b : UInt8} {n : Nat} (h : b.toNat = 48 + n) (hn : n < 10) : UInt8.ofNat (48 + n) = b := by
  apply UInt8.toNat_inj.1
  rw [h, UInt8.toNat_ofNat']
  omega
/-- The digits of a number up to 200 are these alone, if there are four at most and no zero ahead. -/
theorem digN_only {ds : List UInt8} (hd : ds.all isD = true) (hl : ds.length ≤ 4) (hn : ds ≠ []) (h0 : ds.head? ≠ some 48) (hv : valD ds ≤ 200) : ds = digN (valD ds) := by
  have dig : ∀ {b : UInt8}, isD b = true → 48 ≤ b.toNat ∧ b.toNat ≤ 57 := fun h => isD_iff.1 h
  match ds, hd, hl, hn, h0, hv with
  | [a], hd, _, _, h0, hv =>
    have ha := dig (List.all_eq_true.1 hd a (by simp))
    have e : valD [a] = a.toNat - 48 := by show 0 * 10 + (a.toNat - 48) = _; omega
    rw [e]
    unfold digN
    rw [if_pos (by omega), byte_of (b := a) (by omega) (by omega)]
  | [a, b], hd, _, _, h0, hv =>
    have ha := dig (List.all_eq_true.1 hd a (by simp))
    have hb := dig (List.all_eq_true.1 hd b (by simp))
    have hz : a.toNat ≠ 48 := fun e => h0 (by rw [List.head?_cons, show a = 48 from UInt8.toNat_inj.1 e])
    have e : valD [a, b] = (a.toNat - 48) * 10 + (b.toNat - 48) := by show (0 * 10 + (a.toNat - 48)) * 10 + (b.toNat - 48) = _; omega
    rw [e]
    unfold digN
    rw [if_neg (by omega), if_pos (by omega), byte_of (b := a) (by omega) (by omega), byte_of (b := b) (by omega) (by omega)]
  | [a, b, c], hd, _, _, h0, hv =>
    have ha := dig (List.all_eq_true.1 hd a (by simp))
    have hb := dig (List.all_eq_true.1 hd b (by simp))
    have hc := dig (List.all_eq_true.1 hd c (by simp))
    have hz : a.toNat ≠ 48 := fun e => h0 (by rw [List.head?_cons, show a = 48 from UInt8.toNat_inj.1 e])
    have e : valD [a, b, c] = (a.toNat - 48) * 100 + (b.toNat - 48) * 10 + (c.toNat - 48) := by show ((0 * 10 + (a.toNat - 48)) * 10 + (b.toNat - 48)) * 10 + (c.toNat - 48) = _; omega
    rw [e]
    unfold digN
    rw [if_neg (by omega), if_neg (by omega), byte_of (b := a) (by omega) (by omega), byte_of (b := b) (by omega) (by omega), byte_of (b := c) (by omega) (by omega)]
  | [a, b, c, d], hd, _, _, h0, hv =>
    have ha := dig (List.all_eq_true.1 hd a (by simp))
    have hz : a.toNat ≠ 48 := fun e => h0 (by rw [List.head?_cons, show a = 48 from UInt8.toNat_inj.1 e])
    have e : valD [a, b, c, d] = (((a.toNat - 48) * 10 + (b.toNat - 48)) * 10 + (c.toNat - 48)) * 10 + (d.toNat - 48) := by show (((0 * 10 + (a.toNat - 48)) * 10 + (b.toNat - 48)) * 10 + (c.toNat - 48)) * 10 + (d.toNat - 48) = _; omega
    rw [e] at hv
    omega
  | [], _, _, hn, _, _ => exact absurd rfl hn
  | _ :: _ :: _ :: _ :: _ :: _, _, hl, _, _, _ => simp at hl

/-- A span's text, and a set's. -/
def spanT (x : Sp) : List UInt8 := Lib.itoa x.1 ++ (if x.1 = x.2 then [] else 45 :: Lib.itoa x.2)
def joinT : List Sp → List UInt8
  | [] => []
  | x :: l => 44 :: (spanT x ++ joinT l)
def bodyT : List Sp → List UInt8
  | [] => []
  | x :: l => spanT x ++ joinT l
def textS (l : List Sp) : List UInt8 := if mayS l = true then bodyT l else []
theorem joinT_tail : ∀ l : List Sp, Lib.joinTail [44] (l.map spanT) = joinT l
  | [] => rfl
  | x :: l => by
    have := joinT_tail l
    unfold Lib.joinTail at this ⊢
    rw [List.map_cons, List.map_cons, List.flatten_cons, this, joinT]
    rfl
theorem bodyT_join (l : List Sp) : Lib.join (l.map spanT) [44] = bodyT l := by
  cases l with
  | nil => rfl
  | cons x l => rw [List.map_cons, Lib.join_cons, joinT_tail, bodyT]
/-- A span whose versions there may be. -/
def RightP (x : Sp) : Prop := 1 ≤ x.1 ∧ x.1 ≤ x.2 ∧ x.2 ≤ 200
theorem may_right {l : List Sp} (h : mayS l = true) : ∀ x ∈ l, RightP x := fun x hx => by
  have := mayF_mem h hx
  exact ⟨by omega, this.2.1, this.1⟩
theorem spanT_form {x : Sp} (h : RightP x) : spanT x = digN x.1.toNat ++ (if x.1 = x.2 then [] else 45 :: digN x.2.toNat) := by
  unfold spanT
  rw [itoa_digN (by have := h.1; omega) (by have := h.2; omega), itoa_digN (by have := h.1; have := h.2; omega) (by have := h.2; omega)]

/-- A number read: four digits at most, no zero ahead. -/
def headD (l : List UInt8) : List UInt8 := (l.takeWhile isD).take 4
def numR (l : List UInt8) : Option (Nat × List UInt8) := if headD l = [] ∨ (headD l).head? = some 48 then none else some (valD (headD l), l.drop (headD l).length)
def tailR (f : Nat) : List UInt8 → Option (Sp × List UInt8)
  | [] => some (((f : Int), (f : Int)), [])
  | c :: r => if c = 45 then (match numR r with
    | none => none
    | some (t, r') => if t = f then none else some (((f : Int), (t : Int)), r')) else some (((f : Int), (f : Int)), c :: r)
def spanR (l : List UInt8) : Option (Sp × List UInt8) :=
  match numR l with
  | none => none
  | some (f, r) => tailR f r
theorem headD_prefix (l : List UInt8) : ∃ r, l = headD l ++ r ∧ l.drop (headD l).length = r := by
  have h1 : headD l <+: l := (List.take_prefix _ _).trans (List.takeWhile_prefix _)
  obtain ⟨r, hr⟩ := h1
  refine ⟨r, hr.symm, ?_⟩
  have := congrArg (List.drop (headD l).length) hr
  rw [List.drop_left] at this
  exact this.symm
theorem headD_all (l : List UInt8) : (headD l).all isD = true := by
  refine List.all_eq_true.2 fun x hx => ?_
  exact List.all_eq_true.1 List.all_takeWhile x (List.mem_of_mem_take hx)
theorem headD_len (l : List UInt8) : (headD l).length ≤ 4 := by
  unfold headD
  rw [List.length_take]
  omega
/-- What is behind a number's digits begins with none. -/
def StopD (r : List UInt8) : Prop := ∀ b t, r = b :: t → isD b = false
theorem headD_of {ds r : List UInt8} (hd : ds.all isD = true) (hl : ds.length ≤ 4) (hr : StopD r) : headD (ds ++ r) = ds := by
  unfold headD
  have : (ds ++ r).takeWhile isD = ds := by
    rw [List.takeWhile_append_of_pos (fun x hx => List.all_eq_true.1 hd x hx)]
    cases r with
    | nil => rw [List.takeWhile_nil, List.append_nil]
    | cons b t => rw [List.takeWhile_cons, hr b t rfl, if_neg Bool.false_ne_true, List.append_nil]
  rw [this]
  exact List.take_of_length_le hl
theorem headD_four {l : List UInt8} (hd : (l.take 4).all isD = true) (hl : 4 ≤ l.length) : headD l = l.take 4 := by
  unfold headD
  have e : l = l.take 4 ++ l.drop 4 := (List.take_append_drop 4 l).symm
  conv => lhs; rw [e]
  rw [List.takeWhile_append_of_pos (fun x hx => List.all_eq_true.1 hd x hx), List.take_append_of_le_length (by rw [List.length_take]; omega)]
  exact List.take_of_length_le (by rw [List.length_take]; omega)
theorem numR_dig {n : Nat} (h1 : 1 ≤ n) (h2 : n ≤ 200) {r : List UInt8} (hr : StopD r) : numR (digN n ++ r) = some (n, r) := by
  have f := digN_facts h1 h2
  have e := headD_of f.all (by have := f.len; omega) hr
  unfold numR
  rw [e, if_neg (by intro h; rcases h with h | h; exact f.ne h; exact f.head h), f.val, List.drop_left]
theorem numR_some {l : List UInt8} {n : Nat} {r : List UInt8} (h : numR l = some (n, r)) (hn : n ≤ 200) : l = digN n ++ r := by
  unfold numR at h
  split at h
  · cases h
  · rename_i hc
    injection h with h
    injection h with h1 h2
    obtain ⟨r', e1, e2⟩ := headD_prefix l
    rw [e2] at h2
    subst h2 h1
    rw [← digN_only (headD_all l) (headD_len l) (fun e => hc (.inl e)) (fun e => hc (.inr e)) hn]
    exact e1
theorem stop_dash (r : List UInt8) : StopD (45 :: r) := fun b t h => by
  injection h with h _
  rw [← h]
  rfl
theorem stop_join (l : List Sp) : StopD (joinT l) := fun b t h => by
  cases l with
  | nil => cases h
  | cons x l =>
    rw [joinT] at h
    injection h with h _
    rw [← h]
    rfl
theorem spanR_of {x : Sp} (h : RightP x) (l : List Sp) : spanR (spanT x ++ joinT l) = some (x, joinT l) := by
  obtain ⟨f, t⟩ := x
  obtain ⟨h1, h2, h3⟩ := h
  dsimp only at h1 h2 h3
  obtain ⟨a, rfl⟩ : ∃ a : Nat, f = (a : Int) := ⟨f.toNat, by omega⟩
  obtain ⟨b, rfl⟩ : ∃ b : Nat, t = (b : Int) := ⟨t.toNat, by omega⟩
  rw [spanT_form ⟨h1, h2, h3⟩]
  dsimp only
  rw [Int.toNat_natCast, Int.toNat_natCast]
  by_cases e : a = b
  · subst e
    rw [if_pos rfl, List.append_nil]
    unfold spanR
    rw [numR_dig (by omega) (by omega) (stop_join l)]
    cases l with
    | nil => rfl
    | cons y l => rfl
  · rw [if_neg (by omega), List.append_assoc, List.cons_append]
    unfold spanR
    rw [numR_dig (by omega) (by omega) (stop_dash _)]
    dsimp only
    rw [tailR, if_pos rfl, numR_dig (by omega) (by omega) (stop_join l)]
    dsimp only
    rw [if_neg (fun h => e h.symm)]
theorem spanR_some {l : List UInt8} {x : Sp} {r : List UInt8} (h : spanR l = some (x, r)) (hx : RightP x) : l = spanT x ++ r := by
  rw [spanT_form hx]
  unfold spanR at h
  split at h
  · cases h
  · rename_i f r1 hn
    unfold tailR at h
    split at h
    · injection h with h
      injection h with h1 h2
      subst h1 h2
      obtain ⟨g1, g2, g3⟩ := hx
      dsimp only at g1 g2 g3
      dsimp only
      rw [if_pos rfl, Int.toNat_natCast, List.append_nil]
      exact numR_some hn (by omega)
    · rename_i c r'
      split at h
      · rename_i hc
        subst hc
        split at h
        · cases h
        rename_i t r'' hn2
        split at h
        · cases h
        · rename_i hne
          injection h with h
          injection h with h1 h2
          subst h1 h2
          obtain ⟨g1, g2, g3⟩ := hx
          dsimp only at g1 g2 g3
          dsimp only
          rw [if_neg (by omega), Int.toNat_natCast, Int.toNat_natCast, numR_some hn (by omega), numR_some hn2 (by omega), List.append_assoc, List.cons_append]
      · injection h with h
        injection h with h1 h2
        subst h1 h2
        obtain ⟨g1, g2, g3⟩ := hx
        dsimp only at g1 g2 g3
        dsimp only
        rw [if_pos rfl, Int.toNat_natCast, List.append_nil]
        exact numR_some hn (by omega)
/-- What a text is read as behind its first span, and from its beginning. -/
def restR : Nat → List UInt8 → Option (List Sp)
  | _, [] => some []
  | 0, _ :: _ => none
  | n + 1, c :: l => if c = 44 then (match spanR l with
    | none => none
    | some (x, r) => (restR n r).map (x :: ·)) else none
def parseR (l : List UInt8) : Option (List Sp) :=
  match l with
  | [] => some []
  | c :: m => match spanR (c :: m) with
    | none => none
    | some (x, r) => (restR r.length r).map (x :: ·)
theorem restR_of : ∀ {l : List Sp} {n : Nat}, (∀ x ∈ l, RightP x) → (joinT l).length ≤ n → restR n (joinT l) = some l
  | [], n, _, _ => by cases n <;> rfl
  | x :: l, 0, _, hn => by
    rw [joinT] at hn
    simp at hn
  | x :: l, n + 1, h, hn => by
    rw [joinT] at hn ⊢
    rw [restR, if_pos rfl, spanR_of (h x (List.mem_cons_self ..)) l]
    dsimp only
    rw [restR_of (fun y hy => h y (List.mem_cons_of_mem _ hy)) (by rw [List.length_cons, List.length_append] at hn; omega)]
    rfl
theorem restR_some : ∀ {n : Nat} {l : List UInt8} {s : List Sp}, restR n l = some s → (∀ x ∈ s, RightP x) → l = joinT s
  | n, [], s, h, _ => by
    have : s = [] := by cases n <;> (rw [restR] at h; injection h with h; exact h.symm)
    rw [this]
    rfl
  | 0, _ :: _, s, h, _ => by cases h
  | n + 1, c :: l, s, h, hs => by
    rw [restR] at h
    split at h
    · rename_i hc
      subst hc
      split at h
      · cases h
      · rename_i x r hx
        obtain ⟨s', h1, rfl⟩ := Option.map_eq_some_iff.1 h
        rw [joinT, spanR_some hx (hs x (List.mem_cons_self ..)), restR_some h1 (fun y hy => hs y (List.mem_cons_of_mem _ hy))]
    · cases h
/-- A text that is a set's. -/
def IsText (s : List Sp) (t : List UInt8) : Prop := mayS s = true ∧ bodyT s = t
theorem spanT_ne {x : Sp} (h : RightP x) : spanT x ≠ [] := by
  rw [spanT_form h]
  have := (digN_facts (n := x.1.toNat) (by have := h.1; omega) (by have := h.2; omega)).ne
  intro e
  exact this (List.append_eq_nil_iff.1 e).1
theorem parseR_of {s : List Sp} {t : List UInt8} (h : IsText s t) : parseR t = some s := by
  obtain ⟨h1, rfl⟩ := h
  have hr := may_right h1
  cases s with
  | nil => rfl
  | cons x s =>
    have hx := hr x (List.mem_cons_self ..)
    rw [bodyT]
    cases e : spanT x ++ joinT s with
    | nil => exact absurd (List.append_eq_nil_iff.1 e).1 (spanT_ne hx)
    | cons c m =>
      rw [parseR, ← e, spanR_of hx s]
      dsimp only
      rw [restR_of (fun y hy => hr y (List.mem_cons_of_mem _ hy)) (Nat.le_refl _)]
      rfl
theorem parseR_some {s : List Sp} {t : List UInt8} (h : parseR t = some s) (hs : mayS s = true) : IsText s t := by
  refine ⟨hs, ?_⟩
  have hr := may_right hs
  unfold parseR at h
  split at h
  · injection h with h
    rw [← h]
    rfl
  · rename_i c m
    split at h
    · cases h
    · rename_i x r hx
      obtain ⟨s', h1, rfl⟩ := Option.map_eq_some_iff.1 h
      rw [bodyT, spanR_some hx (hr x (List.mem_cons_self ..)), restR_some h1 (fun y hy => hr y (List.mem_cons_of_mem _ hy))]
theorem textS_of {s : List Sp} (h : mayS s = true) : IsText s (textS s) := ⟨h, by unfold textS; rw [if_pos h]⟩
theorem text_only {s s' : List Sp} {t : List UInt8} (h : IsText s t) (h' : IsText s' t) : s = s' := by
  have := parseR_of h
  rw [parseR_of h'] at this
  exact (Option.some.inj this).symm
end Go.Proofs.YtiolchdfjlffoaaDoor
