/-
  Sets of versions by definition: spans, which rows of them are sets, what is in them, two of them gone through edge by edge. Of no program. No condition.
-/
import Derived.Test.YtiolchdfjlffoaaDoorIB
namespace Go.Proofs.YtiolchdfjlffoaaDoor

/-- A span: its first version and its last. -/
abbrev Sp := Int × Int
/-- Spans that rise and don't touch, behind a version. -/
def mayF : Int → List Sp → Bool
  | _, [] => true
  | a, x :: l => (decide (x.2 ≤ 200) && decide (x.1 ≤ x.2) && decide (a + 1 < x.1)) && mayF x.2 l
/-- Spans that are a set. -/
def mayS (l : List Sp) : Bool := mayF (-1) l
/-- Whether a version is in a span of them. -/
def inS (l : List Sp) (v : Int) : Bool := l.any fun x => decide (x.1 ≤ v) && decide (v ≤ x.2)

theorem mayF_nil (a : Int) : mayF a [] = true := rfl
theorem mayF_cons {a : Int} {x : Sp} {l : List Sp} : mayF a (x :: l) = true ↔ x.2 ≤ 200 ∧ x.1 ≤ x.2 ∧ a + 1 < x.1 ∧ mayF x.2 l = true := by
  rw [mayF]
  simp only [Bool.and_eq_true, decide_eq_true_eq]
  exact ⟨fun ⟨⟨⟨h1, h2⟩, h3⟩, h4⟩ => ⟨h1, h2, h3, h4⟩, fun ⟨h1, h2, h3, h4⟩ => ⟨⟨⟨h1, h2⟩, h3⟩, h4⟩⟩
theorem inS_nil (v : Int) : inS [] v = false := rfl
theorem inS_cons (x : Sp) (l : List Sp) (v : Int) : inS (x :: l) v = ((decide (x.1 ≤ v) && decide (v ≤ x.2)) || inS l v) := rfl
theorem inS_iff {l : List Sp} {v : Int} : inS l v = true ↔ ∃ x ∈ l, x.1 ≤ v ∧ v ≤ x.2 := by
  unfold inS
  simp only [List.any_eq_true, Bool.and_eq_true, decide_eq_true_eq]
theorem inS_app (l m : List Sp) (v : Int) : inS (l ++ m) v = (inS l v || inS m v) := List.any_append
theorem inS_false {l : List Sp} {v : Int} (h : ∀ x ∈ l, x.1 ≤ v → v ≤ x.2 → False) : inS l v = false := by
  cases hi : inS l v with
  | false => rfl
  | true =>
    obtain ⟨x, hx, h1, h2⟩ := inS_iff.1 hi
    exact (h x hx h1 h2).elim
theorem mayF_mem {a : Int} {l : List Sp} (h : mayF a l = true) {x : Sp} (hx : x ∈ l) : x.2 ≤ 200 ∧ x.1 ≤ x.2 ∧ a + 1 < x.1 := by
  induction l generalizing a with
  | nil => cases hx
  | cons y l ih =>
    obtain ⟨h1, h2, h3, h4⟩ := mayF_cons.1 h
    rcases List.mem_cons.1 hx with rfl | hx
    · exact ⟨h1, h2, h3⟩
    · have := ih h4 hx
      exact ⟨this.1, this.2.1, by omega⟩
theorem mayF_low {a : Int} {l : List Sp} (h : mayF a l = true) {v : Int} (hv : inS l v = true) : a + 1 < v := by
  obtain ⟨x, hx, h1, _⟩ := inS_iff.1 hv
  have := mayF_mem h hx
  omega
theorem mayF_high {a : Int} {l : List Sp} (h : mayF a l = true) {v : Int} (hv : inS l v = true) : v ≤ 200 := by
  obtain ⟨x, hx, _, h2⟩ := inS_iff.1 hv
  have := mayF_mem h hx
  omega
theorem mayS_low {l : List Sp} (h : mayS l = true) {v : Int} (hv : v ≤ 0) : inS l v = false := by
  cases hi : inS l v with
  | false => rfl
  | true =>
    have := mayF_low h hi
    omega
theorem mayS_high {l : List Sp} (h : mayS l = true) {v : Int} (hv : 200 < v) : inS l v = false := by
  cases hi : inS l v with
  | false => rfl
  | true =>
    have := mayF_high h hi
    omega
/-- One set has one row of spans alone. -/
theorem canon {a b : Int} {l m : List Sp} (hl : mayF a l = true) (hm : mayF b m = true) (h : ∀ v, inS l v = inS m v) : l = m := by
  induction l generalizing a b m with
  | nil =>
    cases m with
    | nil => rfl
    | cons y m =>
      have hy := mayF_cons.1 hm
      have := h y.1
      rw [inS_nil, inS_cons, decide_eq_true (Int.le_refl _), decide_eq_true hy.2.1] at this
      cases this
  | cons x l ih =>
    obtain ⟨x1, x2, x3, x4⟩ := mayF_cons.1 hl
    cases m with
    | nil =>
      have := h x.1
      rw [inS_nil, inS_cons, decide_eq_true (Int.le_refl _), decide_eq_true x2] at this
      cases this
    | cons y m =>
      obtain ⟨y1, y2, y3, y4⟩ := mayF_cons.1 hm
      have lowl : ∀ v, inS (x :: l) v = true → x.1 ≤ v := fun v hv => by
        obtain ⟨z, hz, h1, h2⟩ := inS_iff.1 hv
        rcases List.mem_cons.1 hz with rfl | hz
        · exact h1
        · have := mayF_mem x4 hz
          omega
      have lowm : ∀ v, inS (y :: m) v = true → y.1 ≤ v := fun v hv => by
        obtain ⟨z, hz, h1, h2⟩ := inS_iff.1 hv
        rcases List.mem_cons.1 hz with rfl | hz
        · exact h1
        · have := mayF_mem y4 hz
          omega
      have inx : ∀ v, x.1 ≤ v → v ≤ x.2 → inS (x :: l) v = true := fun v h1 h2 => by rw [inS_cons, decide_eq_true h1, decide_eq_true h2]; rfl
      have iny : ∀ v, y.1 ≤ v → v ≤ y.2 → inS (y :: m) v = true := fun v h1 h2 => by rw [inS_cons, decide_eq_true h1, decide_eq_true h2]; rfl
      have e1 : x.1 = y.1 := by
        have h1 := lowm x.1 (by rw [← h]; exact inx _ (Int.le_refl _) x2)
        have h2 := lowl y.1 (by rw [h]; exact iny _ (Int.le_refl _) y2)
        omega
      have nextl : ∀ v, inS (x :: l) v = true → v ≤ x.2 ∨ x.2 + 1 < v := fun v hv => by
        rcases Int.lt_or_le x.2 v with hlt | hle
        · rw [inS_cons, decide_eq_false (by omega : ¬ v ≤ x.2), Bool.and_false, Bool.false_or] at hv
          exact .inr (mayF_low x4 hv)
        · exact .inl hle
      have nextm : ∀ v, inS (y :: m) v = true → v ≤ y.2 ∨ y.2 + 1 < v := fun v hv => by
        rcases Int.lt_or_le y.2 v with hlt | hle
        · rw [inS_cons, decide_eq_false (by omega : ¬ v ≤ y.2), Bool.and_false, Bool.false_or] at hv
          exact .inr (mayF_low y4 hv)
        · exact .inl hle
      have e2 : x.2 = y.2 := by
        rcases Int.lt_trichotomy x.2 y.2 with hlt | he | hgt
        · have := nextl (x.2 + 1) (by rw [h]; exact iny _ (by omega) (by omega))
          omega
        · exact he
        · have := nextm (y.2 + 1) (by rw [← h]; exact inx _ (by omega) (by omega))
          omega
      have e : x = y := Prod.ext e1 e2
      subst e
      congr 1
      refine ih x4 y4 fun v => ?_
      have hv := h v
      rw [inS_cons, inS_cons] at hv
      rcases Int.lt_or_le x.2 v with hlt | hle
      · rw [decide_eq_false (by omega : ¬ v ≤ x.2), Bool.and_false, Bool.false_or, Bool.false_or] at hv
        exact hv
      · have f1 : inS l v = false := by
          cases hi : inS l v with
          | false => rfl
          | true =>
            have := mayF_low x4 hi
            omega
        have f2 : inS m v = false := by
          cases hi : inS m v with
          | false => rfl
          | true =>
            have := mayF_low y4 hi
            omega
        rw [f1, f2]
theorem canonS {l m : List Sp} (hl : mayS l = true) (hm : mayS m = true) (h : ∀ v, inS l v = inS m v) : l = m := canon hl hm h
theorem mayF_length {l : List Sp} : ∀ {a : Int}, mayF a l = true → a ≤ 200 → 2 * (l.length : Int) ≤ 200 - a := by
  induction l with
  | nil =>
    intro a _ ha
    simp only [List.length_nil]
    omega
  | cons x l ih =>
    intro a h _
    obtain ⟨h1, h2, h3, h4⟩ := mayF_cons.1 h
    have := ih h4 h1
    simp only [List.length_cons]
    omega
theorem mayS_length {l : List Sp} (h : mayS l = true) : l.length ≤ 100 := by
  have := mayF_length h (by omega)
  omega
theorem mayF_snoc {l : List Sp} {x : Sp} : ∀ {a : Int}, mayF a l = true → (∀ y ∈ l, y.2 + 1 < x.1) → a + 1 < x.1 → x.1 ≤ x.2 → x.2 ≤ 200 → mayF a (l ++ [x]) = true := by
  induction l with
  | nil =>
    intro a _ _ h1 h2 h3
    rw [List.nil_append, mayF_cons]
    exact ⟨h3, h2, h1, rfl⟩
  | cons y l ih =>
    intro a h hl h1 h2 h3
    obtain ⟨y1, y2, y3, y4⟩ := mayF_cons.1 h
    rw [List.cons_append, mayF_cons]
    exact ⟨y1, y2, y3, ih y4 (fun z hz => hl z (List.mem_cons_of_mem _ hz)) (hl y (List.mem_cons_self ..)) h2 h3⟩
/-- What stands behind the first spans is a set behind the last of them. -/
theorem mayF_split {x : Sp} {m : List Sp} : ∀ {l : List Sp} {a : Int}, mayF a (l ++ x :: m) = true → (∀ y ∈ l, y.2 + 1 < x.1) ∧ mayF x.2 m = true ∧ x.2 ≤ 200 ∧ x.1 ≤ x.2 ∧ a + 1 < x.1
  | [], a, h => by
    obtain ⟨h1, h2, h3, h4⟩ := mayF_cons.1 h
    exact ⟨fun y hy => (by cases hy), h4, h1, h2, h3⟩
  | y :: l, a, h => by
    rw [List.cons_append] at h
    obtain ⟨h1, h2, h3, h4⟩ := mayF_cons.1 h
    obtain ⟨g1, g2, g3, g4, g5⟩ := mayF_split h4
    refine ⟨fun z hz => ?_, g2, g3, g4, by omega⟩
    rcases List.mem_cons.1 hz with rfl | hz
    · exact g5
    · exact g1 z hz

/-- The places at which spans begin, or are over, in order; 202 behind them. -/
def edge : List Sp → Nat → Int
  | [], _ => 202
  | x :: _, 0 => x.1
  | x :: _, 1 => x.2 + 1
  | _ :: l, n + 2 => edge l n
theorem edge_end : ∀ (l : List Sp) (n : Nat), 2 * l.length ≤ n → edge l n = 202
  | [], _, _ => rfl
  | x :: l, 0, h => by simp at h
  | x :: l, 1, h => by simp at h; omega
  | x :: l, n + 2, h => by
    rw [edge]
    exact edge_end l n (by simp at h; omega)
theorem edge_even : ∀ {l : List Sp} {n : Nat} {x : Sp}, l[n]? = some x → edge l (2 * n) = x.1
  | [], n, x, h => by simp at h
  | y :: l, 0, x, h => by
    simp only [List.getElem?_cons_zero, Option.some.injEq] at h
    rw [h]
    rfl
  | y :: l, n + 1, x, h => by
    rw [List.getElem?_cons_succ] at h
    rw [show 2 * (n + 1) = 2 * n + 2 from by omega, edge]
    exact edge_even h
theorem edge_odd : ∀ {l : List Sp} {n : Nat} {x : Sp}, l[n]? = some x → edge l (2 * n + 1) = x.2 + 1
  | [], n, x, h => by simp at h
  | y :: l, 0, x, h => by
    simp only [List.getElem?_cons_zero, Option.some.injEq] at h
    rw [h]
    rfl
  | y :: l, n + 1, x, h => by
    rw [List.getElem?_cons_succ] at h
    rw [show 2 * (n + 1) + 1 = (2 * n + 1) + 2 from by omega, edge]
    exact edge_odd h
theorem edge_low : ∀ {l : List Sp} {a : Int}, mayF a l = true → a ≤ 200 → a + 1 < edge l 0
  | [], a, _, ha => by rw [edge]; omega
  | x :: l, a, h, _ => (mayF_cons.1 h).2.2.1
theorem edge_step : ∀ {l : List Sp} {a : Int} {n : Nat}, mayF a l = true → n < 2 * l.length → edge l n < edge l (n + 1) ∧ edge l n ≤ 201
  | [], a, n, _, hn => by simp at hn
  | x :: l, a, 0, h, _ => by
    obtain ⟨h1, h2, h3, h4⟩ := mayF_cons.1 h
    show x.1 < x.2 + 1 ∧ x.1 ≤ 201
    omega
  | x :: l, a, 1, h, _ => by
    obtain ⟨h1, h2, h3, h4⟩ := mayF_cons.1 h
    have := edge_low h4 h1
    show x.2 + 1 < edge l 0 ∧ x.2 + 1 ≤ 201
    omega
  | x :: l, a, n + 2, h, hn => by
    have := edge_step (l := l) (n := n) (mayF_cons.1 h).2.2.2 (by simp at hn; omega)
    exact this
theorem edge_top : ∀ {l : List Sp} {a : Int} {n : Nat}, mayF a l = true → edge l n ≤ 202 := by
  intro l a n h
  by_cases hn : n < 2 * l.length
  · have := (edge_step h hn).2
    omega
  · rw [edge_end l n (by omega)]
    omega
/-- Between two edges a version is in the set just if an odd number of them is behind it. -/
def odd (n : Nat) : Bool := decide (n % 2 = 1)
theorem edge_in : ∀ {l : List Sp} {a : Int} {n : Nat} {v : Int}, mayF a l = true → a ≤ 200 → n ≤ 2 * l.length → (n = 0 ∨ edge l (n - 1) ≤ v) → v < edge l n → inS l v = odd n
  | [], a, n, v, _, _, hn, _, _ => by
    have : n = 0 := by simpa using hn
    subst this
    rfl
  | x :: l, a, 0, v, h, _, _, _, hv => by
    have hv' : v < x.1 := hv
    refine (inS_false fun y hy h1 _ => ?_).trans rfl
    have hm := mayF_split (l := []) h
    rcases List.mem_cons.1 hy with rfl | hy
    · omega
    · have h2 := mayF_mem hm.2.1 hy
      omega
  | x :: l, a, 1, v, h, _, _, h0, hv => by
    have hv' : v < x.2 + 1 := hv
    have h0' : x.1 ≤ v := by
      rcases h0 with h0 | h0
      · cases h0
      · exact h0
    rw [inS_cons, decide_eq_true h0', decide_eq_true (by omega : v ≤ x.2)]
    rfl
  | x :: l, a, n + 2, v, h, _, hn, h0, hv => by
    obtain ⟨h1, h2, h3, h4⟩ := mayF_cons.1 h
    have hv' : v < edge l n := hv
    have h0' : x.2 + 1 ≤ v ∧ (n = 0 ∨ edge l (n - 1) ≤ v) := by
      rcases h0 with h0 | h0
      · cases h0
      · cases n with
        | zero => exact ⟨h0, .inl rfl⟩
        | succ m =>
          have h5 : edge l m ≤ v := h0
          refine ⟨?_, .inr h5⟩
          have h6 : ∀ k, k ≤ 2 * l.length → edge l 0 ≤ edge l k := by
            intro k
            induction k with
            | zero => intro _; exact Int.le_refl _
            | succ k ih =>
              intro hk
              have := ih (by omega)
              have := (edge_step h4 (by omega : k < 2 * l.length)).1
              omega
          have := h6 m (by simp at hn; omega)
          have := edge_low h4 h1
          omega
    have ih := edge_in h4 h1 (by simp at hn; omega) h0'.2 hv'
    rw [inS_cons, decide_eq_false (by omega : ¬ v ≤ x.2), Bool.and_false, Bool.false_or, ih]
    unfold odd
    rw [Nat.add_mod_right]

/-- How far two sets have been gone through side by side: what is kept of them up to the last edge p. -/
structure Sift (k : Bool → Bool → Bool) (A B s : List Sp) (fr : Int) (i j : Nat) (p : Int) : Prop where
  low : 0 ≤ p
  ia : i ≤ 2 * A.length
  jb : j ≤ 2 * B.length
  a1 : i = 0 ∨ edge A (i - 1) ≤ p
  a2 : p < edge A i
  b1 : j = 0 ∨ edge B (j - 1) ≤ p
  b2 : p < edge B j
  on : k (odd i) (odd j) = true → 0 < fr ∧ fr ≤ p
  off : k (odd i) (odd j) = false → fr = 0
  may : mayS s = true
  past : ∀ x ∈ s, x.2 + 1 ≤ p
  ahead : 0 < fr → ∀ x ∈ s, x.2 + 1 < fr
  all : ∀ v, v ≤ p → k (inS A v) (inS B v) = (inS s v || (decide (0 < fr) && decide (fr ≤ v)))
theorem odd_zero : odd 0 = false := rfl
theorem Sift.start {k : Bool → Bool → Bool} {A B : List Sp} (hA : mayS A = true) (hB : mayS B = true) (hk : k false false = false) : Sift k A B [] 0 0 0 0 := by
  have ea := edge_low hA (by omega)
  have eb := edge_low hB (by omega)
  refine ⟨Int.le_refl _, Nat.zero_le _, Nat.zero_le _, .inl rfl, by omega, .inl rfl, by omega, fun h => ?_, fun _ => rfl, rfl, fun x hx => by (cases hx), fun _ x hx => by (cases hx), fun v hv => ?_⟩
  · rw [odd_zero, hk] at h
    cases h
  · rw [mayS_low hA hv, mayS_low hB hv, hk, inS_nil]
    rfl
theorem Sift.fr0 {k : Bool → Bool → Bool} {A B s : List Sp} {fr : Int} {i j : Nat} {p : Int} (hA : mayS A = true) (h : Sift k A B s fr i j p) : 0 ≤ fr ∧ fr ≤ 201 := by
  cases hk : k (odd i) (odd j) with
  | true =>
    have h1 := h.on hk
    have h2 := h.a2
    have h3 := edge_top (n := i) hA
    omega
  | false =>
    rw [h.off hk]
    omega
/-- The next edge, and how many of each set are behind it. -/
def Nexts (A B : List Sp) (i j : Nat) (q : Int) (i' j' : Nat) : Prop :=
  ((edge A i = q ∧ i' = i + 1) ∨ (q < edge A i ∧ i' = i)) ∧ ((edge B j = q ∧ j' = j + 1) ∨ (q < edge B j ∧ j' = j)) ∧ q ≤ 201 ∧ (edge A i = q ∨ edge B j = q)
theorem side_step {A : List Sp} {i i' : Nat} {p q : Int} (hA : mayS A = true) (ia : i ≤ 2 * A.length) (a1 : i = 0 ∨ edge A (i - 1) ≤ p) (a2 : p < edge A i) (hq : q ≤ 201) (hn : (edge A i = q ∧ i' = i + 1) ∨ (q < edge A i ∧ i' = i)) (hpq : p ≤ q) :
    i' ≤ 2 * A.length ∧ (i' = 0 ∨ edge A (i' - 1) ≤ q) ∧ q < edge A i' ∧ (∀ v, p ≤ v → v < q → inS A v = odd i) ∧ inS A q = odd i' := by
  have hlt : ∀ v, p ≤ v → v < q → inS A v = odd i := fun v h1 h2 => by
    refine edge_in hA (by omega) ia (a1.imp_right fun h => by omega) ?_
    rcases hn with ⟨h, _⟩ | ⟨h, _⟩ <;> omega
  rcases hn with ⟨h1, rfl⟩ | ⟨h1, rfl⟩
  · have hi : i < 2 * A.length := by
      rcases Nat.lt_or_ge i (2 * A.length) with h | h
      · exact h
      · rw [edge_end A i h] at h1
        omega
    have h2 := (edge_step hA hi).1
    have h3 : q < edge A (i + 1) := by omega
    have h4 : i + 1 = 0 ∨ edge A (i + 1 - 1) ≤ q := .inr (by rw [Nat.add_sub_cancel]; omega)
    exact ⟨by omega, h4, h3, hlt, edge_in hA (by omega) (by omega) h4 h3⟩
  · have h4 : i' = 0 ∨ edge A (i' - 1) ≤ q := a1.imp_right fun h => by omega
    exact ⟨ia, h4, h1, hlt, edge_in hA (by omega) ia h4 h1⟩
theorem Sift.step {k : Bool → Bool → Bool} {A B s s' : List Sp} {fr fr' : Int} {i j i' j' : Nat} {p q : Int} (hA : mayS A = true) (hB : mayS B = true) (h : Sift k A B s fr i j p) (hn : Nexts A B i j q i' j')
    (hs : (k (odd i') (odd j') = true ∧ fr = 0 ∧ fr' = q ∧ s' = s) ∨ (k (odd i') (odd j') = true ∧ 0 < fr ∧ fr' = fr ∧ s' = s) ∨ (k (odd i') (odd j') = false ∧ 0 < fr ∧ fr' = 0 ∧ s' = s ++ [(fr, q - 1)]) ∨ (k (odd i') (odd j') = false ∧ fr = 0 ∧ fr' = 0 ∧ s' = s)) :
    Sift k A B s' fr' i' j' q := by
  obtain ⟨n1, n2, n3, n4⟩ := hn
  have hpq : p < q := by
    have := h.a2
    have := h.b2
    omega
  obtain ⟨a1, a2, a3, a4, a5⟩ := side_step hA h.ia h.a1 h.a2 n3 n1 (by omega)
  obtain ⟨b1, b2, b3, b4, b5⟩ := side_step hB h.jb h.b1 h.b2 n3 n2 (by omega)
  have hlow := h.low
  have hfr := h.fr0 hA
  have hsq : ∀ v, p ≤ v → inS s v = false := fun v hv => inS_false fun x hx _ h2 => by
    have := h.past x hx
    omega
  have hall : ∀ v, v < q → k (inS A v) (inS B v) = (inS s v || (decide (0 < fr) && decide (fr ≤ v))) := fun v hv => by
    rcases Int.lt_or_le p v with hp | hp
    · rw [a4 v (by omega) hv, b4 v (by omega) hv, hsq v (by omega), Bool.false_or]
      cases hk : k (odd i) (odd j) with
      | true =>
        have := h.on hk
        rw [decide_eq_true this.1, decide_eq_true (by omega : fr ≤ v)]
        rfl
      | false =>
        rw [h.off hk]
        rfl
    · exact h.all v hp
  have hq : k (inS A q) (inS B q) = k (odd i') (odd j') := by rw [a5, b5]
  rcases hs with ⟨hk, rfl, rfl, rfl⟩ | ⟨hk, hf, rfl, rfl⟩ | ⟨hk, hf, rfl, rfl⟩ | ⟨hk, rfl, rfl, rfl⟩
  · refine ⟨by omega, a1, b1, a2, a3, b2, b3, fun _ => ⟨by omega, Int.le_refl _⟩, fun e => (by rw [hk] at e; cases e), h.may, fun x hx => (by have := h.past x hx; omega), fun _ x hx => (by have := h.past x hx; omega), fun v hv => ?_⟩
    rcases Int.lt_or_le v fr' with hv' | hv'
    · rw [hall v hv', decide_eq_false (by omega : ¬ fr' ≤ v)]
      simp
    · obtain rfl : v = fr' := by omega
      rw [hq, hk, decide_eq_true (by omega : 0 < v), decide_eq_true (Int.le_refl v)]
      simp
  · refine ⟨by omega, a1, b1, a2, a3, b2, b3, fun _ => ⟨hf, ?_⟩, fun e => (by rw [hk] at e; cases e), h.may, fun x hx => (by have := h.past x hx; omega), h.ahead, fun v hv => ?_⟩
    · cases hk0 : k (odd i) (odd j) with
      | true =>
        have := h.on hk0
        omega
      | false =>
        have := h.off hk0
        omega
    · rcases Int.lt_or_le v q with hv' | hv'
      · exact hall v hv'
      · obtain rfl : v = q := by omega
        have : fr' ≤ v := by
          cases hk0 : k (odd i) (odd j) with
          | true =>
            have := h.on hk0
            omega
          | false =>
            have := h.off hk0
            omega
        rw [hq, hk, decide_eq_true hf, decide_eq_true this]
        simp
  · have hfp : fr ≤ p := by
      cases hk0 : k (odd i) (odd j) with
      | true => exact (h.on hk0).2
      | false =>
        have := h.off hk0
        omega
    refine ⟨by omega, a1, b1, a2, a3, b2, b3, fun e => (by rw [hk] at e; cases e), fun _ => rfl, mayF_snoc h.may (h.ahead hf) (by show (-1 : Int) + 1 < fr; omega) (by show fr ≤ q - 1; omega) (by show q - 1 ≤ 200; omega), fun x hx => ?_, fun e => absurd e (by omega), fun v hv => ?_⟩
    · rcases List.mem_append.1 hx with hx | hx
      · have := h.past x hx
        omega
      · obtain rfl : x = (fr, q - 1) := by simpa using hx
        show q - 1 + 1 ≤ q
        omega
    · rw [inS_app, inS_cons, inS_nil, Bool.or_false]
      show k (inS A v) (inS B v) = ((inS s v || (decide (fr ≤ v) && decide (v ≤ q - 1))) || (decide ((0 : Int) < 0) && decide (0 ≤ v)))
      rcases Int.lt_or_le v q with hv' | hv'
      · rw [hall v hv', decide_eq_true hf, decide_eq_true (by omega : v ≤ q - 1)]
        simp
      · obtain rfl : v = q := by omega
        rw [hq, hk, hsq v (by omega), decide_eq_false (by omega : ¬ v ≤ v - 1)]
        simp
  · refine ⟨by omega, a1, b1, a2, a3, b2, b3, fun e => (by rw [hk] at e; cases e), fun _ => rfl, h.may, fun x hx => (by have := h.past x hx; omega), fun e => absurd e (by omega), fun v hv => ?_⟩
    rcases Int.lt_or_le v q with hv' | hv'
    · exact hall v hv'
    · obtain rfl : v = q := by omega
      rw [hq, hk, hsq v (by omega)]
      simp
theorem Sift.done {k : Bool → Bool → Bool} {A B s : List Sp} {fr : Int} {p : Int} (hA : mayS A = true) (hB : mayS B = true) (hk : k false false = false) (h : Sift k A B s fr (2 * A.length) (2 * B.length) p) : ∀ v, inS s v = k (inS A v) (inS B v) := by
  have o : ∀ n, odd (2 * n) = false := fun n => decide_eq_false (by omega)
  have hf : fr = 0 := h.off (by rw [o, o, hk])
  intro v
  rcases Int.lt_or_le p v with hp | hp
  · have hs : inS s v = false := inS_false fun x hx _ h2 => by
      have := h.past x hx
      omega
    have side : ∀ {C : List Sp}, mayS C = true → (2 * C.length = 0 ∨ edge C (2 * C.length - 1) ≤ p) → inS C v = false := fun {C} hC c1 => by
      rcases Int.lt_or_le v 202 with hv | hv
      · rw [edge_in hC (by omega) (Nat.le_refl _) (c1.imp_right fun h => by omega) (by rw [edge_end C _ (Nat.le_refl _)]; exact hv), o]
      · exact mayS_high hC (by omega)
    rw [hs, side hA h.a1, side hB h.b1, hk]
  · rw [h.all v hp, hf]
    simp

/-- A set with the next version at its end. -/
def growS (l : List Sp) (v : Int) : List Sp :=
  match l.getLast? with
  | some x => if x.2 = v - 1 then l.dropLast ++ [(x.1, v)] else l ++ [(v, v)]
  | none => [(v, v)]
/-- The set of the versions from 1 up to n that are told of. -/
def setTo (g : Int → Bool) : Nat → List Sp
  | 0 => []
  | n + 1 => if g ((n + 1 : Nat) : Int) = true then growS (setTo g n) ((n + 1 : Nat) : Int) else setTo g n
def setF (g : Int → Bool) : List Sp := setTo g 200
theorem growS_nil (v : Int) : growS [] v = [(v, v)] := rfl
theorem growS_on {l : List Sp} {x : Sp} {v : Int} (h : x.2 = v - 1) : growS (l ++ [x]) v = l ++ [(x.1, v)] := by
  unfold growS
  rw [List.getLast?_append, List.getLast?_singleton, Option.some_or]
  show (if x.2 = v - 1 then (l ++ [x]).dropLast ++ [(x.1, v)] else l ++ [x] ++ [(v, v)]) = _
  rw [if_pos h, List.dropLast_concat]
theorem growS_new {l : List Sp} {x : Sp} {v : Int} (h : x.2 ≠ v - 1) : growS (l ++ [x]) v = l ++ [x] ++ [(v, v)] := by
  unfold growS
  rw [List.getLast?_append, List.getLast?_singleton, Option.some_or]
  show (if x.2 = v - 1 then (l ++ [x]).dropLast ++ [(x.1, v)] else l ++ [x] ++ [(v, v)]) = _
  rw [if_neg h]
theorem snoc_of {α : Type} {l : List α} (h : l ≠ []) : ∃ m x, l = m ++ [x] := ⟨l.dropLast, l.getLast h, (List.dropLast_concat_getLast h).symm⟩
/-- A set up to n: what it is. -/
structure UpTo (l : List Sp) (g : Int → Bool) (n : Nat) : Prop where
  may : mayS l = true
  top : ∀ x ∈ l, x.2 ≤ (n : Int)
  all : ∀ v, inS l v = ((decide (1 ≤ v) && decide (v ≤ (n : Int))) && g v)
theorem UpTo.zero (g : Int → Bool) : UpTo [] g 0 := by
  refine ⟨rfl, fun x hx => (by cases hx), fun v => ?_⟩
  rw [inS_nil]
  rcases Int.lt_or_le 0 v with h | h
  · rw [decide_eq_false (by omega : ¬ v ≤ ((0 : Nat) : Int)), Bool.and_false, Bool.false_and]
  · rw [decide_eq_false (by omega : ¬ 1 ≤ v), Bool.false_and, Bool.false_and]
theorem UpTo.skip {l : List Sp} {g : Int → Bool} {n : Nat} (h : UpTo l g n) (hg : g ((n + 1 : Nat) : Int) = false) : UpTo l g (n + 1) := by
  refine ⟨h.may, fun x hx => (by have := h.top x hx; omega), fun v => ?_⟩
  rw [h.all v]
  by_cases hv : v = ((n + 1 : Nat) : Int)
  · rw [hv, hg, Bool.and_false, Bool.and_false]
  · congr 2
    rw [decide_eq_decide]
    omega
theorem grow_all {l : List Sp} {g : Int → Bool} {n : Nat} (h : UpTo l g n) (hg : g ((n + 1 : Nat) : Int) = true) (v : Int) : (inS l v || decide (v = ((n + 1 : Nat) : Int))) = ((decide (1 ≤ v) && decide (v ≤ ((n + 1 : Nat) : Int))) && g v) := by
  rw [h.all v]
  by_cases hv : v = ((n + 1 : Nat) : Int)
  · rw [hv, hg, decide_eq_true rfl, decide_eq_true (by omega : (1 : Int) ≤ ((n + 1 : Nat) : Int)), decide_eq_true (Int.le_refl _)]
    simp
  · rw [decide_eq_false hv, Bool.or_false]
    congr 2
    rw [decide_eq_decide]
    omega
theorem UpTo.grow {l : List Sp} {g : Int → Bool} {n : Nat} (h : UpTo l g n) (hg : g ((n + 1 : Nat) : Int) = true) (hn : n < 200) : UpTo (growS l ((n + 1 : Nat) : Int)) g (n + 1) := by
  have hall := grow_all h hg
  by_cases he : l = []
  · subst he
    rw [growS_nil]
    refine ⟨mayF_cons.2 ⟨by show ((n + 1 : Nat) : Int) ≤ 200; omega, Int.le_refl _, by show (-1 : Int) + 1 < ((n + 1 : Nat) : Int); omega, rfl⟩, fun x hx => ?_, fun v => ?_⟩
    · obtain rfl : x = (((n + 1 : Nat) : Int), ((n + 1 : Nat) : Int)) := by simpa using hx
      exact Int.le_refl _
    · rw [← hall v, inS_cons, inS_nil, Bool.or_false, Bool.false_or]
      show (decide (((n + 1 : Nat) : Int) ≤ v) && decide (v ≤ ((n + 1 : Nat) : Int))) = _
      rw [← Bool.decide_and, decide_eq_decide]
      omega
  · obtain ⟨m, x, rfl⟩ := snoc_of he
    have hs := mayF_split (m := []) h.may
    have ht := h.top x (by simp)
    by_cases hx : x.2 = ((n + 1 : Nat) : Int) - 1
    · rw [growS_on hx]
      have hmm : mayF (-1) m = true := by
        have hmay := h.may
        clear h hall he ht hx hs hg
        unfold mayS at hmay
        revert hmay
        generalize (-1 : Int) = a
        intro hmay
        induction m generalizing a with
        | nil => rfl
        | cons y m ih =>
          rw [List.cons_append] at hmay
          obtain ⟨y1, y2, y3, y4⟩ := mayF_cons.1 hmay
          exact mayF_cons.2 ⟨y1, y2, y3, ih y.2 y4⟩
      refine ⟨mayF_snoc hmm hs.1 (by have := hs.2.2.2.2; show (-1 : Int) + 1 < x.1; omega) (by show x.1 ≤ ((n + 1 : Nat) : Int); have := hs.2.2.2.1; omega) (by show ((n + 1 : Nat) : Int) ≤ 200; omega), fun y hy => ?_, fun v => ?_⟩
      · rcases List.mem_append.1 hy with hy | hy
        · have := h.top y (List.mem_append_left _ hy)
          omega
        · obtain rfl : y = (x.1, ((n + 1 : Nat) : Int)) := by simpa using hy
          exact Int.le_refl _
      · rw [← hall v, inS_app, inS_app, inS_cons, inS_cons, inS_nil, Bool.or_false, Bool.or_false, Bool.or_assoc]
        congr 1
        show (decide (x.1 ≤ v) && decide (v ≤ ((n + 1 : Nat) : Int))) = _
        rw [← Bool.decide_and, ← Bool.decide_and, ← Bool.decide_or, decide_eq_decide]
        have := hs.2.2.2.1
        omega
    · rw [growS_new hx]
      refine ⟨mayF_snoc h.may (fun y hy => ?_) (by show (-1 : Int) + 1 < ((n + 1 : Nat) : Int); omega) (Int.le_refl _) (by show ((n + 1 : Nat) : Int) ≤ 200; omega), fun y hy => ?_, fun v => ?_⟩
      · show y.2 + 1 < ((n + 1 : Nat) : Int)
        rcases List.mem_append.1 hy with hy | hy
        · have h1 := hs.1 y hy
          have h2 := hs.2.2.2.1
          omega
        · obtain rfl : y = x := by simpa using hy
          omega
      · rcases List.mem_append.1 hy with hy | hy
        · have := h.top y hy
          omega
        · obtain rfl : y = (((n + 1 : Nat) : Int), ((n + 1 : Nat) : Int)) := by simpa using hy
          exact Int.le_refl _
      · rw [← hall v, inS_app, inS_cons, inS_nil, Bool.or_false]
        congr 1
        show (decide (((n + 1 : Nat) : Int) ≤ v) && decide (v ≤ ((n + 1 : Nat) : Int))) = _
        rw [← Bool.decide_and, decide_eq_decide]
        omega
theorem setTo_up (g : Int → Bool) : ∀ n, n ≤ 200 → UpTo (setTo g n) g n
  | 0, _ => UpTo.zero g
  | n + 1, h => by
    have ih := setTo_up g n (by omega)
    rw [setTo]
    by_cases hg : g ((n + 1 : Nat) : Int) = true
    · rw [if_pos hg]
      exact ih.grow hg (by omega)
    · rw [if_neg hg]
      exact ih.skip (by simpa using hg)
theorem setF_may (g : Int → Bool) : mayS (setF g) = true := (setTo_up g 200 (Nat.le_refl _)).may
theorem setF_in (g : Int → Bool) (v : Int) : inS (setF g) v = ((decide (1 ≤ v) && decide (v ≤ 200)) && g v) := (setTo_up g 200 (Nat.le_refl _)).all v
theorem setF_of {l : List Sp} {g : Int → Bool} (hl : mayS l = true) (h : ∀ v, 1 ≤ v → v ≤ 200 → inS l v = g v) : l = setF g := by
  refine canonS hl (setF_may g) fun v => ?_
  rw [setF_in]
  by_cases h1 : 1 ≤ v
  · by_cases h2 : v ≤ 200
    · rw [h v h1 h2, decide_eq_true h1, decide_eq_true h2]
      rfl
    · rw [decide_eq_false h2, mayS_high hl (by omega), Bool.and_false, Bool.false_and]
  · rw [decide_eq_false h1, mayS_low hl (by omega), Bool.false_and, Bool.false_and]
theorem setF_self {l : List Sp} (hl : mayS l = true) : setF (inS l) = l := (setF_of hl fun _ _ _ => rfl).symm
theorem setF_ext {g h : Int → Bool} (e : ∀ v, 1 ≤ v → v ≤ 200 → g v = h v) : setF g = setF h :=
  setF_of (setF_may g) fun v h1 h2 => by rw [setF_in, decide_eq_true h1, decide_eq_true h2, e v h1 h2]; rfl
/-- Two sets put together, if both are sets. -/
def putS (k : Bool → Bool → Bool) (A B : List Sp) : List Sp := if (mayS A && mayS B) = true then setF (fun v => k (inS A v) (inS B v)) else []
theorem putS_may (k : Bool → Bool → Bool) (A B : List Sp) : mayS (putS k A B) = true := by
  unfold putS
  split
  · exact setF_may _
  · rfl
theorem putS_in {k : Bool → Bool → Bool} {A B : List Sp} (hA : mayS A = true) (hB : mayS B = true) (hk : k false false = false) (v : Int) : inS (putS k A B) v = k (inS A v) (inS B v) := by
  unfold putS
  rw [hA, hB, show (true && true) = true from rfl, if_pos rfl, setF_in]
  by_cases h1 : 1 ≤ v
  · by_cases h2 : v ≤ 200
    · rw [decide_eq_true h1, decide_eq_true h2]
      rfl
    · rw [decide_eq_false h2, mayS_high hA (by omega), mayS_high hB (by omega), hk, Bool.and_false]
  · rw [decide_eq_false h1, mayS_low hA (by omega), mayS_low hB (by omega), hk, Bool.and_false]
theorem putS_none {k : Bool → Bool → Bool} {A B : List Sp} (h : (mayS A && mayS B) = false) : putS k A B = [] := by
  unfold putS
  rw [h]
  rfl
theorem Sift.put {k : Bool → Bool → Bool} {A B s : List Sp} {fr : Int} {p : Int} (hA : mayS A = true) (hB : mayS B = true) (hk : k false false = false) (h : Sift k A B s fr (2 * A.length) (2 * B.length) p) : s = putS k A B :=
  canonS h.may (putS_may k A B) fun v => by rw [putS_in hA hB hk, h.done hA hB hk]
end Go.Proofs.YtiolchdfjlffoaaDoor
