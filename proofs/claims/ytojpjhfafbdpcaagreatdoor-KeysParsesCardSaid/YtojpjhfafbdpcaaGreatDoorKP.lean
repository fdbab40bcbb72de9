/-
  Key specifications by definition: rules, their text, what a text is read as, where they may stand. Of no program. No condition.
-/
import Derived.Test.YtojpjhfafbdpcaaGreatDoorPureSides
namespace Go.Proofs.YtojpjhfafbdpcaaGreatDoor
open Go.RowKit Go.Lib

/-- A rule. -/
structure Rl where
  path : List (List UInt8)
  keys : List (List UInt8)
theorem Rl.eq {a b : Rl} (h : a.path = b.path) (k : a.keys = b.keys) : a = b := by
  cases a
  cases b
  simp only at h k
  rw [h, k]

/-- A text at each of a byte. -/
def pieces (c : UInt8) : List UInt8 → List (List UInt8)
  | [] => [[]]
  | b :: t => if b = c then [] :: pieces c t else (b :: (pieces c t).headD []) :: (pieces c t).tail
theorem pieces_ne (c : UInt8) : ∀ l, pieces c l ≠ []
  | [] => by rw [pieces]; exact List.cons_ne_nil _ _
  | b :: t => by
    rw [pieces]
    split <;> exact List.cons_ne_nil _ _
theorem pieces_form (c : UInt8) (l : List UInt8) : pieces c l = (pieces c l).headD [] :: (pieces c l).tail := by
  cases h : pieces c l with
  | nil => exact absurd h (pieces_ne c l)
  | cons p ps => rfl
theorem pieces_at (c : UInt8) (t : List UInt8) : pieces c (c :: t) = [] :: pieces c t := by rw [pieces, if_pos rfl]
theorem pieces_on {c b : UInt8} (h : b ≠ c) (t : List UInt8) : pieces c (b :: t) = (b :: (pieces c t).headD []) :: (pieces c t).tail := by rw [pieces, if_neg h]
theorem pieces_app {c : UInt8} : ∀ {p : List UInt8}, c ∉ p → ∀ t, pieces c (p ++ c :: t) = p :: pieces c t
  | [], _, t => pieces_at c t
  | b :: p, h, t => by
    have hb : b ≠ c := fun e => h (by rw [e]; exact List.mem_cons_self ..)
    rw [List.cons_append, pieces_on hb, pieces_app (fun e => h (List.mem_cons_of_mem _ e)) t]
    rfl
theorem pieces_clean {c : UInt8} : ∀ {p : List UInt8}, c ∉ p → pieces c p = [p]
  | [], _ => rfl
  | b :: p, h => by
    have hb : b ≠ c := fun e => h (by rw [e]; exact List.mem_cons_self ..)
    rw [pieces_on hb, pieces_clean (fun e => h (List.mem_cons_of_mem _ e))]
    rfl
theorem pieces_mem {c : UInt8} : ∀ {l p : List UInt8}, p ∈ pieces c l → ∀ b ∈ p, b ∈ l ∧ b ≠ c
  | [], p, h, b, hb => by
    rw [pieces, List.mem_singleton] at h
    rw [h] at hb
    cases hb
  | x :: t, p, h, b, hb => by
    rw [pieces] at h
    by_cases hx : x = c
    · rw [if_pos hx] at h
      rcases List.mem_cons.1 h with rfl | h
      · cases hb
      · exact ⟨List.mem_cons_of_mem _ (pieces_mem h b hb).1, (pieces_mem h b hb).2⟩
    · rw [if_neg hx] at h
      have hf := pieces_form c t
      rcases List.mem_cons.1 h with rfl | h
      · rcases List.mem_cons.1 hb with rfl | hb
        · exact ⟨List.mem_cons_self .., hx⟩
        · have := pieces_mem (c := c) (l := t) (p := (pieces c t).headD []) (by rw [hf]; exact List.mem_cons_self ..) b hb
          exact ⟨List.mem_cons_of_mem _ this.1, this.2⟩
      · have := pieces_mem (c := c) (l := t) (p := p) (by rw [hf]; exact List.mem_cons_of_mem _ h) b hb
        exact ⟨List.mem_cons_of_mem _ this.1, this.2⟩
theorem pieces_size (c : UInt8) : ∀ l : List UInt8, (pieces c l).length + ((pieces c l).map List.length).sum = l.length + 1
  | [] => rfl
  | x :: t => by
    have ih := pieces_size c t
    by_cases hx : x = c
    · rw [hx, pieces_at, List.length_cons, List.map_cons, List.sum_cons, List.length_nil, List.length_cons]
      omega
    · have hf := pieces_form c t
      rw [pieces_on hx, List.length_cons, List.map_cons, List.sum_cons, List.length_cons, List.length_cons]
      rw [hf, List.length_cons, List.map_cons, List.sum_cons] at ih
      omega
theorem sum_mem {l : List (List UInt8)} {p : List UInt8} (h : p ∈ l) : p.length ≤ (l.map List.length).sum := by
  induction l with
  | nil => cases h
  | cons x t ih =>
    rw [List.map_cons, List.sum_cons]
    rcases List.mem_cons.1 h with rfl | h
    · omega
    · have := ih h
      omega
theorem pieces_short {c : UInt8} {l p : List UInt8} (h : p ∈ pieces c l) : p.length ≤ l.length := by
  have h1 := pieces_size c l
  have h2 := sum_mem h
  have h3 : 1 ≤ (pieces c l).length := by rw [pieces_form c l, List.length_cons]; omega
  omega
theorem pieces_few (c : UInt8) (l : List UInt8) : (pieces c l).length ≤ l.length + 1 := by
  have := pieces_size c l
  omega

/-- Texts with another one between. -/
def joinB (sep : List UInt8) : List (List UInt8) → List UInt8
  | [] => []
  | [x] => x
  | x :: y :: t => x ++ (sep ++ joinB sep (y :: t))
theorem joinB_cons (sep x y : List UInt8) (t : List (List UInt8)) : joinB sep (x :: y :: t) = x ++ (sep ++ joinB sep (y :: t)) := by rw [joinB]
theorem pieces_join {c : UInt8} : ∀ {ps : List (List UInt8)}, ps ≠ [] → (∀ p ∈ ps, c ∉ p) → pieces c (joinB [c] ps) = ps
  | [], h, _ => absurd rfl h
  | [p], _, h => by
    rw [joinB]
    exact pieces_clean (h p (List.mem_cons_self ..))
  | p :: q :: t, _, h => by
    rw [joinB_cons, List.singleton_append, pieces_app (h p (List.mem_cons_self ..)), pieces_join (List.cons_ne_nil _ _) (fun x hx => h x (List.mem_cons_of_mem _ hx))]
theorem join_pieces (c : UInt8) : ∀ l, joinB [c] (pieces c l) = l
  | [] => rfl
  | x :: t => by
    have ih := join_pieces c t
    by_cases hx : x = c
    · rw [hx, pieces_at]
      rw [pieces_form c t] at ih ⊢
      rw [joinB_cons, ih]
      rfl
    · rw [pieces_on hx]
      rw [pieces_form c t] at ih
      cases hq : (pieces c t).tail with
      | nil =>
        rw [hq, joinB] at ih
        rw [joinB, ih]
      | cons q qs =>
        rw [hq, joinB_cons] at ih
        rw [joinB_cons, List.cons_append, ih]
theorem joinB_mem {sep : List UInt8} {b : UInt8} : ∀ {ps : List (List UInt8)}, b ∈ joinB sep ps → b ∈ sep ∨ ∃ p ∈ ps, b ∈ p
  | [], h => by rw [joinB] at h; cases h
  | [p], h => by rw [joinB] at h; exact .inr ⟨p, List.mem_cons_self .., h⟩
  | p :: q :: t, h => by
    rw [joinB_cons] at h
    rcases List.mem_append.1 h with h | h
    · exact .inr ⟨p, List.mem_cons_self .., h⟩
    · rcases List.mem_append.1 h with h | h
      · exact .inl h
      · rcases joinB_mem h with h | ⟨x, hx, hb⟩
        · exact .inl h
        · exact .inr ⟨x, List.mem_cons_of_mem _ hx, hb⟩
theorem joinB_size (sep : List UInt8) : ∀ ps : List (List UInt8), (joinB sep ps).length ≤ (ps.map List.length).sum + sep.length * ps.length
  | [] => by rw [joinB]; exact Nat.zero_le _
  | [p] => by
    rw [joinB, List.map_cons, List.sum_cons]
    omega
  | p :: q :: t => by
    have ih := joinB_size sep (q :: t)
    rw [joinB_cons, List.length_append, List.length_append, List.map_cons, List.sum_cons, List.length_cons, Nat.mul_add, Nat.mul_one]
    omega

/-- A name that may have an @ ahead. -/
def stripAt (x : List UInt8) : List UInt8 := if x.head? = some 64 then x.tail else x
def keyGo : List (List UInt8) → Bool
  | [] => true
  | [x] => nameW (stripAt x)
  | x :: y :: t => nameW x && keyGo (y :: t)
/-- May a key's path be? -/
def keyW (k : List UInt8) : Bool := k == [46] || keyGo (pieces 47 k)
/-- Keys, none of which was there already. -/
def freshGo (seen : List (List UInt8)) : List (List UInt8) → Bool
  | [] => true
  | x :: t => !seen.contains x && keyW x && freshGo (seen ++ [x]) t
theorem freshGo_snoc : ∀ (l seen : List (List UInt8)) (x : List UInt8), freshGo seen (l ++ [x]) = (freshGo seen l && (!(seen ++ l).contains x && keyW x))
  | [], seen, x => by
    rw [List.nil_append, List.append_nil, freshGo, freshGo, freshGo, Bool.and_true, Bool.true_and]
  | y :: t, seen, x => by
    rw [List.cons_append, freshGo, freshGo, freshGo_snoc t (seen ++ [y]) x, List.append_assoc, List.singleton_append]
    simp only [Bool.and_assoc]
theorem freshGo_keys : ∀ {l seen : List (List UInt8)}, freshGo seen l = true → ∀ k ∈ l, keyW k = true
  | [], _, _, k, hk => by cases hk
  | x :: t, seen, h, k, hk => by
    rw [freshGo, Bool.and_eq_true, Bool.and_eq_true] at h
    rcases List.mem_cons.1 hk with rfl | hk
    · exact h.1.2
    · exact freshGo_keys h.2 k hk
/-- May a rule be, for itself? -/
def ruleW (r : Rl) : Bool := freshGo [] r.keys && r.path.all nameW && (decide (1 < r.path.length) || (decide (r.path.length = 1) && r.keys.isEmpty))
theorem ruleW_path {r : Rl} (h : ruleW r = true) : r.path ≠ [] := by
  intro h0
  unfold ruleW at h
  rw [h0] at h
  simp at h
theorem ruleW_names {r : Rl} (h : ruleW r = true) : ∀ p ∈ r.path, nameW p = true := by
  unfold ruleW at h
  rw [Bool.and_eq_true, Bool.and_eq_true] at h
  exact fun p hp => List.all_eq_true.1 h.1.2 p hp
theorem ruleW_keys {r : Rl} (h : ruleW r = true) : ∀ k ∈ r.keys, keyW k = true := by
  unfold ruleW at h
  rw [Bool.and_eq_true, Bool.and_eq_true] at h
  exact freshGo_keys h.1.1
def has (l : List Rl) (p : List (List UInt8)) : Bool := l.any fun r => r.path == p
/-- May the rule of a path stand behind others? -/
def placedW (l : List Rl) (p : List (List UInt8)) : Bool := if p.length = 1 then l.isEmpty else has l p.dropLast && !has l p
def mayGo (pre : List Rl) : List Rl → Bool
  | [] => true
  | r :: t => ruleW r && placedW pre r.path && mayGo (pre ++ [r]) t
theorem mayGo_snoc : ∀ (l pre : List Rl) (x : Rl), mayGo pre (l ++ [x]) = (mayGo pre l && (ruleW x && placedW (pre ++ l) x.path))
  | [], pre, x => by
    rw [List.nil_append, List.append_nil, mayGo, mayGo, mayGo, Bool.and_true, Bool.true_and]
  | y :: t, pre, x => by
    rw [List.cons_append, mayGo, mayGo, mayGo_snoc t (pre ++ [y]) x, List.append_assoc, List.singleton_append]
    simp only [Bool.and_assoc]
/-- Are rules a specification? -/
def mayW (l : List Rl) : Bool := !l.isEmpty && decide (l.length ≤ 64) && mayGo [] l
/-- Is a path a frontier? -/
def frontW (l : List Rl) (p : List (List UInt8)) : Bool := has l p && !l.any fun r => decide (p.length < r.path.length) && r.path.take p.length == p
/-- A rule's line, and rules as a text. -/
def lineW (r : Rl) : List UInt8 := 47 :: (joinB [47] r.path ++ ([32, 123] ++ (joinB [44, 32] r.keys ++ [125])))
def textW : List Rl → List UInt8
  | [] => []
  | r :: t => lineW r ++ (10 :: textW t)
theorem textW_app : ∀ l m : List Rl, textW (l ++ m) = textW l ++ textW m
  | [], _ => rfl
  | r :: t, m => by rw [List.cons_append, textW, textW, textW_app t m, List.append_assoc, List.cons_append]
/-- Keys between braces. -/
def keysT (t : List UInt8) : List (List UInt8) := if trimL t = [] then [] else (pieces 44 t).map trimL
/-- A text as far as a byte, and behind it. -/
def cut1 (c : UInt8) : List UInt8 → List UInt8 × Option (List UInt8)
  | [] => ([], none)
  | b :: t => if b = c then ([], some t) else (b :: (cut1 c t).1, (cut1 c t).2)
/-- The rule of a line. -/
def readW (l : List UInt8) : Option Rl :=
  match cut1 123 l with
  | (p, some r) =>
    match trimL p with
    | b :: names => if b = 47 ∧ r.getLast? = some 125 ∧ ruleW ⟨pieces 47 names, keysT r.dropLast⟩ = true then some ⟨pieces 47 names, keysT r.dropLast⟩ else none
    | [] => none
  | (_, none) => none
theorem readW_rule {l : List UInt8} {r : Rl} (h : readW l = some r) : ruleW r = true := by
  unfold readW at h
  split at h
  · split at h
    · split at h
      · rename_i h1
        rw [← Option.some.inj h]
        exact h1.2.2
      · cases h
    · cases h
  · cases h
/-- Does a line count for nothing? -/
def idle (t : List UInt8) : Bool := t.isEmpty || t.head? == some 35
def goW : List (List UInt8) → Nat → List Rl → Except (Nat × Nat) (List Rl)
  | [], _, acc => if acc.isEmpty = true then .error (20, 0) else .ok acc
  | t :: ts, n, acc =>
    if idle t = true then goW ts (n + 1) acc
    else match readW t with
      | none => .error (20, n)
      | some r => if acc.length = 64 then .error (20, n) else if placedW acc r.path = true then goW ts (n + 1) (acc ++ [r]) else .error (21, n)
/-- What a text is read as, or its code and its line. -/
def parseW (s : List UInt8) : Except (Nat × Nat) (List Rl) := goW ((pieces 10 (eols s)).map trimL) 1 []

theorem goW_may : ∀ {ts : List (List UInt8)} {n : Nat} {acc l : List Rl}, goW ts n acc = .ok l → mayGo [] acc = true → acc.length ≤ 64 → mayW l = true
  | [], n, acc, l, h, hm, hl => by
    rw [goW] at h
    split at h
    · cases h
    · rename_i h0
      injection h with h
      subst h
      unfold mayW
      rw [hm, decide_eq_true hl]
      simpa using h0
  | t :: ts, n, acc, l, h, hm, hl => by
    rw [goW] at h
    split at h
    · exact goW_may h hm hl
    · split at h
      · cases h
      · rename_i r hr
        split at h
        · cases h
        · rename_i h64
          split at h
          · rename_i hp
            refine goW_may h ?_ (by rw [List.length_append]; simp; omega)
            rw [mayGo_snoc, hm, readW_rule hr, List.nil_append, hp]
            rfl
          · cases h
theorem parseW_may {s : List UInt8} {l : List Rl} (h : parseW s = .ok l) : mayW l = true := goW_may h rfl (Nat.zero_le _)

end Go.Proofs.YtojpjhfafbdpcaaGreatDoor
