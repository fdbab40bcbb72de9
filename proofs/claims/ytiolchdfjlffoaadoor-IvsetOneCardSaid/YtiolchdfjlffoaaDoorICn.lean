/-
  How many versions a set has, its first and its last, by definition. Of no program. No condition.
-/
import Derived.Test.YtiolchdfjlffoaaDoorIP
namespace Go.Proofs.YtiolchdfjlffoaaDoor

def sumS : List Sp → Int
  | [] => 0
  | x :: l => (x.2 - x.1 + 1) + sumS l
def firstS : List Sp → Int
  | [] => 0
  | x :: _ => x.1
def lastS (l : List Sp) : Int := match l.getLast? with
  | some x => x.2
  | none => 0
def cntTo (g : Int → Bool) : Nat → Int
  | 0 => 0
  | n + 1 => if g ((n + 1 : Nat) : Int) = true then cntTo g n + 1 else cntTo g n
def fstTo (g : Int → Bool) : Nat → Int
  | 0 => 0
  | n + 1 => if g ((n + 1 : Nat) : Int) = true ∧ fstTo g n = 0 then ((n + 1 : Nat) : Int) else fstTo g n
def lstTo (g : Int → Bool) : Nat → Int
  | 0 => 0
  | n + 1 => if g ((n + 1 : Nat) : Int) = true then ((n + 1 : Nat) : Int) else lstTo g n
theorem sumS_app : ∀ l m : List Sp, sumS (l ++ m) = sumS l + sumS m
  | [], m => by rw [List.nil_append, sumS, Int.zero_add]
  | x :: l, m => by
    rw [List.cons_append, sumS, sumS, sumS_app l m]
    omega
theorem sumS_snoc (l : List Sp) (x : Sp) : sumS (l ++ [x]) = sumS l + (x.2 - x.1 + 1) := by
  rw [sumS_app, sumS, sumS, Int.add_zero]
theorem lastS_snoc (l : List Sp) (x : Sp) : lastS (l ++ [x]) = x.2 := by
  unfold lastS
  rw [List.getLast?_append, List.getLast?_singleton]
  rfl
theorem grow_sum (l : List Sp) (v : Int) : sumS (growS l v) = sumS l + 1 ∧ lastS (growS l v) = v ∧ firstS (growS l v) = (if l = [] then v else firstS l) := by
  by_cases hl : l = []
  · subst hl
    rw [growS_nil]
    refine ⟨?_, rfl, rfl⟩
    rw [sumS, sumS]
    show (v - v + 1) + 0 = 0 + 1
    omega
  · obtain ⟨m, x, rfl⟩ := snoc_of hl
    rw [if_neg hl]
    by_cases hx : x.2 = v - 1
    · rw [growS_on hx, sumS_snoc, sumS_snoc, lastS_snoc]
      refine ⟨?_, rfl, ?_⟩
      · show sumS m + (v - x.1 + 1) = sumS m + (x.2 - x.1 + 1) + 1
        omega
      · cases m <;> rfl
    · rw [growS_new hx, sumS_snoc, sumS_snoc, lastS_snoc]
      refine ⟨?_, rfl, ?_⟩
      · show sumS m + (x.2 - x.1 + 1) + (v - v + 1) = sumS m + (x.2 - x.1 + 1) + 1
        omega
      · cases m <;> rfl
theorem setTo_sum (g : Int → Bool) : ∀ n, n ≤ 200 → sumS (setTo g n) = cntTo g n ∧ lastS (setTo g n) = lstTo g n ∧ firstS (setTo g n) = fstTo g n ∧ (setTo g n = [] ↔ fstTo g n = 0)
  | 0, _ => ⟨rfl, rfl, rfl, ⟨fun _ => rfl, fun _ => rfl⟩⟩
  | n + 1, hn => by
    obtain ⟨h1, h2, h3, h4⟩ := setTo_sum g n (by omega)
    rw [setTo, cntTo, lstTo, fstTo]
    by_cases hg : g ((n + 1 : Nat) : Int) = true
    · rw [if_pos hg, if_pos hg, if_pos hg]
      obtain ⟨k1, k2, k3⟩ := grow_sum (setTo g n) ((n + 1 : Nat) : Int)
      refine ⟨by rw [k1, h1], k2, ?_, ?_⟩
      · rw [k3]
        by_cases he : setTo g n = []
        · rw [if_pos he, if_pos ⟨hg, h4.1 he⟩]
        · rw [if_neg he, if_neg (fun e => he (h4.2 e.2)), h3]
      · constructor
        · intro e
          rw [e] at k1
          have hs : sumS (setTo g n) + 1 = 0 := k1.symm
          have hp : 0 ≤ cntTo g n := by
            clear h1 h2 h3 h4 k1 k2 k3 e hs hg hn
            induction n with
            | zero => exact Int.le_refl _
            | succ n ih =>
              rw [cntTo]
              split <;> omega
          omega
        · intro e
          exfalso
          by_cases he : fstTo g n = 0
          · rw [if_pos ⟨hg, he⟩] at e
            omega
          · rw [if_neg (fun e => he e.2)] at e
            exact he e
    · rw [if_neg hg, if_neg hg, if_neg hg, if_neg (fun e => hg e.1)]
      exact ⟨h1, h2, h3, h4⟩
theorem cntTo_ext {g h : Int → Bool} : ∀ {n : Nat}, (∀ v : Int, 1 ≤ v → v ≤ (n : Int) → g v = h v) → cntTo g n = cntTo h n
  | 0, _ => rfl
  | n + 1, e => by
    rw [cntTo, cntTo, e _ (by omega) (Int.le_refl _), cntTo_ext (fun v h1 h2 => e v h1 (by omega))]
theorem fstTo_ext {g h : Int → Bool} : ∀ {n : Nat}, (∀ v : Int, 1 ≤ v → v ≤ (n : Int) → g v = h v) → fstTo g n = fstTo h n
  | 0, _ => rfl
  | n + 1, e => by
    rw [fstTo, fstTo, e _ (by omega) (Int.le_refl _), fstTo_ext (fun v h1 h2 => e v h1 (by omega))]
theorem lstTo_ext {g h : Int → Bool} : ∀ {n : Nat}, (∀ v : Int, 1 ≤ v → v ≤ (n : Int) → g v = h v) → lstTo g n = lstTo h n
  | 0, _ => rfl
  | n + 1, e => by
    rw [lstTo, lstTo, e _ (by omega) (Int.le_refl _), lstTo_ext (fun v h1 h2 => e v h1 (by omega))]
theorem cnt_of {l : List Sp} (h : mayS l = true) : sumS l = cntTo (inS l) 200 ∧ lastS l = lstTo (inS l) 200 ∧ firstS l = fstTo (inS l) 200 := by
  have := setTo_sum (inS l) 200 (Nat.le_refl _)
  have e : setTo (inS l) 200 = l := setF_self h
  rw [e] at this
  exact ⟨this.1, this.2.1, this.2.2.1⟩
/-- Count, First, Last of a row of spans: 0 of what is no set. -/
def cntS (l : List Sp) : Int := if mayS l = true then sumS l else 0
def fstS (l : List Sp) : Int := if mayS l = true then firstS l else 0
def lstS (l : List Sp) : Int := if mayS l = true then lastS l else 0
theorem cntTo_none {g : Int → Bool} : ∀ {n : Nat}, (∀ v : Int, 1 ≤ v → v ≤ (n : Int) → g v = false) → cntTo g n = 0 ∧ fstTo g n = 0 ∧ lstTo g n = 0
  | 0, _ => ⟨rfl, rfl, rfl⟩
  | n + 1, e => by
    have hg := e ((n + 1 : Nat) : Int) (by omega) (Int.le_refl _)
    have hn : ¬ g ((n + 1 : Nat) : Int) = true := by rw [hg]; exact Bool.false_ne_true
    rw [cntTo, fstTo, lstTo, if_neg hn, if_neg hn, if_neg (fun e => hn e.1)]
    exact cntTo_none (fun v h1 h2 => e v h1 (by omega))
/-- .. told by its flags. -/
theorem cnt_flags (l : List Sp) : cntS l = cntTo (fun v => mayS l && inS l v) 200 ∧ fstS l = fstTo (fun v => mayS l && inS l v) 200 ∧ lstS l = lstTo (fun v => mayS l && inS l v) 200 := by
  unfold cntS fstS lstS
  cases h : mayS l with
  | true =>
    obtain ⟨h1, h2, h3⟩ := cnt_of h
    refine ⟨?_, ?_, ?_⟩
    · rw [if_pos rfl, h1]; exact cntTo_ext (fun _ _ _ => rfl)
    · rw [if_pos rfl, h3]; exact fstTo_ext (fun _ _ _ => rfl)
    · rw [if_pos rfl, h2]; exact lstTo_ext (fun _ _ _ => rfl)
  | false =>
    obtain ⟨h1, h2, h3⟩ := cntTo_none (g := fun v => false && inS l v) (n := 200) (fun _ _ _ => rfl)
    exact ⟨h1.symm, h2.symm, h3.symm⟩
theorem cntTo_bound (g : Int → Bool) : ∀ n : Nat, 0 ≤ cntTo g n ∧ cntTo g n ≤ (n : Int)
  | 0 => ⟨Int.le_refl _, Int.le_refl _⟩
  | n + 1 => by
    have := cntTo_bound g n
    rw [cntTo]
    split <;> omega
theorem cntTo_two (g h : Int → Bool) : ∀ n : Nat, cntTo (fun v => g v || h v) n + cntTo (fun v => g v && h v) n = cntTo g n + cntTo h n
  | 0 => rfl
  | n + 1 => by
    have := cntTo_two g h n
    rw [cntTo, cntTo, cntTo, cntTo]
    cases hg : g ((n + 1 : Nat) : Int) <;> cases hh : h ((n + 1 : Nat) : Int) <;> simp <;> omega
end Go.Proofs.YtiolchdfjlffoaaDoor
