/-
  A scan's steps go forward: what is left behind a step is an end of what was left ahead of it. Of no program. No condition.
-/
import Derived.Test.YtemohjodihcdfaaGreatDoorXN
import Derived.Test.YtemohjodihcdfaaGreatDoorXU
namespace Go.Proofs.YtemohjodihcdfaaGreatDoor

/-- What is left is an end of what was left. -/
def Sx.Fwd {α : Type} (i : Nat) (r : List UInt8) (s : Sx α) : Prop := ∀ x j t, s = .ok x j t → ∃ p : List UInt8, r = p ++ t ∧ j = i + p.length
/-- .. and shorter. -/
def Sx.Fwd1 {α : Type} (i : Nat) (r : List UInt8) (s : Sx α) : Prop := ∀ x j t, s = .ok x j t → ∃ p : List UInt8, r = p ++ t ∧ j = i + p.length ∧ 0 < p.length
theorem Sx.Fwd1.fwd {α : Type} {i : Nat} {r : List UInt8} {s : Sx α} (h : s.Fwd1 i r) : s.Fwd i r := fun x j t e => let ⟨p, h1, h2, _⟩ := h x j t e; ⟨p, h1, h2⟩
theorem Sx.fwd_no {α : Type} (i : Nat) (r : List UInt8) (c p : Nat) : (Sx.no c p : Sx α).Fwd i r := fun _ _ _ e => by cases e
theorem Sx.fwd1_no {α : Type} (i : Nat) (r : List UInt8) (c p : Nat) : (Sx.no c p : Sx α).Fwd1 i r := fun _ _ _ e => by cases e
theorem Sx.fwd_here {α : Type} (x : α) (i : Nat) (r : List UInt8) : (Sx.ok x i r).Fwd i r := fun _ _ _ e => by cases e; exact ⟨[], rfl, rfl⟩
theorem Sx.Fwd.then {α β : Type} {i : Nat} {r : List UInt8} {s : Sx α} {f : α → Nat → List UInt8 → Sx β} (h : s.Fwd i r) (hf : ∀ x j t, s = .ok x j t → (f x j t).Fwd j t) : (s.then f).Fwd i r := by
  intro y k u e
  cases s with
  | no c p => cases e
  | ok x j t =>
    obtain ⟨p, h1, h2⟩ := h x j t rfl
    obtain ⟨q, h3, h4⟩ := hf x j t rfl y k u e
    exact ⟨p ++ q, by rw [h1, h3, List.append_assoc], by rw [h4, h2, List.length_append, Nat.add_assoc]⟩
theorem Sx.Fwd1.then {α β : Type} {i : Nat} {r : List UInt8} {s : Sx α} {f : α → Nat → List UInt8 → Sx β} (h : s.Fwd1 i r) (hf : ∀ x j t, s = .ok x j t → (f x j t).Fwd j t) : (s.then f).Fwd1 i r := by
  intro y k u e
  cases s with
  | no c p => cases e
  | ok x j t =>
    obtain ⟨p, h1, h2, h0⟩ := h x j t rfl
    obtain ⟨q, h3, h4⟩ := hf x j t rfl y k u e
    exact ⟨p ++ q, by rw [h1, h3, List.append_assoc], by rw [h4, h2, List.length_append, Nat.add_assoc], by rw [List.length_append]; omega⟩
theorem Sx.Fwd.then1 {α β : Type} {i : Nat} {r : List UInt8} {s : Sx α} {f : α → Nat → List UInt8 → Sx β} (h : s.Fwd i r) (hf : ∀ x j t, s = .ok x j t → (f x j t).Fwd1 j t) : (s.then f).Fwd1 i r := by
  intro y k u e
  cases s with
  | no c p => cases e
  | ok x j t =>
    obtain ⟨p, h1, h2⟩ := h x j t rfl
    obtain ⟨q, h3, h4, h0⟩ := hf x j t rfl y k u e
    exact ⟨p ++ q, by rw [h1, h3, List.append_assoc], by rw [h4, h2, List.length_append, Nat.add_assoc], by rw [List.length_append]; omega⟩
theorem Sx.Fwd1.shorter {α : Type} {i : Nat} {r : List UInt8} {s : Sx α} (h : s.Fwd1 i r) {x : α} {j : Nat} {t : List UInt8} (e : s = .ok x j t) : t.length < r.length := by
  obtain ⟨p, h1, _, h3⟩ := h x j t e
  rw [h1, List.length_append]
  omega

theorem peekS_fwd (i : Nat) (r : List UInt8) : (peekS i r).Fwd i r := by
  cases r with
  | nil => exact Sx.fwd_no _ _ _ _
  | cons x t => exact Sx.fwd_here _ _ _
theorem mustS_fwd1 (c : UInt8) (i : Nat) (r : List UInt8) : (mustS c i r).Fwd1 i r := by
  cases r with
  | nil => exact Sx.fwd1_no _ _ _ _
  | cons x t =>
    rw [mustS]
    split
    · intro y k u e; cases e; exact ⟨[x], rfl, rfl, Nat.one_pos⟩
    · exact Sx.fwd1_no _ _ _ _
theorem blkS_fwd : ∀ (r : List UInt8) (i : Nat), (blkS i r).Fwd i r
  | [], i => Sx.fwd_no _ _ _ _
  | x :: t, i => by
    rw [blkS]
    split
    · intro y k u e
      obtain ⟨p, h1, h2⟩ := blkS_fwd t (i + 1) y k u e
      exact ⟨x :: p, by rw [h1]; rfl, by rw [h2, List.length_cons]; omega⟩
    · exact Sx.fwd_here _ _ _
theorem blanksS_fwd (i : Nat) (r : List UInt8) : (blanksS i r).Fwd i r := (blkS_fwd r i).then fun _ _ _ _ => Sx.fwd_here _ _ _
theorem nmG_fwd : ∀ (g : Nat) (fb : Bool) (i : Nat) (r : List UInt8), (nmG g fb i r).Fwd i r
  | 0, _, _, _ => Sx.fwd_no _ _ _ _
  | g + 1, fb, i, r => by
    rw [nmG]
    split
    · exact Sx.fwd_no _ _ _ _
    · next hr =>
      split
      · next hf =>
        intro y k u e
        obtain ⟨p, h1, h2⟩ := nmG_fwd g false _ _ y k u e
        have hfit := nx_fits (f := fs r) (N := r.length) (p := 0) (by cases r with | nil => exact absurd rfl hr | cons => rw [List.length_cons]; omega) (goes_of_fits hf)
        refine ⟨r.take (nx (fs r) r.length 0).2 ++ p, by rw [List.append_assoc, ← h1, List.take_append_drop], ?_⟩
        rw [h2, List.length_append, List.length_take, Nat.min_eq_left (by omega), Nat.add_assoc]
      · exact Sx.fwd_here _ _ _
theorem nameS_fwd1 (i : Nat) (r : List UInt8) : (nameS i r).Fwd1 i r := by
  intro y k u e
  unfold nameS at e
  cases hn : nmG r.length true i r with
  | no c p => rw [hn] at e; cases e
  | ok x j t =>
    rw [hn, Sx.then_ok] at e
    obtain ⟨p, h1, h2⟩ := nmG_fwd _ _ _ _ x j t hn
    split at e
    · cases e
    · next hj => cases e; exact ⟨p, h1, h2, by omega⟩
theorem upToS_fwd (m : List UInt8) (i : Nat) (r : List UInt8) : (upToS m i r).Fwd i r := by
  intro y k u e
  unfold upToS at e
  cases hc : cutS m r with
  | none => rw [hc] at e; cases e
  | some q =>
    rw [hc] at e
    cases e
    have := cutS_split m hc
    exact ⟨q.1 ++ m, by rw [List.append_assoc]; exact this, by rw [List.length_append, Nat.add_assoc]⟩
theorem refS_fwd1 (i : Nat) (x : UInt8) (r : List UInt8) : (refS i (x :: r)).Fwd1 i (x :: r) := by
  intro y k u e
  unfold refS at e
  rw [show (x :: r).drop 1 = r from rfl] at e
  cases hc : cutS [59] r with
  | none => rw [hc] at e; cases e
  | some q =>
    rw [hc] at e
    dsimp only at e
    cases ht : toldS q.1 with
    | none => rw [ht] at e; cases e
    | some n =>
      rw [ht] at e
      cases e
      have := cutS_split [59] hc
      refine ⟨x :: (q.1 ++ [59]), ?_, ?_, by simp⟩
      · rw [List.cons_append, List.append_assoc]; exact congrArg (x :: ·) this
      · rw [List.length_cons, List.length_append]; simp only [List.length_cons, List.length_nil]; omega
theorem run_rest9 (q : Option UInt8) (r : List UInt8) : runS q r ++ restS q r = r := List.takeWhile_append_dropWhile
theorem mixG_fwd (q : Option UInt8) : ∀ (g i : Nat) (r : List UInt8), (mixG q g i r).Fwd i r
  | 0, _, _ => Sx.fwd_no _ _ _ _
  | g + 1, i, r => by
    rw [mixG]
    split
    · exact Sx.fwd_no _ _ _ _
    · next t _ =>
      have hrr := run_rest9 q r
      split
      · next hp =>
        intro y k u e
        cases hrest : restS q r with
        | nil => rw [hrest] at hp; cases hp
        | cons x rest =>
          rw [hrest] at e hrr
          obtain ⟨p, h1, h2⟩ := ((refS_fwd1 (i + (runS q r).length) x rest).fwd.then fun n j t2 _ => (mixG_fwd q g j t2).then fun u k t3 _ => Sx.fwd_here (t ++ (encB n ++ u)) k t3) y k u e
          exact ⟨runS q r ++ p, by rw [List.append_assoc, ← h1, hrr], by rw [h2, List.length_append, Nat.add_assoc]⟩
      · intro y k u e
        cases e
        exact ⟨runS q r, hrr.symm, rfl⟩
theorem mixS_fwd (q : Option UInt8) (i : Nat) (r : List UInt8) : (mixS q i r).Fwd i r := mixG_fwd q _ i r
theorem valueS_fwd (i : Nat) (r : List UInt8) : (valueS i r).Fwd i r := by
  intro y k u e
  cases r with
  | nil => cases e
  | cons x t =>
    unfold valueS at e
    rw [show peekS i (x :: t) = .ok x i (x :: t) from rfl, Sx.then_ok] at e
    split at e
    · cases e
    · rw [show (x :: t).drop 1 = t from rfl] at e
      obtain ⟨p, h1, h2⟩ := ((mixS_fwd (some x) (i + 1) t).then fun v j t2 _ => (mustS_fwd1 x j t2).fwd.then fun _ k t3 _ => Sx.fwd_here v k t3) y k u e
      exact ⟨x :: p, by rw [h1]; rfl, by rw [h2, List.length_cons]; omega⟩
theorem attrS_fwd1 (ns : List (List UInt8)) (i : Nat) (r : List UInt8) : (attrS ns i r).Fwd1 i r := by
  unfold attrS
  refine (nameS_fwd1 i r).then fun nm j t _ => ?_
  split
  · exact Sx.fwd_no _ _ _ _
  · exact (blanksS_fwd j t).then fun _ j t _ => (mustS_fwd1 61 j t).fwd.then fun _ j t _ => (blanksS_fwd j t).then fun _ j t _ => (valueS_fwd j t).then fun v j t _ => Sx.fwd_here (nm, v) j t
theorem tagG_fwd : ∀ (g : Nat) (ats : List (List UInt8 × List UInt8)) (i : Nat) (r : List UInt8), (tagG g ats i r).Fwd i r
  | 0, _, _, _ => Sx.fwd_no _ _ _ _
  | g + 1, ats, i, r => by
    rw [tagG]
    refine (blanksS_fwd i r).then fun apart j t _ => ?_
    cases t with
    | nil => exact Sx.fwd_no _ _ _ _
    | cons x t =>
      rw [show peekS j (x :: t) = .ok x j (x :: t) from rfl, Sx.then_ok]
      split
      · rw [show (x :: t).drop 1 = t from rfl]
        intro y k u e
        obtain ⟨p, h1, h2⟩ := ((mustS_fwd1 62 (j + 1) t).fwd.then fun _ k t3 _ => Sx.fwd_here (2, ats) k t3) y k u e
        exact ⟨x :: p, by rw [h1]; rfl, by rw [h2, List.length_cons]; omega⟩
      · split
        · exact (mustS_fwd1 62 j (x :: t)).fwd.then fun _ k t3 _ => Sx.fwd_here (1, ats) k t3
        · split
          · exact Sx.fwd_no _ _ _ _
          · exact (attrS_fwd1 (ats.map Prod.fst) j (x :: t)).fwd.then fun a k t2 _ => tagG_fwd g (ats ++ [a]) k t2
theorem startS_fwd1 (i : Nat) (r : List UInt8) : (startS i r).Fwd1 i r :=
  (nameS_fwd1 i r).then fun nm j t _ => (tagG_fwd (t.length + 1) [] j t).then fun q k t2 _ => Sx.fwd_here (q.1, nm, q.2) k t2
theorem endTagS_fwd (i : Nat) (r : List UInt8) : (endTagS i r).Fwd i r :=
  (nameS_fwd1 i r).fwd.then fun nm j t _ => (blanksS_fwd j t).then fun _ j t _ => (mustS_fwd1 62 j t).fwd.then fun _ k t2 _ => Sx.fwd_here nm k t2
theorem piS_fwd (i : Nat) (r : List UInt8) : (piS i r).Fwd i r := by
  unfold piS
  refine (nameS_fwd1 i r).fwd.then fun nm j t _ => ?_
  split
  · exact Sx.fwd_no _ _ _ _
  · refine (blanksS_fwd j t).then fun b j t _ => ?_
    split
    · exact (upToS_fwd _ j t).then fun u k t2 _ => Sx.fwd_here (nm, u) k t2
    · exact (mustS_fwd1 63 j t).fwd.then fun _ j t _ => (mustS_fwd1 62 j t).fwd.then fun _ k t2 _ => Sx.fwd_here (nm, []) k t2
theorem commentS_fwd (i : Nat) (r : List UInt8) : (commentS i r).Fwd i r := by
  unfold commentS
  refine (upToS_fwd _ i r).then fun u j t _ => ?_
  cases t with
  | nil => exact Sx.fwd_no _ _ _ _
  | cons x t =>
    rw [show peekS j (x :: t) = .ok x j (x :: t) from rfl, Sx.then_ok]
    split
    · exact Sx.fwd_no _ _ _ _
    · intro y k u e
      cases e
      exact ⟨[x], rfl, rfl⟩
theorem opens_yes {m : List UInt8} {i j : Nat} {r t : List UInt8} (h : opensS m i r = .ok true j t) : r = m ++ t ∧ j = i + m.length := by
  unfold opensS at h
  split at h
  · cases h
  · split at h
    · next hp =>
      cases h
      obtain ⟨s, hs⟩ := List.isPrefixOf_iff_prefix.1 hp
      rw [← hs]
      simp
    · cases h
theorem opens_no {m : List UInt8} {i j : Nat} {r t : List UInt8} (h : opensS m i r = .ok false j t) : j = i ∧ t = r := by
  unfold opensS at h
  split at h
  · cases h
  · split at h
    · cases h
    · cases h; exact ⟨rfl, rfl⟩
/-- A mark ahead of a step. -/
theorem lenS_fwd1 {m : List UInt8} (hm : 0 < m.length) {i : Nat} {r : List UInt8} {yes : Nat → List UInt8 → Sx Tk} {no : Sx Tk} (hy : ∀ j t, (yes j t).Fwd j t) (hn : no.Fwd1 i r) : (lenS i (opensS m i r) yes no).Fwd1 i r := by
  unfold lenS
  cases ho : opensS m i r with
  | no c p => exact Sx.fwd1_no _ _ _ _
  | ok b j t =>
    rw [Sx.then_ok]
    cases b with
    | true =>
      rw [if_pos rfl]
      obtain ⟨h1, h2⟩ := opens_yes ho
      intro y k u e
      obtain ⟨p, h3, h4⟩ := hy j t y k u e
      exact ⟨m ++ p, by rw [h1, h3, List.append_assoc], by rw [h4, h2, List.length_append, Nat.add_assoc], by rw [List.length_append]; omega⟩
    | false =>
      rw [if_neg Bool.false_ne_true]
      exact hn
theorem runS_pos (q : Option UInt8) (x : UInt8) (r : List UInt8) (h : endS q x = false) : 0 < (runS q (x :: r)).length := by
  unfold runS
  rw [List.takeWhile_cons_of_pos (by rw [h]; rfl), List.length_cons]
  omega
theorem tokS_fwd1 (i : Nat) (x : UInt8) (r : List UInt8) : (tokS i (x :: r)).Fwd1 i (x :: r) := by
  unfold tokS
  split
  · next hp =>
    intro y k u e
    have hx : x ≠ 60 := by
      intro h
      rw [h] at hp
      cases hp
    cases hm : mixS none i (x :: r) with
    | no c p => rw [hm] at e; cases e
    | ok v j t =>
      rw [hm, Sx.then_ok] at e
      cases e
      by_cases h38 : x = 38
      · obtain ⟨p, h1, h2⟩ := mixS_fwd none i (x :: r) v k u hm
        refine ⟨p, h1, h2, ?_⟩
        cases p with
        | cons => rw [List.length_cons]; omega
        | nil =>
          exfalso
          -- a reference goes on
          unfold mixS at hm
          rw [mixG] at hm
          have he : endS none x = true := by rw [h38]; rfl
          have hrun : runS none (x :: r) = [] := by unfold runS; rw [List.takeWhile_cons_of_neg (by rw [he]; decide)]
          have hrest : restS none (x :: r) = x :: r := by unfold restS; rw [List.dropWhile_cons_of_neg (by rw [he]; decide)]
          rw [hrun, hrest] at hm
          have ht : turnS none i [] = .ok [] := rfl
          rw [ht] at hm
          dsimp only at hm
          rw [if_pos (by rw [h38]; rfl)] at hm
          obtain ⟨p, h3, h4, h5⟩ := ((refS_fwd1 (i + ([] : List UInt8).length) x r).then fun n j t2 _ => (mixG_fwd none (x :: r).length j t2).then fun u k t3 _ => Sx.fwd_here ([] ++ (encB n ++ u)) k t3) v k u hm
          rw [List.length_nil] at h2 h4
          omega
      · have he : endS none x = false := by
          unfold endS
          rw [beq_eq_false_iff_ne.2 hx, beq_eq_false_iff_ne.2 h38]
          rfl
        have hpos := runS_pos none x r he
        unfold mixS at hm
        rw [mixG] at hm
        cases htn : turnS none i (runS none (x :: r)) with
        | error p => rw [htn] at hm; cases hm
        | ok t0 =>
          rw [htn] at hm
          dsimp only at hm
          have hrr := run_rest9 none (x :: r)
          split at hm
          · next hp2 =>
            cases hrest : restS none (x :: r) with
            | nil => rw [hrest] at hp2; cases hp2
            | cons x1 rest =>
              rw [hrest] at hm hrr
              obtain ⟨p, h1, h2⟩ := ((refS_fwd1 (i + (runS none (x :: r)).length) x1 rest).fwd.then fun n j t2 _ => (mixG_fwd none (x :: r).length j t2).then fun u k t3 _ => Sx.fwd_here (t0 ++ (encB n ++ u)) k t3) v k u hm
              exact ⟨runS none (x :: r) ++ p, by rw [List.append_assoc, ← h1, hrr], by rw [h2, List.length_append, Nat.add_assoc], by rw [List.length_append]; omega⟩
          · cases hm
            exact ⟨runS none (x :: r), hrr.symm, rfl, hpos⟩
  · next hp =>
    have hx : x = 60 := by
      by_cases h : x = 60
      · exact h
      · exfalso
        apply hp
        show ((60 : UInt8) == x && true) = false
        rw [beq_eq_false_iff_ne.2 (fun e => h e.symm)]
        rfl
    refine lenS_fwd1 (by decide) (fun j t => (commentS_fwd j t).then fun u k t2 _ => Sx.fwd_here _ k t2) ?_
    refine lenS_fwd1 (by decide) (fun j t => (upToS_fwd _ j t).then fun u k t2 _ => Sx.fwd_here _ k t2) ?_
    refine lenS_fwd1 (by decide) (fun j t => Sx.fwd_no _ _ _ _) ?_
    refine lenS_fwd1 (by decide) (fun j t => (piS_fwd j t).then fun u k t2 _ => Sx.fwd_here _ k t2) ?_
    refine lenS_fwd1 (by decide) (fun j t => (endTagS_fwd j t).then fun u k t2 _ => Sx.fwd_here _ k t2) ?_
    -- the last mark always stands here
    unfold lenS
    have ho : opensS [60] i (x :: r) = .ok true (i + 1) r := by
      unfold opensS
      rw [if_neg (by rw [List.length_cons, List.length_cons, List.length_nil]; omega), hx, if_pos (by rfl)]
      rfl
    rw [ho, Sx.then_ok, if_pos rfl]
    intro y k u e
    obtain ⟨p, h1, h2⟩ := ((startS_fwd1 (i + 1) r).fwd.then fun q k t2 _ => Sx.fwd_here (⟨q.1, i, q.2.1, [], q.2.2⟩ : Tk) k t2) y k u e
    exact ⟨x :: p, by rw [h1]; rfl, by rw [h2, List.length_cons]; omega, by rw [List.length_cons]; omega⟩

end Go.Proofs.YtemohjodihcdfaaGreatDoor
