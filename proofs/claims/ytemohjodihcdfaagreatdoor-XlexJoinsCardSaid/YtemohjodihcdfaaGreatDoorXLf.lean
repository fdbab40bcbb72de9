/-
  A scan's steps with more behind the document, and from a later place on: what is read stays the same; the tokens of two documents one behind the other. Of no program. No condition.
-/
import Derived.Test.YtemohjodihcdfaaGreatDoorXGd
import Derived.KernelRfl
namespace Go.Proofs.YtemohjodihcdfaaGreatDoor
open Go.RowKit Go.Lib Go.Joins

/-- What a step tells, the other one tells d later, with u left behind. -/
def Sx.Lift {α : Type} (d : Nat) (u : List UInt8) (s s' : Sx α) : Prop := ∀ x j t, s = .ok x j t → s' = .ok x (j + d) (t ++ u)
theorem Sx.lift_no {α : Type} (d : Nat) (u : List UInt8) (c p : Nat) (s' : Sx α) : (Sx.no c p : Sx α).Lift d u s' := fun _ _ _ e => by cases e
theorem Sx.lift_ok {α : Type} {d : Nat} {u : List UInt8} (x : α) {i i' : Nat} {r r' : List UInt8} (hi : i' = i + d) (hr : r' = r ++ u) : (Sx.ok x i r).Lift d u (.ok x i' r') := fun _ _ _ e => by cases e; rw [hi, hr]
theorem Sx.Lift.then {α β : Type} {d : Nat} {u : List UInt8} {N : Nat} {P : α → Prop} {s s' : Sx α} {f f' : α → Nat → List UInt8 → Sx β} (h : s.Lift d u s') (hg : s.Good N P) (hf : ∀ x j t, P x → OkN N t → (f x j t).Lift d u (f' x (j + d) (t ++ u))) : (s.then f).Lift d u (s'.then f') := by
  cases s with
  | no c p => exact Sx.lift_no _ _ _ _ _
  | ok x j t =>
    obtain ⟨h1, h2⟩ := hg x j t rfl
    rw [h x j t rfl]
    exact hf x j t h1 h2
theorem Sx.lift_ite {α : Type} {d : Nat} {u : List UInt8} {c : Prop} [Decidable c] {s s' t t' : Sx α} (hs : s.Lift d u s') (ht : t.Lift d u t') : (if c then s else t).Lift d u (if c then s' else t') := by
  split
  · exact hs
  · exact ht
variable {d N : Nat} {u : List UInt8}
theorem mustS_lift (c : UInt8) (i : Nat) (r : List UInt8) : (mustS c i r).Lift d u (mustS c (i + d) (r ++ u)) := by
  cases r with
  | nil => exact Sx.lift_no _ _ _ _ _
  | cons x t =>
    rw [List.cons_append, mustS, mustS]
    exact Sx.lift_ite (Sx.lift_ok _ (by omega) rfl) (Sx.lift_no _ _ _ _ _)
theorem blkS_lift : ∀ (r : List UInt8) (i : Nat), (blkS i r).Lift d u (blkS (i + d) (r ++ u))
  | [], _ => Sx.lift_no _ _ _ _ _
  | x :: t, i => by
    rw [List.cons_append, blkS, blkS]
    refine Sx.lift_ite ?_ (Sx.lift_ok _ rfl rfl)
    have := blkS_lift t (i + 1)
    rw [show i + 1 + d = i + d + 1 by omega] at this
    exact this
theorem blanksS_lift (i : Nat) {r : List UInt8} (h : OkN N r) : (blanksS i r).Lift d u (blanksS (i + d) (r ++ u)) :=
  (blkS_lift r i).then (blkS_good r i h) fun _ j t _ _ => by
    rw [show decide (i + d < j + d) = decide (i < j) from decide_eq_decide.2 (Nat.add_lt_add_iff_right ..)]
    exact Sx.lift_ok _ rfl rfl
theorem nmG_lift : ∀ (g g' : Nat) (fb : Bool) (i : Nat) {r : List UInt8}, g ≤ g' → OkN N r → (nmG g fb i r).Lift d u (nmG g' fb (i + d) (r ++ u))
  | 0, _, _, _, _, _, _ => Sx.lift_no _ _ _ _ _
  | g + 1, g', fb, i, r, hg, h => by
    obtain ⟨k, rfl⟩ : ∃ k, g' = k + 1 := ⟨g' - 1, by omega⟩
    rw [nmG, nmG]
    obtain ⟨h, hN⟩ := h
    cases h with
    | nil => exact Sx.lift_no _ _ _ _ _
    | rune v hv w hw =>
      have hne : ∀ z, encB v ++ z ≠ [] := fun z hz => encB_ne hv (List.append_eq_nil_iff.1 hz).1
      rw [List.append_assoc, if_neg (hne w), if_neg (hne (w ++ u)), nx_enc hv w, nx_enc hv (w ++ u)]
      dsimp only
      rw [List.drop_left, List.drop_left]
      refine Sx.lift_ite ?_ (Sx.lift_ok _ rfl (List.append_assoc ..).symm)
      have := nmG_lift g k false (i + (encB v).length) (by omega) ⟨hw, by rw [List.length_append] at hN; omega⟩
      rw [show i + (encB v).length + d = i + d + (encB v).length by omega] at this
      exact this
theorem nameS_lift (i : Nat) {r : List UInt8} (h : OkN N r) : (nameS i r).Lift d u (nameS (i + d) (r ++ u)) := by
  intro nm j t e
  obtain ⟨h1, h2, h3, _, _⟩ := nameS_ok h.1 e
  unfold nameS at e ⊢
  cases hn : nmG r.length true i r with
  | no c p => rw [hn] at e; cases e
  | ok x j2 t2 =>
    rw [hn, Sx.then_ok] at e
    rw [nmG_lift r.length (r ++ u).length true i (by rw [List.length_append]; omega) h x j2 t2 hn, Sx.then_ok]
    split at e
    · cases e
    · next hj =>
      cases e
      rw [if_neg (by omega), show j + d - (i + d) = j - i by omega]
      congr 1
      have hle : j - i ≤ r.length := by
        have := congrArg List.length h1
        rw [List.length_append] at this
        omega
      rw [List.take_append_of_le_length hle]
theorem prefix_short {m l u : List UInt8} (h : m <+: l ++ u) (hl : m.length ≤ l.length) : m <+: l := List.prefix_of_prefix_length_le h (List.prefix_append l u) hl
theorem cutS_lift (m : List UInt8) : ∀ {r : List UInt8} {q : List UInt8 × List UInt8}, cutS m r = some q → cutS m (r ++ u) = some (q.1, q.2 ++ u)
  | [], q, e => by cases e
  | x :: t, q, e => by
    rw [List.cons_append]
    unfold cutS at e ⊢
    by_cases hp : m.isPrefixOf (x :: t) = true
    · rw [if_pos hp] at e
      cases e
      have h1 := List.isPrefixOf_iff_prefix.1 hp
      rw [if_pos (show m.isPrefixOf (x :: (t ++ u)) = true from List.isPrefixOf_iff_prefix.2 (h1.trans (List.prefix_append (x :: t) u)))]
      show some ([], List.drop m.length (x :: t ++ u)) = _
      rw [List.drop_append_of_le_length h1.length_le]
    · rw [if_neg hp] at e
      cases hc : cutS m t with
      | none => rw [hc] at e; cases e
      | some q' =>
        rw [hc] at e
        cases e
        have hs := congrArg List.length (cutS_split m hc)
        rw [List.length_append, List.length_append] at hs
        rw [if_neg (show ¬ m.isPrefixOf (x :: (t ++ u)) = true from fun h => hp (List.isPrefixOf_iff_prefix.2 (prefix_short (l := x :: t) (u := u) (List.isPrefixOf_iff_prefix.1 h) (by rw [List.length_cons]; omega)))), cutS_lift m hc]
        rfl
theorem upToS_lift (m : List UInt8) (i : Nat) (r : List UInt8) : (upToS m i r).Lift d u (upToS m (i + d) (r ++ u)) := by
  unfold upToS
  cases hc : cutS m r with
  | none => exact Sx.lift_no _ _ _ _ _
  | some q =>
    rw [cutS_lift m hc]
    exact Sx.lift_ok _ (by dsimp only; omega) rfl
theorem refS_lift (i : Nat) (x : UInt8) (r : List UInt8) : (refS i (x :: r)).Lift d u (refS (i + d) (x :: r ++ u)) := by
  unfold refS
  rw [List.cons_append, show (x :: r).drop 1 = r from rfl, show (x :: (r ++ u)).drop 1 = r ++ u from rfl]
  cases hc : cutS [59] r with
  | none => exact Sx.lift_no _ _ _ _ _
  | some q =>
    rw [cutS_lift [59] hc]
    dsimp only
    cases toldS q.1 with
    | none => exact Sx.lift_no _ _ _ _ _
    | some n => exact Sx.lift_ok _ (by omega) rfl
theorem turnS_at {q : Option UInt8} {i : Nat} {run t : List UInt8} (e : turnS q i run = .ok t) (k : Nat) : turnS q k run = .ok t := by
  cases q with
  | none =>
    unfold turnS at e ⊢
    dsimp only at e ⊢
    split at e
    · cases e
    · exact e
  | some c => exact e
theorem run_lift (q : Option UInt8) : ∀ (r : List UInt8), restS q r ≠ [] → runS q (r ++ u) = runS q r ∧ restS q (r ++ u) = restS q r ++ u
  | [], h => absurd rfl h
  | x :: r, h => by
    unfold restS at h
    unfold runS restS
    rw [List.cons_append, List.takeWhile_cons, List.takeWhile_cons, List.dropWhile_cons, List.dropWhile_cons]
    rw [List.dropWhile_cons] at h
    split
    · next hx =>
      rw [if_pos hx] at h
      obtain ⟨h1, h2⟩ := run_lift q r h
      unfold runS at h1
      unfold restS at h2
      exact ⟨by rw [h1], h2⟩
    · exact ⟨rfl, rfl⟩
theorem mixG_lift {q : Option UInt8} (hq : QLow q) : ∀ (g g' i : Nat) {r : List UInt8}, g ≤ g' → OkN N r → ∀ x j t, (t ≠ [] ∨ u = []) → mixG q g i r = .ok x j t → mixG q g' (i + d) (r ++ u) = .ok x (j + d) (t ++ u)
  | 0, _, _, _, _, _, x, j, t, _, e => by cases e
  | g + 1, g', i, r, hg, h, x, j, t, hu, e => by
    obtain ⟨k, rfl⟩ : ∃ k, g' = k + 1 := ⟨g' - 1, by omega⟩
    rw [mixG] at e ⊢
    obtain ⟨h1, h2⟩ := run_rest_ok hq h
    have hrr : restS q r ≠ [] ∨ u = [] → runS q (r ++ u) = runS q r ∧ restS q (r ++ u) = restS q r ++ u := fun hc => by
      rcases hc with hc | hc
      · exact run_lift q r hc
      · rw [hc, List.append_nil, List.append_nil]; exact ⟨rfl, rfl⟩
    cases ht : turnS q i (runS q r) with
    | error p => rw [ht] at e; cases e
    | ok t0 =>
      rw [ht] at e
      dsimp only at e
      by_cases hp : [38].isPrefixOf (restS q r) = true
      · rw [if_pos hp] at e
        obtain ⟨w, hw⟩ := prefix_one hp
        obtain ⟨e1, e2⟩ := hrr (.inl (by rw [hw]; exact List.cons_ne_nil _ _))
        rw [e1, e2, turnS_at ht]
        dsimp only
        rw [hw] at e h2 ⊢
        rw [if_pos (by rfl)]
        cases hr : refS (i + (runS q r).length) (38 :: w) with
        | no c p => rw [hr] at e; cases e
        | ok n j2 t2 =>
          rw [hr, Sx.then_ok] at e
          have hl := refS_lift (d := d) (u := u) _ 38 w n j2 t2 hr
          rw [show i + (runS q r).length + d = i + d + (runS q r).length by omega] at hl
          rw [hl, Sx.then_ok]
          cases hm : mixG q g j2 t2 with
          | no c p => rw [hm] at e; cases e
          | ok v j3 t3 =>
            rw [hm, Sx.then_ok] at e
            cases e
            rw [mixG_lift hq g k j2 (by omega) (refS_good _ (by decide) h2 n j2 t2 hr).2 v j t hu hm, Sx.then_ok]
      · rw [if_neg hp] at e
        cases e
        obtain ⟨e1, e2⟩ := hrr hu
        rw [e1, e2, turnS_at ht]
        dsimp only
        rw [if_neg, show i + (runS q r).length + d = i + d + (runS q r).length by omega]
        intro h3
        obtain ⟨w, hw⟩ := prefix_one h3
        rcases hu with hu | hu
        · cases hz : restS q r with
          | nil => exact hu hz
          | cons y z =>
            rw [hz, List.cons_append] at hw
            injection hw with hw _
            apply hp
            rw [hz, hw]
            rfl
        · rw [hu, List.append_nil] at hw
          apply hp
          rw [hw]
          rfl
theorem valueS_lift (i : Nat) {r : List UInt8} (h : OkN N r) : (valueS i r).Lift d u (valueS (i + d) (r ++ u)) := by
  cases r with
  | nil => exact Sx.lift_no _ _ _ _ _
  | cons x t =>
    rw [List.cons_append]
    unfold valueS
    rw [show peekS i (x :: t) = .ok x i (x :: t) from rfl, show peekS (i + d) (x :: (t ++ u)) = .ok x (i + d) (x :: (t ++ u)) from rfl, Sx.then_ok, Sx.then_ok, show (x :: t).drop 1 = t from rfl, show (x :: (t ++ u)).drop 1 = t ++ u from rfl]
    by_cases hx : x ≠ 34 ∧ x ≠ 39
    · rw [if_pos hx]
      exact Sx.lift_no _ _ _ _ _
    · rw [if_neg hx, if_neg hx]
      have hx2 : x.toNat < 128 := by
        by_cases h34 : x = 34
        · rw [h34]; decide
        · by_cases h39 : x = 39
          · rw [h39]; decide
          · exact absurd ⟨h34, h39⟩ hx
      intro v j t2 e
      cases hm : mixS (some x) (i + 1) t with
      | no c p => rw [hm] at e; cases e
      | ok v2 j3 t3 =>
        rw [hm, Sx.then_ok] at e
        cases hmu : mustS x j3 t3 with
        | no c p => rw [hmu] at e; cases e
        | ok y j4 t4 =>
          rw [hmu, Sx.then_ok] at e
          cases e
          have hne : t3 ≠ [] := fun h0 => by rw [h0] at hmu; cases hmu
          have hl : mixS (some x) (i + 1 + d) (t ++ u) = .ok v (j3 + d) (t3 ++ u) := mixG_lift (fun c hc => by cases hc; exact hx2) _ _ _ (by rw [List.length_append]; omega) (h.tail hx2) _ _ _ (.inl hne) hm
          rw [show i + 1 + d = i + d + 1 by omega] at hl
          rw [hl, Sx.then_ok, mustS_lift x j3 t3 y j t2 hmu, Sx.then_ok]
theorem attrS_lift (ns : List (List UInt8)) (i : Nat) {r : List UInt8} (h : OkN N r) : (attrS ns i r).Lift d u (attrS ns (i + d) (r ++ u)) :=
  (nameS_lift i h).then (nameS_good i h) fun _ _ _ _ ht => Sx.lift_ite (Sx.lift_no _ _ _ _ _) ((blanksS_lift _ ht).then (blanksS_good _ ht) fun _ _ _ _ ht => (mustS_lift _ _ _).then (mustS_good (by decide) _ ht) fun _ _ _ _ ht => (blanksS_lift _ ht).then (blanksS_good _ ht) fun _ _ _ _ ht => (valueS_lift _ ht).then (valueS_good _ ht) fun _ _ _ _ _ => Sx.lift_ok _ rfl rfl)
theorem tagG_lift : ∀ (g g' : Nat) (ats : List (List UInt8 × List UInt8)) (i : Nat) {r : List UInt8}, g ≤ g' → OkN N r → (tagG g ats i r).Lift d u (tagG g' ats (i + d) (r ++ u))
  | 0, _, _, _, _, _, _ => Sx.lift_no _ _ _ _ _
  | g + 1, g', ats, i, r, hg, h => by
    obtain ⟨k, rfl⟩ : ∃ k, g' = k + 1 := ⟨g' - 1, by omega⟩
    rw [tagG, tagG]
    refine (blanksS_lift i h).then (blanksS_good i h) fun apart j t _ ht => ?_
    cases t with
    | nil => exact Sx.lift_no _ _ _ _ _
    | cons x t =>
      rw [List.cons_append, show peekS j (x :: t) = .ok x j (x :: t) from rfl, show peekS (j + d) (x :: (t ++ u)) = .ok x (j + d) (x :: (t ++ u)) from rfl, Sx.then_ok, Sx.then_ok, show (x :: t).drop 1 = t from rfl, show (x :: (t ++ u)).drop 1 = t ++ u from rfl]
      by_cases hx : x = 47
      · rw [if_pos hx, if_pos hx]
        have hl := mustS_lift (d := d) (u := u) 62 (j + 1) t
        rw [show j + 1 + d = j + d + 1 by omega] at hl
        exact hl.then (mustS_good (by decide) _ (ht.tail (by rw [hx]; decide))) fun _ _ _ _ _ => Sx.lift_ok _ rfl rfl
      · rw [if_neg hx, if_neg hx]
        refine Sx.lift_ite ?_ (Sx.lift_ite (Sx.lift_no _ _ _ _ _) ?_)
        · exact (mustS_lift 62 j (x :: t)).then (mustS_good (by decide) _ ht) fun _ _ _ _ _ => Sx.lift_ok _ rfl rfl
        · exact (attrS_lift _ j ht).then (attrS_good _ j ht) fun a k2 t2 _ ht2 => tagG_lift g k (ats ++ [a]) k2 (by omega) ht2
theorem startS_lift (i : Nat) {r : List UInt8} (h : OkN N r) : (startS i r).Lift d u (startS (i + d) (r ++ u)) :=
  (nameS_lift i h).then (nameS_good i h) fun _ j t _ ht => (tagG_lift (t.length + 1) ((t ++ u).length + 1) [] j (by rw [List.length_append]; omega) ht).then (tagG_good _ _ (fun _ h => by cases h) ht) fun _ _ _ _ _ => Sx.lift_ok _ rfl rfl
theorem endTagS_lift (i : Nat) {r : List UInt8} (h : OkN N r) : (endTagS i r).Lift d u (endTagS (i + d) (r ++ u)) :=
  (nameS_lift i h).then (nameS_good i h) fun _ _ _ _ ht => (blanksS_lift _ ht).then (blanksS_good _ ht) fun _ _ _ _ ht => (mustS_lift _ _ _).then (mustS_good (by decide) _ ht) fun _ _ _ _ _ => Sx.lift_ok _ rfl rfl
theorem piS_lift (i : Nat) {r : List UInt8} (h : OkN N r) : (piS i r).Lift d u (piS (i + d) (r ++ u)) :=
  (nameS_lift i h).then (nameS_good i h) fun _ _ _ _ ht => Sx.lift_ite (Sx.lift_no _ _ _ _ _) ((blanksS_lift _ ht).then (blanksS_good _ ht) fun _ _ _ _ ht => Sx.lift_ite ((upToS_lift _ _ _).then (upToS_good low_63 (List.cons_ne_nil _ _) _ ht) fun _ _ _ _ _ => Sx.lift_ok _ rfl rfl)
    ((mustS_lift _ _ _).then (mustS_good (by decide) _ ht) fun _ _ _ _ ht => (mustS_lift _ _ _).then (mustS_good (by decide) _ ht) fun _ _ _ _ _ => Sx.lift_ok _ rfl rfl))
theorem commentS_lift (i : Nat) {r : List UInt8} (h : OkN N r) : (commentS i r).Lift d u (commentS (i + d) (r ++ u)) := by
  unfold commentS
  refine (upToS_lift _ i r).then (upToS_good low_45 (List.cons_ne_nil _ _) i h) fun v j t _ _ => ?_
  cases t with
  | nil => exact Sx.lift_no _ _ _ _ _
  | cons x t =>
    rw [List.cons_append, show peekS j (x :: t) = .ok x j (x :: t) from rfl, show peekS (j + d) (x :: (t ++ u)) = .ok x (j + d) (x :: (t ++ u)) from rfl, Sx.then_ok, Sx.then_ok]
    exact Sx.lift_ite (Sx.lift_no _ _ _ _ _) (Sx.lift_ok _ (by omega) rfl)
theorem opensS_lift (m : List UInt8) (i : Nat) (r : List UInt8) : (opensS m i r).Lift d u (opensS m (i + d) (r ++ u)) := by
  unfold opensS
  by_cases h1 : r.length < m.length ∧ r.isPrefixOf m = true
  · rw [if_pos h1]; exact Sx.lift_no _ _ _ _ _
  · have h1' : ¬ ((r ++ u).length < m.length ∧ (r ++ u).isPrefixOf m = true) := fun h => h1 ⟨by have := h.1; rw [List.length_append] at this; omega, List.isPrefixOf_iff_prefix.2 ((List.prefix_append r u).trans (List.isPrefixOf_iff_prefix.1 h.2))⟩
    rw [if_neg h1, if_neg h1']
    by_cases h2 : m.isPrefixOf r = true
    · have h3 := List.isPrefixOf_iff_prefix.1 h2
      have h2' : m.isPrefixOf (r ++ u) = true := List.isPrefixOf_iff_prefix.2 (h3.trans (List.prefix_append r u))
      rw [if_pos h2, if_pos h2']
      exact Sx.lift_ok _ (by omega) (List.drop_append_of_le_length h3.length_le)
    · have h2' : ¬ m.isPrefixOf (r ++ u) = true := fun h => by
        have h3 := List.isPrefixOf_iff_prefix.1 h
        by_cases hl : m.length ≤ r.length
        · exact h2 (List.isPrefixOf_iff_prefix.2 (prefix_short h3 hl))
        · exact h1 ⟨by omega, List.isPrefixOf_iff_prefix.2 (List.prefix_of_prefix_length_le (List.prefix_append r u) h3 (by omega))⟩
      rw [if_neg h2, if_neg h2']
      exact Sx.lift_ok _ rfl rfl
/-- A token that stands d later. -/
def sh9 (d : Nat) (tk : Tk) : Tk := ⟨tk.kind, tk.at_ + d, tk.name, tk.text, tk.attrs⟩
/-- What a step tells, the other one tells of a token d later. -/
def Sx.LiftT (d : Nat) (u : List UInt8) (s s' : Sx Tk) : Prop := ∀ x j t, s = .ok x j t → (x.kind = 4 → t ≠ [] ∨ u = []) → s' = .ok (sh9 d x) (j + d) (t ++ u)
theorem Sx.liftT_then {α : Type} {N : Nat} {P : α → Prop} {s s' : Sx α} {f f' : α → Nat → List UInt8 → Sx Tk} (h : s.Lift d u s') (hg : s.Good N P) (hf : ∀ x j t, P x → OkN N t → (f x j t).LiftT d u (f' x (j + d) (t ++ u))) : (s.then f).LiftT d u (s'.then f') := by
  cases s with
  | no c p => exact fun _ _ _ e => by cases e
  | ok x j t =>
    obtain ⟨h1, h2⟩ := hg x j t rfl
    rw [h x j t rfl]
    exact hf x j t h1 h2
theorem Sx.liftT_ok {x x' : Tk} {i i' : Nat} {r r' : List UInt8} (hx : x' = sh9 d x) (hi : i' = i + d) (hr : r' = r ++ u) : (Sx.ok x i r).LiftT d u (.ok x' i' r') := fun _ _ _ e _ => by cases e; rw [hx, hi, hr]
theorem lenS_lift (m : List UInt8) (hm : ∀ x ∈ m, x.toNat < 128) {i : Nat} {r : List UInt8} (h : OkN N r) {yes yes' : Nat → List UInt8 → Sx Tk} {no no' : Sx Tk} (hy : ∀ j t, OkN N t → (yes j t).LiftT d u (yes' (j + d) (t ++ u))) (hn : no.LiftT d u no') : (lenS i (opensS m i r) yes no).LiftT d u (lenS (i + d) (opensS m (i + d) (r ++ u)) yes' no') := by
  unfold lenS
  cases ho : opensS m i r with
  | no c p => exact fun _ _ _ e => by cases e
  | ok b j t =>
    rw [opensS_lift m i r b j t ho, Sx.then_ok, Sx.then_ok]
    cases b with
    | true =>
      rw [if_pos rfl, if_pos rfl]
      obtain ⟨h1, _⟩ := opens_yes ho
      rw [h1] at h
      exact hy j t (OkN.peel hm h)
    | false =>
      rw [if_neg Bool.false_ne_true, if_neg Bool.false_ne_true]
      exact hn
theorem tokS_lift (i : Nat) {x : UInt8} {r : List UInt8} (h : OkN N (x :: r)) : (tokS i (x :: r)).LiftT d u (tokS (i + d) (x :: r ++ u)) := by
  unfold tokS
  by_cases hp : [60].isPrefixOf (x :: r) = false
  · have hp' : [60].isPrefixOf (x :: r ++ u) = false := hp
    rw [if_pos hp, if_pos hp']
    intro tk j t e hu
    cases hm : mixS none i (x :: r) with
    | no c p => rw [hm] at e; cases e
    | ok v j2 t2 =>
      rw [hm, Sx.then_ok] at e
      cases e
      have hl : mixS none (i + d) (x :: r ++ u) = .ok v (j + d) (t ++ u) := mixG_lift (fun _ hc => by cases hc) _ _ _ (by rw [List.length_append]; omega) h _ _ _ (hu rfl) hm
      rw [hl, Sx.then_ok]
      rfl
  · have hp' : ¬ [60].isPrefixOf (x :: r ++ u) = false := hp
    rw [if_neg hp, if_neg hp']
    refine lenS_lift _ (by decide) h (fun j t ht => Sx.liftT_then (commentS_lift j ht) (commentS_good j ht) fun v k t2 _ _ => Sx.liftT_ok rfl rfl rfl) ?_
    refine lenS_lift _ (by decide) h (fun j t ht => Sx.liftT_then (upToS_lift _ j t) (upToS_good low_93 (List.cons_ne_nil _ _) j ht) fun v k t2 _ _ => Sx.liftT_ok rfl rfl rfl) ?_
    refine lenS_lift _ (by decide) h (fun j t ht => fun _ _ _ e => by cases e) ?_
    refine lenS_lift _ (by decide) h (fun j t ht => Sx.liftT_then (piS_lift j ht) (piS_good j ht) fun v k t2 _ _ => Sx.liftT_ok rfl rfl rfl) ?_
    refine lenS_lift _ (by decide) h (fun j t ht => Sx.liftT_then (endTagS_lift j ht) (endTagS_good j ht) fun v k t2 _ _ => Sx.liftT_ok rfl rfl rfl) ?_
    refine lenS_lift _ (by decide) h (fun j t ht => Sx.liftT_then (startS_lift j ht) (startS_good j ht) fun v k t2 _ _ => Sx.liftT_ok rfl rfl rfl) ?_
    exact Sx.liftT_ok rfl rfl rfl
theorem toks_nil9 (g i : Nat) : toksG g i [] = .ok [] i [] := by
  cases g with
  | zero => rfl
  | succ g => rw [toksG, if_pos rfl]
theorem toksG_fuel : ∀ (g g' i : Nat) (r : List UInt8), r.length ≤ g → r.length ≤ g' → toksG g i r = toksG g' i r
  | 0, g', i, r, h, _ => by rw [List.length_eq_zero_iff.1 (Nat.le_zero.1 h), toks_nil9, toks_nil9]
  | g + 1, g', i, r, h, h' => by
    cases r with
    | nil => rw [toks_nil9, toks_nil9]
    | cons x r =>
      rw [List.length_cons] at h h'
      obtain ⟨k, rfl⟩ : ∃ k, g' = k + 1 := ⟨g' - 1, by omega⟩
      rw [toksG, toksG, if_neg (List.cons_ne_nil _ _), if_neg (List.cons_ne_nil _ _)]
      cases hk : tokS i (x :: r) with
      | no c p => rfl
      | ok tk j t =>
        have := (tokS_fwd1 i x r).shorter hk
        rw [List.length_cons] at this
        rw [Sx.then_ok, Sx.then_ok, toksG_fuel g k j t (by omega) (by omega)]
theorem toksG_end : ∀ (g i : Nat) (r : List UInt8), r.length ≤ g → ∀ ts j t, toksG g i r = .ok ts j t → t = [] ∧ j = i + r.length
  | 0, i, r, h, ts, j, t, e => by
    have hr := List.length_eq_zero_iff.1 (Nat.le_zero.1 h)
    rw [hr] at e ⊢
    rw [toks_nil9] at e
    cases e
    exact ⟨rfl, rfl⟩
  | g + 1, i, r, h, ts, j, t, e => by
    cases r with
    | nil => rw [toks_nil9] at e; cases e; exact ⟨rfl, rfl⟩
    | cons x r =>
      rw [List.length_cons] at h
      rw [toksG, if_neg (List.cons_ne_nil _ _)] at e
      cases hk : tokS i (x :: r) with
      | no c p => rw [hk] at e; cases e
      | ok tk j2 t2 =>
        have hs := (tokS_fwd1 i x r).shorter hk
        obtain ⟨p, h1, h2, _⟩ := tokS_fwd1 i x r tk j2 t2 hk
        rw [List.length_cons] at hs
        rw [hk, Sx.then_ok] at e
        cases hm : toksG g j2 t2 with
        | no c p => rw [hm] at e; cases e
        | ok ts2 j3 t3 =>
          rw [hm, Sx.then_ok] at e
          cases e
          obtain ⟨h3, h4⟩ := toksG_end g j2 t2 (by omega) ts2 j t hm
          refine ⟨h3, ?_⟩
          rw [h4, h2, h1, List.length_append]
          omega
theorem toksG_lift : ∀ (g i : Nat) {r : List UInt8}, r.length ≤ g → OkN N r → ∀ ts j t, toksG g i r = .ok ts j t → (u = [] ∨ ∀ tk, ts.getLast? = some tk → tk.kind ≠ 4) → ∀ G, r.length + u.length ≤ G → toksG G (i + d) (r ++ u) = (toksG u.length (j + d) u).then fun l k t2 => .ok (ts.map (sh9 d) ++ l) k t2
  | 0, i, r, h, _, ts, j, t, e, _, G, hG => by
    have hr := List.length_eq_zero_iff.1 (Nat.le_zero.1 h)
    subst hr
    rw [toks_nil9] at e
    cases e
    rw [List.nil_append, toksG_fuel G u.length (i + d) u (by simpa using hG) (Nat.le_refl _)]
    cases toksG u.length (i + d) u <;> rfl
  | g + 1, i, r, h, hok, ts, j, t, e, hc, G, hG => by
    cases r with
    | nil =>
      rw [toks_nil9] at e
      cases e
      rw [List.nil_append, toksG_fuel G u.length (i + d) u (by simpa using hG) (Nat.le_refl _)]
      cases toksG u.length (i + d) u <;> rfl
    | cons x r =>
      rw [List.length_cons] at h hG
      obtain ⟨G', rfl⟩ : ∃ k, G = k + 1 := ⟨G - 1, by omega⟩
      rw [toksG, if_neg (List.cons_ne_nil _ _)] at e
      cases hk : tokS i (x :: r) with
      | no c p => rw [hk] at e; cases e
      | ok tk j2 t2 =>
        have hs := (tokS_fwd1 i x r).shorter hk
        rw [List.length_cons] at hs
        rw [hk, Sx.then_ok] at e
        cases hm : toksG g j2 t2 with
        | no c p => rw [hm] at e; cases e
        | ok ts2 j3 t3 =>
          rw [hm, Sx.then_ok] at e
          cases e
          have h4 : tk.kind = 4 → t2 ≠ [] ∨ u = [] := fun hk4 => by
            rcases hc with hc | hc
            · exact .inr hc
            · refine .inl fun h0 => ?_
              rw [h0, toks_nil9] at hm
              cases hm
              exact hc tk rfl hk4
          have hl := tokS_lift (d := d) (u := u) i hok tk j2 t2 hk h4
          have hc2 : u = [] ∨ ∀ tk, ts2.getLast? = some tk → tk.kind ≠ 4 := by
            rcases hc with hc | hc
            · exact .inl hc
            · refine .inr fun y hy => hc y ?_
              cases ts2 with
              | nil => cases hy
              | cons z zs => rw [List.getLast?_cons_cons]; exact hy
          rw [toksG, if_neg (by rw [List.cons_append]; exact List.cons_ne_nil _ _), hl, Sx.then_ok, toksG_lift g j2 (by omega) (tokS_good i hok tk j2 t2 hk).2 ts2 j t hm hc2 G' (by omega)]
          cases toksG u.length (j + d) u <;> rfl
def Sx.isNo {α : Type} : Sx α → Bool
  | .ok _ _ _ => false
  | .no _ _ => true
set_option maxRecDepth 100000 in
theorem short_no : (allS [60]).isNo = true ∧ (allS [60, 63]).isNo = true ∧ (allS [60, 63, 120]).isNo = true ∧ (allS [60, 63, 120, 109]).isNo = true ∧ (allS [60, 63, 120, 109, 108]).isNo = true :=
  ⟨by kernel_rfl, by kernel_rfl, by kernel_rfl, by kernel_rfl, by kernel_rfl⟩
theorem not_no {b : List UInt8} {ts : List Tk} {j : Nat} {t : List UInt8} (e : allS b = .ok ts j t) : (allS b).isNo = false := by rw [e]; rfl
theorem declS_lift {a b : List UInt8} {ts : List Tk} {jj : Nat} {tt : List UInt8} (ea : allS a = .ok ts jj tt) (hts : ts ≠ []) {x : Unit} {j : Nat} {t : List UInt8} (e : declS a = .ok x j t) : declS (a ++ b) = .ok x j (t ++ b) := by
  have hnn := not_no ea
  rw [declC_eq] at e ⊢
  by_cases hp : declP.isPrefixOf a = true
  · obtain ⟨s, hs⟩ := List.isPrefixOf_iff_prefix.1 hp
    have h5 : a.drop 5 = s := by rw [← hs]; rfl
    have h5b : (a ++ b).drop 5 = s ++ b := by rw [← hs]; rfl
    have hp2 : declP.isPrefixOf (a ++ b) = true := List.isPrefixOf_iff_prefix.2 (List.IsPrefix.trans ⟨s, hs⟩ (List.prefix_append a b))
    rw [h5] at e
    rw [h5b]
    cases s with
    | nil =>
      exfalso
      rw [List.append_nil] at hs
      rw [← hs] at hnn
      have := short_no.2.2.2.2
      rw [show ([60, 63, 120, 109, 108] : List UInt8) = declP from rfl, hnn] at this
      cases this
    | cons y s =>
      have hTa : declT a = blankB (y.toNat : Int) := by unfold declT; rw [h5]
      have hTb : declT (a ++ b) = blankB (y.toNat : Int) := by unfold declT; rw [h5b]; rfl
      rw [List.cons_append]
      rw [hTa] at e
      rw [hTb]
      by_cases hb : blankB (y.toNat : Int) = true
      · rw [if_pos ⟨hp, hb⟩] at e
        rw [if_pos ⟨hp2, hb⟩]
        cases hu : upToS [63, 62] 5 (y :: s) with
        | no c p => rw [hu] at e; cases e
        | ok v j2 t2 =>
          rw [hu, Sx.then_ok] at e
          have hl := upToS_lift (d := 0) (u := b) [63, 62] 5 (y :: s) v j2 t2 hu
          rw [show ((y :: s) ++ b) = y :: (s ++ b) from rfl] at hl
          rw [show (5 : Nat) + 0 = 5 from rfl] at hl
          rw [hl, Sx.then_ok]
          split at e
          · next hd => rw [if_pos hd]; cases e; rfl
          · cases e
      · rw [if_neg (fun h => hb h.2)] at e
        rw [if_neg (fun h => hb h.2)]
        cases e
        rfl
  · rw [if_neg (fun h => hp h.1)] at e
    cases e
    rw [if_neg]
    intro h
    have h1 := List.isPrefixOf_iff_prefix.1 h.1
    by_cases hl : 5 ≤ a.length
    · exact hp (List.isPrefixOf_iff_prefix.2 (prefix_short h1 hl))
    · have h2 : a <+: declP := List.prefix_of_prefix_length_le (List.prefix_append a b) h1 (by show a.length ≤ 5; omega)
      have h3 := List.prefix_iff_eq_take.1 h2
      obtain ⟨n1, n2, n3, n4, _⟩ := short_no
      rcases (show a.length = 0 ∨ a.length = 1 ∨ a.length = 2 ∨ a.length = 3 ∨ a.length = 4 by omega) with h0 | h0 | h0 | h0 | h0
      · have h9 := List.length_eq_zero_iff.1 h0
        rw [h9] at ea
        have : allS [] = .ok [] 0 [] := by kernel_rfl
        rw [this] at ea
        cases ea
        exact hts rfl
      · rw [h0] at h3
        rw [show a = [60] from h3] at hnn
        rw [hnn] at n1
        cases n1
      · rw [h0] at h3
        rw [show a = [60, 63] from h3] at hnn
        rw [hnn] at n2
        cases n2
      · rw [h0] at h3
        rw [show a = [60, 63, 120] from h3] at hnn
        rw [hnn] at n3
        cases n3
      · rw [h0] at h3
        rw [show a = [60, 63, 120, 109] from h3] at hnn
        rw [hnn] at n4
        cases n4
theorem allS_parts {b : List UInt8} {ts : List Tk} {j : Nat} {t : List UInt8} (e : allS b = .ok ts j t) : ∃ j0 t0, declS b = .ok () j0 t0 ∧ toksG (t0.length + 1) j0 t0 = .ok ts j t := by
  rw [allS] at e
  split at e
  · cases e
  · split at e
    · cases e
    · cases hd : declS b with
      | no c p => rw [hd] at e; cases e
      | ok x j0 t0 => rw [hd, Sx.then_ok] at e; exact ⟨j0, t0, rfl, e⟩
theorem declS_len {b : List UInt8} {x : Unit} {j : Nat} {t : List UInt8} (e : declS b = .ok x j t) : j + t.length = b.length := by
  have hd := declS_drop b x j t e
  rw [declC_eq] at e
  split at e
  · next hc =>
    cases hu : upToS [63, 62] 5 (b.drop 5) with
    | no c p => rw [hu] at e; cases e
    | ok v j2 t2 =>
      rw [hu, Sx.then_ok] at e
      split at e
      · cases e
        obtain ⟨p, h1, h2⟩ := upToS_fwd _ _ _ v j t hu
        have h3 := congrArg List.length h1
        have h4 := (List.isPrefixOf_iff_prefix.1 hc.1).length_le
        rw [List.length_drop, List.length_append] at h3
        have h5 : declP.length = 5 := rfl
        omega
      · cases e
  · cases e; omega
/-- The tokens of two documents one behind the other. -/
theorem allS_join {a b : List UInt8} {x y : List Tk} {j1 j2 : Nat} {t1 t2 : List UInt8} (ea : allS a = .ok x j1 t1) (eb : allS b = .ok y j2 t2) (hx : x ≠ []) (h4 : ∀ tk, x.getLast? = some tk → tk.kind ≠ 4) (hp : declP.isPrefixOf b = false) (hlen : a.length + b.length ≤ 65536) : ∃ j t, allS (a ++ b) = .ok (x ++ y.map (sh9 a.length)) j t := by
  have oa := allS_ok8 ea
  have ob := allS_ok8 eb
  obtain ⟨j0, t0, hd, ht⟩ := allS_parts ea
  obtain ⟨jb, tb, hdb, htb⟩ := allS_parts eb
  rw [declC_eq, if_neg (fun h => by rw [hp] at h; cases h.1)] at hdb
  cases hdb
  have hda := declS_lift (b := b) ea hx hd
  have hbad := bad_of_ok (oa.append ob)
  have hbz : badZ (fs (a ++ b)) (a ++ b).length = -1 := hbad
  obtain ⟨he1, he2⟩ := toksG_end _ _ _ (Nat.le_succ _) x j1 t1 ht
  have hja : j1 = a.length := by have := declS_len hd; omega
  have hl1 := toksG_lift (d := 0) (u := b) _ j0 (Nat.le_succ _) (declS_good a ⟨oa, Nat.le_refl _⟩ () j0 t0 hd).2 x j1 t1 ht (.inr h4) ((t0 ++ b).length + 1) (by rw [List.length_append]; omega)
  have hl2 := toksG_lift (d := a.length) (u := []) _ 0 (Nat.le_succ _) (N := b.length) ⟨ob, Nat.le_refl _⟩ y j2 t2 htb (.inl rfl) b.length (by simp)
  rw [List.append_nil, Nat.zero_add, toks_nil9, Sx.then_ok, List.append_nil] at hl2
  simp only [Nat.add_zero] at hl1
  rw [hja, hl2, Sx.then_ok] at hl1
  refine ⟨j2 + a.length, [], ?_⟩
  rw [allS, if_neg (by rw [List.length_append]; omega), hbz, if_neg (by decide), hda, Sx.then_ok, hl1]
  congr 2
  conv => rhs; rw [← List.map_id x]
  rfl

end Go.Proofs.YtemohjodihcdfaaGreatDoor
