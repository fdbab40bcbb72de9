/-
  What stands up to a mark, told by a document's scan. Conditions: the laid variables hold what their initialisers lay; the scan lies in memory, in a block behind theirs; the mark is one to a thousand bytes. A scan's steps go forward: what is left behind a step is an end of what was left ahead of it. Of no program. No condition.
-/
import Derived.Test.YtfonflbpkbibbaaGreatDoorXN
import Derived.Test.YtfonflbpkbibbaaGreatDoorShelf
import Derived.Lib.ConvBytes
import Derived.Lib.IndexMore
namespace Go.Proofs.YtfonflbpkbibbaaGreatDoor
open Go.RowKit Go.Lib Go.Joins

/-- Bytes as numbers. -/
def intsB (l : List UInt8) : List Int := l.map fun x => (x.toNat : Int)
theorem bytesOf_ints (l : List UInt8) : Lib.bytesOf (intsB l) = l := by
  unfold Lib.bytesOf intsB
  rw [List.map_map]
  conv => rhs; rw [← List.map_id l]
  apply List.map_congr_left
  intro x _
  simp
theorem intsB_range (l : List UInt8) : ∀ x ∈ intsB l, 0 ≤ x ∧ x < 256 := by
  intro x hx
  obtain ⟨y, _, rfl⟩ := List.mem_map.1 hx
  have := y.toNat_lt
  omega
theorem intsB_len (l : List UInt8) : (intsB l).length = l.length := List.length_map _
theorem intsB_getD (l : List UInt8) (k : Nat) (hk : k < l.length) : (intsB l).getD k 0 = (fs l k : Int) := by
  unfold intsB fs
  rw [List.getD_eq_getElem?_getD, List.getD_eq_getElem?_getD, List.getElem?_map, List.getElem?_eq_getElem hk]
  rfl
/-- Where the rest of a document lies from a place on. -/
def tailA (a : Option Addr) (c i : Nat) : Option Addr := if c = i then a else a.map (·.add i)
theorem ScAt.tail {w : World} {B : Nat} {a : Option Addr} {c : Nat} {l : List UInt8} {i : Nat} {t : List UInt8} (h : ScAt w B a c l i t) (j : Nat) (hj : j ≤ l.length) : Lib.BytesIn w (tailA a c j) (l.length - j) (intsB (l.drop j)) ∧ (tailA a c j = none → c - j = 0) ∧ l.length - j ≤ c - j := by
  have hcap := h.cap
  refine ⟨?_, ?_, by omega⟩
  · intro hpos
    obtain ⟨b, o, rfl⟩ : ∃ b o, a = some ⟨b, o, none⟩ := by
      rcases h.row with h1 | ⟨b, o, h1, _⟩
      · omega
      · exact ⟨b, o, h1⟩
    refine ⟨b, o + j, ?_, fun k hk => ?_⟩
    · unfold tailA
      rw [if_neg (by omega)]
      simp [Addr.add]
    · rcases h.row with h1 | ⟨b2, o2, h1, _, h3⟩
      · omega
      · cases h1
        rw [Nat.add_assoc, h3 (j + k) (by omega), intsB_getD _ _ (by rw [List.length_drop]; exact hk), fs_drop]
  · unfold tailA
    intro h0
    by_cases hc : c = j
    · omega
    · rw [if_neg hc] at h0
      cases a with
      | none => have := h.nul rfl; omega
      | some a => cases h0
theorem index_cutS (m : List UInt8) (hm : m ≠ []) : ∀ r : List UInt8, Lib.index r m = match cutS m r with | none => -1 | some q => (q.1.length : Int)
  | [] => by cases m with
    | nil => exact absurd rfl hm
    | cons => rfl
  | x :: t => by
    have ih := index_cutS m hm t
    unfold cutS Lib.index
    by_cases h : m.isPrefixOf (x :: t) = true
    · rw [if_pos h, if_pos h]; rfl
    · rw [if_neg h, if_neg h, ih]
      cases cutS m t with
      | none => rfl
      | some q => simp
theorem cutS_split (m : List UInt8) : ∀ {r : List UInt8} {q : List UInt8 × List UInt8}, cutS m r = some q → r = q.1 ++ (m ++ q.2)
  | [], q, h => by cases h
  | x :: t, q, h => by
    unfold cutS at h
    by_cases hp : m.isPrefixOf (x :: t) = true
    · rw [if_pos hp] at h
      cases h
      have := List.isPrefixOf_iff_prefix.1 hp
      obtain ⟨s, hs⟩ := this
      rw [← hs]
      simp
    · rw [if_neg hp] at h
      cases hc : cutS m t with
      | none => rw [hc] at h; cases h
      | some q' =>
        rw [hc] at h
        cases h
        rw [cutS_split m hc]
        rfl

theorem conv_zero (W : World) (a : Option Addr) (k : Nat) : (convert 22 9 (.slice a 0 k)).run Tryz.prog W = .ok (.string ⟨#[]⟩) W := by
  rw [run_convert_bytes_string W 22 9 5 a 0 k Tryz.underlying22 Tryz.underlying5 Tryz.underlying9]
  cases a <;> rfl
theorem map_add (b o j : Nat) : Option.map (fun x : Addr => x.add j) (some ⟨b, o, none⟩) = some ⟨b, o + j, none⟩ := by simp [Addr.add]
/-- A piece of a document, as a text. -/
theorem ScAt.conv {w : World} {B : Nat} {a : Option Addr} {c : Nat} {l : List UInt8} {i : Nat} {t : List UInt8} (h : ScAt w B a c l i t) (j k cc : Nat) (hj : j + k ≤ l.length) : (convert 22 9 (.slice (tailA a c j) k cc)).run Tryz.prog w = .ok (.string (strB ((l.drop j).take k))) w := by
  have hcap := h.cap
  by_cases hk : k = 0
  · subst hk
    rw [List.take_zero]
    exact conv_zero w _ cc
  · obtain ⟨b, o, rfl⟩ : ∃ b o, a = some ⟨b, o, none⟩ := by
      rcases h.row with h1 | ⟨b, o, h1, _⟩
      · omega
      · exact ⟨b, o, h1⟩
    unfold tailA
    rw [if_neg (by omega), map_add]
    have := h.text j (j + k) cc (by omega) hj
    unfold cut at this
    rw [Nat.add_sub_cancel_left] at this
    exact this

end Go.Proofs.YtfonflbpkbibbaaGreatDoor
namespace Go.Proofs.YtfonflbpkbibbaaGreatDoor

/-- What is left is an end of what was left. -/
def Sx.Fwd {α : Type} (i : Nat) (r : List UInt8) (s : Sx α) : Prop := ∀ x j t, s = .ok x j t → ∃ p : List UInt8, r = p ++ t ∧ j = i + p.length
/-- .. and shorter. -/
def Sx.Fwd1 {α : Type} (i : Nat) (r : List UInt8) (s : Sx α) : Prop := ∀ x j t, s = .ok x j t → ∃ p : List UInt8, r = p ++ t ∧ j = i + p.length ∧ 0 < p.length
theorem Sx.Fwd1.fwd {α : Type} {i : Nat} {r : List UInt8} {s : Sx α} (h : s.Fwd1 i r) : s.Fwd i r := fun x j t e => let ⟨p, h1, h2, _⟩ := h x j t e; ⟨p, h1, h2⟩
theorem Sx.fwd_no {α : Type} (i : Nat) (r : List UInt8) (c p : Nat) : (Sx.no c p : Sx α).Fwd i r := fun _ _ _ e => by cases e
theorem Sx.fwd1_no {α : Type} (i : Nat) (r : List UInt8) (c p : Nat) : (Sx.no c p : Sx α).Fwd1 i r := fun _ _ _ e => by cases e
theorem Sx.fwd_here {α : Type} (x : α) (i : Nat) (r : List UInt8) : (Sx.ok x i r).Fwd i r := fun _ _ _ e => by cases e; exact ⟨[], rfl, rfl⟩
theorem Sx.Fwd.then {α β : Type} {i : Nat} {r : List UInt8} {s : Sx α} {f : α → Nat → List UInt8 → Sx β} (h : s.Fwd i r) (hf : ∀ x j t, s = .ok x j t → (f x j t).Fwd j t) : (s.then f).Fwd i r := by
  intro y k u e
  cases s with
  | no c p => cases e
  | ok x j t =>
    obtain ⟨p, h1, h2⟩ := h x j t rfl
    obtain ⟨q, h3, h4⟩ := hf x j t rfl y k u e
    exact ⟨p ++ q, by rw [h1, h3, List.append_assoc], by rw [h4, h2, List.length_append, Nat.add_assoc]⟩
theorem Sx.Fwd1.then {α β : Type} {i : Nat} {r : List UInt8} {s : Sx α} {f : α → Nat → List UInt8 → Sx β} (h : s.Fwd1 i r) (hf : ∀ x j t, s = .ok x j t → (f x j t).Fwd j t) : (s.then f).Fwd1 i r := by
  intro y k u e
  cases s with
  | no c p => cases e
  | ok x j t =>
    obtain ⟨p, h1, h2, h0⟩ := h x j t rfl
    obtain ⟨q, h3, h4⟩ := hf x j t rfl y k u e
    exact ⟨p ++ q, by rw [h1, h3, List.append_assoc], by rw [h4, h2, List.length_append, Nat.add_assoc], by rw [List.length_append]; omega⟩
theorem Sx.Fwd.then1 {α β : Type} {i : Nat} {r : List UInt8} {s : Sx α} {f : α → Nat → List UInt8 → Sx β} (h : s.Fwd i r) (hf : ∀ x j t, s = .ok x j t → (f x j t).Fwd1 j t) : (s.then f).Fwd1 i r := by
  intro y k u e
  cases s with
  | no c p => cases e
  | ok x j t =>
    obtain ⟨p, h1, h2⟩ := h x j t rfl
    obtain ⟨q, h3, h4, h0⟩ := hf x j t rfl y k u e
    exact ⟨p ++ q, by rw [h1, h3, List.append_assoc], by rw [h4, h2, List.length_append, Nat.add_assoc], by rw [List.length_append]; omega⟩
theorem Sx.Fwd1.shorter {α : Type} {i : Nat} {r : List UInt8} {s : Sx α} (h : s.Fwd1 i r) {x : α} {j : Nat} {t : List UInt8} (e : s = .ok x j t) : t.length < r.length := by
  obtain ⟨p, h1, _, h3⟩ := h x j t e
  rw [h1, List.length_append]
  omega

theorem peekS_fwd (i : Nat) (r : List UInt8) : (peekS i r).Fwd i r := by
  cases r with
  | nil => exact Sx.fwd_no _ _ _ _
  | cons x t => exact Sx.fwd_here _ _ _
theorem mustS_fwd1 (c : UInt8) (i : Nat) (r : List UInt8) : (mustS c i r).Fwd1 i r := by
  cases r with
  | nil => exact Sx.fwd1_no _ _ _ _
  | cons x t =>
    rw [mustS]
    split
    · intro y k u e; cases e; exact ⟨[x], rfl, rfl, Nat.one_pos⟩
    · exact Sx.fwd1_no _ _ _ _
theorem blkS_fwd : ∀ (r : List UInt8) (i : Nat), (blkS i r).Fwd i r
  | [], i => Sx.fwd_no _ _ _ _
  | x :: t, i => by
    rw [blkS]
    split
    · intro y k u e
      obtain ⟨p, h1, h2⟩ := blkS_fwd t (i + 1) y k u e
      exact ⟨x :: p, by rw [h1]; rfl, by rw [h2, List.length_cons]; omega⟩
    · exact Sx.fwd_here _ _ _
theorem blanksS_fwd (i : Nat) (r : List UInt8) : (blanksS i r).Fwd i r := (blkS_fwd r i).then fun _ _ _ _ => Sx.fwd_here _ _ _
theorem nmG_fwd : ∀ (g : Nat) (fb : Bool) (i : Nat) (r : List UInt8), (nmG g fb i r).Fwd i r
  | 0, _, _, _ => Sx.fwd_no _ _ _ _
  | g + 1, fb, i, r => by
    rw [nmG]
    split
    · exact Sx.fwd_no _ _ _ _
    · next hr =>
      split
      · next hf =>
        intro y k u e
        obtain ⟨p, h1, h2⟩ := nmG_fwd g false _ _ y k u e
        have hfit := nx_fits (f := fs r) (N := r.length) (p := 0) (by cases r with | nil => exact absurd rfl hr | cons => rw [List.length_cons]; omega) (goes_of_fits hf)
        refine ⟨r.take (nx (fs r) r.length 0).2 ++ p, by rw [List.append_assoc, ← h1, List.take_append_drop], ?_⟩
        rw [h2, List.length_append, List.length_take, Nat.min_eq_left (by omega), Nat.add_assoc]
      · exact Sx.fwd_here _ _ _
theorem nameS_fwd1 (i : Nat) (r : List UInt8) : (nameS i r).Fwd1 i r := by
  intro y k u e
  unfold nameS at e
  cases hn : nmG r.length true i r with
  | no c p => rw [hn] at e; cases e
  | ok x j t =>
    rw [hn, Sx.then_ok] at e
    obtain ⟨p, h1, h2⟩ := nmG_fwd _ _ _ _ x j t hn
    split at e
    · cases e
    · next hj => cases e; exact ⟨p, h1, h2, by omega⟩
theorem upToS_fwd (m : List UInt8) (i : Nat) (r : List UInt8) : (upToS m i r).Fwd i r := by
  intro y k u e
  unfold upToS at e
  cases hc : cutS m r with
  | none => rw [hc] at e; cases e
  | some q =>
    rw [hc] at e
    cases e
    have := cutS_split m hc
    exact ⟨q.1 ++ m, by rw [List.append_assoc]; exact this, by rw [List.length_append, Nat.add_assoc]⟩
theorem refS_fwd1 (i : Nat) (x : UInt8) (r : List UInt8) : (refS i (x :: r)).Fwd1 i (x :: r) := by
  intro y k u e
  unfold refS at e
  rw [show (x :: r).drop 1 = r from rfl] at e
  cases hc : cutS [59] r with
  | none => rw [hc] at e; cases e
  | some q =>
    rw [hc] at e
    dsimp only at e
    cases ht : toldS q.1 with
    | none => rw [ht] at e; cases e
    | some n =>
      rw [ht] at e
      cases e
      have := cutS_split [59] hc
      refine ⟨x :: (q.1 ++ [59]), ?_, ?_, by simp⟩
      · rw [List.cons_append, List.append_assoc]; exact congrArg (x :: ·) this
      · rw [List.length_cons, List.length_append]; simp only [List.length_cons, List.length_nil]; omega
theorem run_rest9 (q : Option UInt8) (r : List UInt8) : runS q r ++ restS q r = r := List.takeWhile_append_dropWhile
theorem mixG_fwd (q : Option UInt8) : ∀ (g i : Nat) (r : List UInt8), (mixG q g i r).Fwd i r
  | 0, _, _ => Sx.fwd_no _ _ _ _
  | g + 1, i, r => by
    rw [mixG]
    split
    · exact Sx.fwd_no _ _ _ _
    · next t _ =>
      have hrr := run_rest9 q r
      split
      · next hp =>
        intro y k u e
        cases hrest : restS q r with
        | nil => rw [hrest] at hp; cases hp
        | cons x rest =>
          rw [hrest] at e hrr
          obtain ⟨p, h1, h2⟩ := ((refS_fwd1 (i + (runS q r).length) x rest).fwd.then fun n j t2 _ => (mixG_fwd q g j t2).then fun u k t3 _ => Sx.fwd_here (t ++ (encB n ++ u)) k t3) y k u e
          exact ⟨runS q r ++ p, by rw [List.append_assoc, ← h1, hrr], by rw [h2, List.length_append, Nat.add_assoc]⟩
      · intro y k u e
        cases e
        exact ⟨runS q r, hrr.symm, rfl⟩
theorem mixS_fwd (q : Option UInt8) (i : Nat) (r : List UInt8) : (mixS q i r).Fwd i r := mixG_fwd q _ i r
theorem valueS_fwd (i : Nat) (r : List UInt8) : (valueS i r).Fwd i r := by
  intro y k u e
  cases r with
  | nil => cases e
  | cons x t =>
    unfold valueS at e
    rw [show peekS i (x :: t) = .ok x i (x :: t) from rfl, Sx.then_ok] at e
    split at e
    · cases e
    · rw [show (x :: t).drop 1 = t from rfl] at e
      obtain ⟨p, h1, h2⟩ := ((mixS_fwd (some x) (i + 1) t).then fun v j t2 _ => (mustS_fwd1 x j t2).fwd.then fun _ k t3 _ => Sx.fwd_here v k t3) y k u e
      exact ⟨x :: p, by rw [h1]; rfl, by rw [h2, List.length_cons]; omega⟩
theorem attrS_fwd1 (ns : List (List UInt8)) (i : Nat) (r : List UInt8) : (attrS ns i r).Fwd1 i r := by
  unfold attrS
  refine (nameS_fwd1 i r).then fun nm j t _ => ?_
  split
  · exact Sx.fwd_no _ _ _ _
  · exact (blanksS_fwd j t).then fun _ j t _ => (mustS_fwd1 61 j t).fwd.then fun _ j t _ => (blanksS_fwd j t).then fun _ j t _ => (valueS_fwd j t).then fun v j t _ => Sx.fwd_here (nm, v) j t
theorem tagG_fwd : ∀ (g : Nat) (ats : List (List UInt8 × List UInt8)) (i : Nat) (r : List UInt8), (tagG g ats i r).Fwd i r
  | 0, _, _, _ => Sx.fwd_no _ _ _ _
  | g + 1, ats, i, r => by
    rw [tagG]
    refine (blanksS_fwd i r).then fun apart j t _ => ?_
    cases t with
    | nil => exact Sx.fwd_no _ _ _ _
    | cons x t =>
      rw [show peekS j (x :: t) = .ok x j (x :: t) from rfl, Sx.then_ok]
      split
      · rw [show (x :: t).drop 1 = t from rfl]
        intro y k u e
        obtain ⟨p, h1, h2⟩ := ((mustS_fwd1 62 (j + 1) t).fwd.then fun _ k t3 _ => Sx.fwd_here (2, ats) k t3) y k u e
        exact ⟨x :: p, by rw [h1]; rfl, by rw [h2, List.length_cons]; omega⟩
      · split
        · exact (mustS_fwd1 62 j (x :: t)).fwd.then fun _ k t3 _ => Sx.fwd_here (1, ats) k t3
        · split
          · exact Sx.fwd_no _ _ _ _
          · exact (attrS_fwd1 (ats.map Prod.fst) j (x :: t)).fwd.then fun a k t2 _ => tagG_fwd g (ats ++ [a]) k t2
theorem startS_fwd1 (i : Nat) (r : List UInt8) : (startS i r).Fwd1 i r :=
  (nameS_fwd1 i r).then fun nm j t _ => (tagG_fwd (t.length + 1) [] j t).then fun q k t2 _ => Sx.fwd_here (q.1, nm, q.2) k t2
theorem endTagS_fwd (i : Nat) (r : List UInt8) : (endTagS i r).Fwd i r :=
  (nameS_fwd1 i r).fwd.then fun nm j t _ => (blanksS_fwd j t).then fun _ j t _ => (mustS_fwd1 62 j t).fwd.then fun _ k t2 _ => Sx.fwd_here nm k t2
theorem piS_fwd (i : Nat) (r : List UInt8) : (piS i r).Fwd i r := by
  unfold piS
  refine (nameS_fwd1 i r).fwd.then fun nm j t _ => ?_
  split
  · exact Sx.fwd_no _ _ _ _
  · refine (blanksS_fwd j t).then fun b j t _ => ?_
    split
    · exact (upToS_fwd _ j t).then fun u k t2 _ => Sx.fwd_here (nm, u) k t2
    · exact (mustS_fwd1 63 j t).fwd.then fun _ j t _ => (mustS_fwd1 62 j t).fwd.then fun _ k t2 _ => Sx.fwd_here (nm, []) k t2
theorem commentS_fwd (i : Nat) (r : List UInt8) : (commentS i r).Fwd i r := by
  unfold commentS
  refine (upToS_fwd _ i r).then fun u j t _ => ?_
  cases t with
  | nil => exact Sx.fwd_no _ _ _ _
  | cons x t =>
    rw [show peekS j (x :: t) = .ok x j (x :: t) from rfl, Sx.then_ok]
    split
    · exact Sx.fwd_no _ _ _ _
    · intro y k u e
      cases e
      exact ⟨[x], rfl, rfl⟩
theorem opens_yes {m : List UInt8} {i j : Nat} {r t : List UInt8} (h : opensS m i r = .ok true j t) : r = m ++ t ∧ j = i + m.length := by
  unfold opensS at h
  split at h
  · cases h
  · split at h
    · next hp =>
      cases h
      obtain ⟨s, hs⟩ := List.isPrefixOf_iff_prefix.1 hp
      rw [← hs]
      simp
    · cases h
theorem opens_no {m : List UInt8} {i j : Nat} {r t : List UInt8} (h : opensS m i r = .ok false j t) : j = i ∧ t = r := by
  unfold opensS at h
  split at h
  · cases h
  · split at h
    · cases h
    · cases h; exact ⟨rfl, rfl⟩
/-- A mark ahead of a step. -/
theorem lenS_fwd1 {m : List UInt8} (hm : 0 < m.length) {i : Nat} {r : List UInt8} {yes : Nat → List UInt8 → Sx Tk} {no : Sx Tk} (hy : ∀ j t, (yes j t).Fwd j t) (hn : no.Fwd1 i r) : (lenS i (opensS m i r) yes no).Fwd1 i r := by
  unfold lenS
  cases ho : opensS m i r with
  | no c p => exact Sx.fwd1_no _ _ _ _
  | ok b j t =>
    rw [Sx.then_ok]
    cases b with
    | true =>
      rw [if_pos rfl]
      obtain ⟨h1, h2⟩ := opens_yes ho
      intro y k u e
      obtain ⟨p, h3, h4⟩ := hy j t y k u e
      exact ⟨m ++ p, by rw [h1, h3, List.append_assoc], by rw [h4, h2, List.length_append, Nat.add_assoc], by rw [List.length_append]; omega⟩
    | false =>
      rw [if_neg Bool.false_ne_true]
      exact hn
theorem runS_pos (q : Option UInt8) (x : UInt8) (r : List UInt8) (h : endS q x = false) : 0 < (runS q (x :: r)).length := by
  unfold runS
  rw [List.takeWhile_cons_of_pos (by rw [h]; rfl), List.length_cons]
  omega
theorem tokS_fwd1 (i : Nat) (x : UInt8) (r : List UInt8) : (tokS i (x :: r)).Fwd1 i (x :: r) := by
  unfold tokS
  split
  · next hp =>
    intro y k u e
    have hx : x ≠ 60 := by
      intro h
      rw [h] at hp
      cases hp
    cases hm : mixS none i (x :: r) with
    | no c p => rw [hm] at e; cases e
    | ok v j t =>
      rw [hm, Sx.then_ok] at e
      cases e
      by_cases h38 : x = 38
      · obtain ⟨p, h1, h2⟩ := mixS_fwd none i (x :: r) v k u hm
        refine ⟨p, h1, h2, ?_⟩
        cases p with
        | cons => rw [List.length_cons]; omega
        | nil =>
          exfalso
          -- a reference goes on
          unfold mixS at hm
          rw [mixG] at hm
          have he : endS none x = true := by rw [h38]; rfl
          have hrun : runS none (x :: r) = [] := by unfold runS; rw [List.takeWhile_cons_of_neg (by rw [he]; decide)]
          have hrest : restS none (x :: r) = x :: r := by unfold restS; rw [List.dropWhile_cons_of_neg (by rw [he]; decide)]
          rw [hrun, hrest] at hm
          have ht : turnS none i [] = .ok [] := rfl
          rw [ht] at hm
          dsimp only at hm
          rw [if_pos (by rw [h38]; rfl)] at hm
          obtain ⟨p, h3, h4, h5⟩ := ((refS_fwd1 (i + ([] : List UInt8).length) x r).then fun n j t2 _ => (mixG_fwd none (x :: r).length j t2).then fun u k t3 _ => Sx.fwd_here ([] ++ (encB n ++ u)) k t3) v k u hm
          rw [List.length_nil] at h2 h4
          omega
      · have he : endS none x = false := by
          unfold endS
          rw [beq_eq_false_iff_ne.2 hx, beq_eq_false_iff_ne.2 h38]
          rfl
        have hpos := runS_pos none x r he
        unfold mixS at hm
        rw [mixG] at hm
        cases htn : turnS none i (runS none (x :: r)) with
        | error p => rw [htn] at hm; cases hm
        | ok t0 =>
          rw [htn] at hm
          dsimp only at hm
          have hrr := run_rest9 none (x :: r)
          split at hm
          · next hp2 =>
            cases hrest : restS none (x :: r) with
            | nil => rw [hrest] at hp2; cases hp2
            | cons x1 rest =>
              rw [hrest] at hm hrr
              obtain ⟨p, h1, h2⟩ := ((refS_fwd1 (i + (runS none (x :: r)).length) x1 rest).fwd.then fun n j t2 _ => (mixG_fwd none (x :: r).length j t2).then fun u k t3 _ => Sx.fwd_here (t0 ++ (encB n ++ u)) k t3) v k u hm
              exact ⟨runS none (x :: r) ++ p, by rw [List.append_assoc, ← h1, hrr], by rw [h2, List.length_append, Nat.add_assoc], by rw [List.length_append]; omega⟩
          · cases hm
            exact ⟨runS none (x :: r), hrr.symm, rfl, hpos⟩
  · next hp =>
    have hx : x = 60 := by
      by_cases h : x = 60
      · exact h
      · exfalso
        apply hp
        show ((60 : UInt8) == x && true) = false
        rw [beq_eq_false_iff_ne.2 (fun e => h e.symm)]
        rfl
    refine lenS_fwd1 (by decide) (fun j t => (commentS_fwd j t).then fun u k t2 _ => Sx.fwd_here _ k t2) ?_
    refine lenS_fwd1 (by decide) (fun j t => (upToS_fwd _ j t).then fun u k t2 _ => Sx.fwd_here _ k t2) ?_
    refine lenS_fwd1 (by decide) (fun j t => Sx.fwd_no _ _ _ _) ?_
    refine lenS_fwd1 (by decide) (fun j t => (piS_fwd j t).then fun u k t2 _ => Sx.fwd_here _ k t2) ?_
    refine lenS_fwd1 (by decide) (fun j t => (endTagS_fwd j t).then fun u k t2 _ => Sx.fwd_here _ k t2) ?_
    -- the last mark always stands here
    unfold lenS
    have ho : opensS [60] i (x :: r) = .ok true (i + 1) r := by
      unfold opensS
      rw [if_neg (by rw [List.length_cons, List.length_cons, List.length_nil]; omega), hx, if_pos (by rfl)]
      rfl
    rw [ho, Sx.then_ok, if_pos rfl]
    intro y k u e
    obtain ⟨p, h1, h2⟩ := ((startS_fwd1 (i + 1) r).fwd.then fun q k t2 _ => Sx.fwd_here (⟨q.1, i, q.2.1, [], q.2.2⟩ : Tk) k t2) y k u e
    exact ⟨x :: p, by rw [h1]; rfl, by rw [h2, List.length_cons]; omega, by rw [List.length_cons]; omega⟩

end Go.Proofs.YtfonflbpkbibbaaGreatDoor
