/-
 What a scan's steps tell of a document whose bytes are right: texts and values whose bytes are right, names that are names; tokens' places rise, no two rows of characters stand beside each other.
-/
import Derived.Test.YtjpkkflhcjjefaaGreatDoorXOk
namespace Go.Proofs.YtjpkkflhcjjefaaGreatDoor
open Go.RowKit Go.Lib Go.Joins
def OkN (N : Nat) (l : List UInt8) : Prop := Ok8 l ∧ l.length ≤ N
variable {N : Nat}
theorem OkN.tail {x : UInt8} {t : List UInt8} (h : OkN N (x :: t)) (hx : x.toNat < 128) : OkN N t := ⟨(h.1.tail hx).1, by have := h.2; rw [List.length_cons] at this; omega⟩
theorem OkN.peel {m t : List UInt8} (hm : ∀ x ∈ m, x.toNat < 128) (h : OkN N (m ++ t)) : OkN N t := ⟨Ok8.peel hm h.1, by have := h.2; rw [List.length_append] at this; omega⟩
theorem OkN.cut {s t : List UInt8} (ht : ∀ x u, t = x :: u → x.toNat < 128) (h : OkN N (s ++ t)) : OkN N s ∧ OkN N t := by
 have h2 := h.2
 rw [List.length_append] at h2
 exact ⟨⟨(h.1.cut ht).1, by omega⟩, (h.1.cut ht).2, by omega⟩
def Sx.Good {α : Type} (N : Nat) (P : α → Prop) (s : Sx α) : Prop := ∀ x j t, s = .ok x j t → P x ∧ OkN N t
theorem Sx.good_no {α : Type} {P : α → Prop} (c p : Nat) : (Sx.no c p : Sx α).Good N P := fun _ _ _ e => by cases e
theorem Sx.good_ok {α : Type} {P : α → Prop} {x : α} (i : Nat) {r : List UInt8} (hx : P x) (hr : OkN N r) : (Sx.ok x i r).Good N P := fun _ _ _ e => by cases e; exact ⟨hx, hr⟩
theorem Sx.Good.then {α β : Type} {P : α → Prop} {Q : β → Prop} {s : Sx α} {f : α → Nat → List UInt8 → Sx β} (h : s.Good N P) (hf : ∀ x j t, P x → OkN N t → (f x j t).Good N Q) : (s.then f).Good N Q := by
 cases s with
 | no c p => exact Sx.good_no c p
 | ok x j t => exact hf x j t (h x j t rfl).1 (h x j t rfl).2
theorem Sx.good_ite {α : Type} {P : α → Prop} {c : Prop} [Decidable c] {s t : Sx α} (hs : s.Good N P) (ht : t.Good N P) : (if c then s else t).Good N P := by
 split
 ·exact hs
 ·exact ht
def Any {α : Type} (_ : α) : Prop := True
def NameP (N : Nat) (l : List UInt8) : Prop := (l ≠ [] ∧ Nm8 true l) ∧ l.length ≤ N
def TextP (N : Nat) (l : List UInt8) : Prop := Ok8 l ∧ l.length ≤ 4 * N
def AtGood (N : Nat) (a : List UInt8 × List UInt8) : Prop := NameP N a.1 ∧ TextP N a.2
theorem mustS_good {c : UInt8} (hc : c.toNat < 128) (i : Nat) {r : List UInt8} (h : OkN N r) : (mustS c i r).Good N Any := by
 cases r with
 | nil => exact Sx.good_no _ _
 | cons x t =>
  rw [mustS]
  split
  ·next hx => exact Sx.good_ok _ trivial (h.tail (by rw [hx]; exact hc))
  ·exact Sx.good_no _ _
theorem blank_ascii {x : UInt8} (h : blankB (x.toNat : Int) = true) : x.toNat < 128 := by
 simp only [blankB, Bool.or_eq_true, beq_iff_eq] at h
 omega
theorem blkS_good : ∀ (r : List UInt8) (i : Nat), OkN N r → (blkS i r).Good N Any
 | [], _, _ => Sx.good_no _ _
 | x :: t, i, h => by
  rw [blkS]
  split
  ·next hb => exact blkS_good t _ (h.tail (blank_ascii hb))
  ·exact Sx.good_ok _ trivial h
theorem blanksS_good (i : Nat) {r : List UInt8} (h : OkN N r) : (blanksS i r).Good N Any := (blkS_good r i h).then fun _ _ _ _ ht => Sx.good_ok _ trivial ht
theorem nameS_good (i : Nat) {r : List UInt8} (h : OkN N r) : (nameS i r).Good N (NameP N) := fun _ _ _ e => by
 obtain ⟨h1, _, h3, h4, h5⟩ := nameS_ok h.1 e
 have hl := h.2
 rw [h1, List.length_append] at hl
 exact ⟨⟨⟨h3, h4⟩, by omega⟩, h5, by omega⟩
theorem cutS_good {m : List UInt8} (hm : ∀ x ∈ m, x.toNat < 128) (hne : m ≠ []) {r : List UInt8} (h : OkN N r) {q : List UInt8 × List UInt8} (e : cutS m r = some q) : OkN N q.1 ∧ OkN N q.2 := by
 have hs := cutS_split m e
 rw [hs] at h
 obtain ⟨h1, h2⟩ := h.cut (s := q.1) (t := m ++ q.2) (fun x u hx => by
  cases m with
  | nil => exact absurd rfl hne
  | cons y m => injection hx with hx _; rw [← hx]; exact hm y (List.mem_cons_self ..))
 exact ⟨h1, OkN.peel hm h2⟩
theorem upToS_good {m : List UInt8} (hm : ∀ x ∈ m, x.toNat < 128) (hne : m ≠ []) (i : Nat) {r : List UInt8} (h : OkN N r) : (upToS m i r).Good N (TextP N) := by
 unfold upToS
 cases hc : cutS m r with
 | none => exact Sx.good_no _ _
 | some q =>
  obtain ⟨h1, h2⟩ := cutS_good hm hne h hc
  exact Sx.good_ok _ ⟨h1.1.eols, by have := eols_length q.1; have := h1.2; omega⟩ h2
theorem charS_good {q : Option Nat} {n : Nat} (h : charS q = some n) : inTab charsT (n : Int) = true := by
 cases q with
 | none => cases h
 | some v =>
  have h2 : (if inTab charsT (v : Int) = true then some v else none) = some n := h
  split at h2
  ·next hv => cases h2; exact hv
  ·cases h2
theorem toldS_good {s : List UInt8} {n : Nat} (h : toldS s = some n) : inTab charsT (n : Int) = true := by
 unfold toldS at h
 split at h
 ·cases h; kernel_rfl
 ·split at h
  ·cases h; kernel_rfl
  ·split at h
   ·cases h; kernel_rfl
   ·split at h
    ·cases h; kernel_rfl
    ·split at h
     ·cases h; kernel_rfl
     ·split at h
      ·exact charS_good h
      ·split at h
       ·exact charS_good h
       ·cases h
def CharP (n : Nat) : Prop := inTab charsT (n : Int) = true
theorem refS_good (i : Nat) {x : UInt8} (hx : x.toNat < 128) {r : List UInt8} (h : OkN N (x :: r)) : (refS i (x :: r)).Good N CharP := by
 unfold refS
 rw [show (x :: r).drop 1 = r from rfl]
 cases hc : cutS [59] r with
 | none => exact Sx.good_no _ _
 | some q =>
  dsimp only
  cases ht : toldS q.1 with
  | none => exact Sx.good_no _ _
  | some n => exact Sx.good_ok _ (toldS_good ht) (cutS_good (m := [59]) (fun y hy => by rw [List.mem_singleton.1 hy]; decide) (List.cons_ne_nil _ _) (h.tail hx) hc).2
theorem turnS_good {q : Option UInt8} {i : Nat} {run t : List UInt8} (h : Ok8 run) (e : turnS q i run = .ok t) : Ok8 t := by
 cases q with
 | none =>
  unfold turnS at e
  dsimp only at e
  split at e
  ·cases e
  ·cases e; exact h.eols
 | some c => cases e; exact h.flat
theorem rest_end (q : Option UInt8) : ∀ {r : List UInt8} {x : UInt8} {u : List UInt8}, restS q r = x :: u → endS q x = true
 | [], x, u, h => by cases h
 | y :: r, x, u, h => by
  unfold restS at h
  rw [List.dropWhile_cons] at h
  split at h
  ·exact rest_end q h
  ·next hy =>
   injection h with h1 _
   rw [← h1]
   cases he : endS q y with
   | true => rfl
   | false => rw [he] at hy; exact absurd rfl hy
def QLow (q : Option UInt8) : Prop := ∀ c, q = some c → c.toNat < 128
theorem end_ascii {q : Option UInt8} (hq : QLow q) {x : UInt8} (h : endS q x = true) : x.toNat < 128 := by
 unfold endS at h
 rw [Bool.or_eq_true, Bool.or_eq_true, beq_iff_eq, beq_iff_eq] at h
 rcases h with (h | h) | h
 ·rw [h]; decide
 ·rw [h]; decide
 ·cases q with
  | none => cases h
  | some c =>
   have := beq_iff_eq.1 h
   rw [this]
   exact hq c rfl
theorem run_rest_ok {q : Option UInt8} (hq : QLow q) {r : List UInt8} (h : OkN N r) : OkN N (runS q r) ∧ OkN N (restS q r) := by
 rw [← run_rest9 q r] at h
 exact h.cut fun x u hx => end_ascii hq (rest_end q hx)
theorem prefix_one {c : UInt8} {r : List UInt8} (h : [c].isPrefixOf r = true) : ∃ u, r = c :: u := by
 cases r with
 | nil => cases h
 | cons x u =>
  have h2 : (c == x && true) = true := h
  rw [Bool.and_true, beq_iff_eq] at h2
  exact ⟨u, by rw [h2]⟩
theorem prefix_one_not {c : UInt8} {x : UInt8} {u : List UInt8} (h : [c].isPrefixOf (x :: u) = false) : x ≠ c := by
 intro hx
 have h2 : (c == x && true) = false := h
 rw [hx, beq_self_eq_true] at h2
 cases h2
theorem mixG_good {q : Option UInt8} (hq : QLow q) : ∀ (g i : Nat) {r : List UInt8}, OkN N r → (mixG q g i r).Good N Ok8
 | 0, _, _, _ => Sx.good_no _ _
 | g + 1, i, r, h => by
  rw [mixG]
  obtain ⟨h1, h2⟩ := run_rest_ok hq h
  split
  ·exact Sx.good_no _ _
  ·next t ht =>
   have h3 := turnS_good h1.1 ht
   split
   ·next hp =>
    obtain ⟨u, hu⟩ := prefix_one hp
    rw [hu] at h2 ⊢
    exact (refS_good _ (by decide) h2).then fun n j t2 hn h4 => (mixG_good hq g j h4).then fun v k t3 h5 h6 => Sx.good_ok _ (h3.append ((Ok8.of_rune hn).append h5)) h6
   ·exact Sx.good_ok _ h3 h2
theorem mixG_rest (q : Option UInt8) : ∀ (g i : Nat) (r : List UInt8) {v : List UInt8} {j : Nat} {t : List UInt8}, mixG q g i r = .ok v j t → ∀ y u, t = y :: u → endS q y = true ∧ y ≠ 38
 | 0, _, _, _, _, _, e => by cases e
 | g + 1, i, r, v, j, t, e => by
  rw [mixG] at e
  split at e
  ·cases e
  ·next t0 _ =>
   split at e
   ·cases hr : refS (i + (runS q r).length) (restS q r) with
    | no c p => rw [hr] at e; cases e
    | ok n j2 t2 =>
     rw [hr, Sx.then_ok] at e
     cases hm : mixG q g j2 t2 with
     | no c p => rw [hm] at e; cases e
     | ok v2 j3 t3 =>
      rw [hm, Sx.then_ok] at e
      cases e
      exact mixG_rest q g j2 t2 hm
   ·next hp =>
    cases e
    intro y u hy
    refine ⟨rest_end q hy, fun h38 => hp ?_⟩
    rw [hy, h38]
    rfl
theorem turnS_len {q : Option UInt8} {i : Nat} {run t : List UInt8} (e : turnS q i run = .ok t) : t.length ≤ run.length := by
 cases q with
 | none =>
  unfold turnS at e
  dsimp only at e
  split at e
  ·cases e
  ·cases e; exact eols_length run
 | some c =>
  cases e
  unfold flatS
  rw [List.length_map]
  exact eols_length run
theorem encB_len4 (n : Nat) : (encB n).length ≤ 4 := by
 have := encL_len (n : Int)
 rw [encL_nat] at this
 rw [encB_length]
 exact this
theorem mixG_len (q : Option UInt8) : ∀ (g i : Nat) (r : List UInt8) {v : List UInt8} {j : Nat} {t : List UInt8}, mixG q g i r = .ok v j t → v.length + 4 * t.length ≤ 4 * r.length
 | 0, _, _, _, _, _, e => by cases e
 | g + 1, i, r, v, j, t, e => by
  rw [mixG] at e
  have hrr := congrArg List.length (run_rest9 q r)
  rw [List.length_append] at hrr
  split at e
  ·cases e
  ·next t0 ht0 =>
   have h0 := turnS_len ht0
   split at e
   ·cases hz : restS q r with
    | nil => rw [hz] at e; cases e
    | cons y z =>
     rw [hz] at e hrr
     cases hr : refS (i + (runS q r).length) (y :: z) with
     | no c p => rw [hr] at e; cases e
     | ok n j2 t2 =>
      have hs := (refS_fwd1 _ y z).shorter hr
      rw [hr, Sx.then_ok] at e
      cases hm : mixG q g j2 t2 with
      | no c p => rw [hm] at e; cases e
      | ok v2 j3 t3 =>
       rw [hm, Sx.then_ok] at e
       cases e
       have h1 := mixG_len q g j2 t2 hm
       have h4 := encB_len4 n
       rw [List.length_append, List.length_append]
       omega
   ·cases e
    omega
theorem mixS_good {q : Option UInt8} (hq : QLow q) (i : Nat) {r : List UInt8} (h : OkN N r) : (mixS q i r).Good N (TextP N) := fun v j t e => by
 obtain ⟨h1, h2⟩ := mixG_good hq _ i h v j t e
 have h3 := mixG_len q _ i r e
 exact ⟨⟨h1, by have := h.2; omega⟩, h2⟩
theorem valueS_good (i : Nat) {r : List UInt8} (h : OkN N r) : (valueS i r).Good N (TextP N) := by
 cases r with
 | nil => exact Sx.good_no _ _
 | cons x t =>
  unfold valueS
  rw [show peekS i (x :: t) = .ok x i (x :: t) from rfl, Sx.then_ok]
  split
  ·exact Sx.good_no _ _
  ·next hx =>
   have hx2 : x.toNat < 128 := by
    by_cases h34 : x = 34
    ·rw [h34]; decide
    ·by_cases h39 : x = 39
     ·rw [h39]; decide
     ·exact absurd ⟨h34, h39⟩ hx
   exact (mixS_good (fun c hc => by cases hc; exact hx2) _ (h.tail hx2)).then fun u j t hu ht => (mustS_good hx2 _ ht).then fun _ k t2 _ ht2 => Sx.good_ok _ hu ht2
theorem attrS_good (ns : List (List UInt8)) (i : Nat) {r : List UInt8} (h : OkN N r) : (attrS ns i r).Good N (AtGood N) :=
 (nameS_good i h).then fun _ _ _ hnm ht => Sx.good_ite (Sx.good_no _ _) ((blanksS_good _ ht).then fun _ _ _ _ ht => (mustS_good (by decide) _ ht).then fun _ _ _ _ ht => (blanksS_good _ ht).then fun _ _ _ _ ht => (valueS_good _ ht).then fun _ _ _ hv ht => Sx.good_ok _ ⟨hnm, hv⟩ ht)
def TagP (N : Nat) (q : Nat × List (List UInt8 × List UInt8)) : Prop := (q.1 = 1 ∨ q.1 = 2) ∧ ∀ a ∈ q.2, AtGood N a
theorem tagG_good : ∀ (g : Nat) {ats : List (List UInt8 × List UInt8)} (i : Nat) {r : List UInt8}, (∀ a ∈ ats, AtGood N a) → OkN N r → (tagG g ats i r).Good N (TagP N)
 | 0, _, _, _, _, _ => Sx.good_no _ _
 | g + 1, ats, i, r, ha, h => by
  rw [tagG]
  refine (blanksS_good i h).then fun apart j t _ ht => ?_
  cases t with
  | nil => exact Sx.good_no _ _
  | cons x t =>
   rw [show peekS j (x :: t) = .ok x j (x :: t) from rfl, Sx.then_ok]
   split
   ·next hx => exact (mustS_good (by decide) _ (ht.tail (by rw [hx]; decide))).then fun _ _ _ _ ht2 => Sx.good_ok _ ⟨.inr rfl, ha⟩ ht2
   ·split
    ·exact (mustS_good (by decide) _ ht).then fun _ _ _ _ ht2 => Sx.good_ok _ ⟨.inl rfl, ha⟩ ht2
    ·split
     ·exact Sx.good_no _ _
     ·exact (attrS_good _ j ht).then fun a k t2 hat ht2 => tagG_good g k (fun b hb => (List.mem_append.1 hb).elim (ha b) (fun h => by rw [List.mem_singleton.1 h]; exact hat)) ht2
def StartP (N : Nat) (q : Nat × List UInt8 × List (List UInt8 × List UInt8)) : Prop := (q.1 = 1 ∨ q.1 = 2) ∧ NameP N q.2.1 ∧ ∀ a ∈ q.2.2, AtGood N a
theorem startS_good (i : Nat) {r : List UInt8} (h : OkN N r) : (startS i r).Good N (StartP N) :=
 (nameS_good i h).then fun _ _ _ hnm ht => (tagG_good _ _ (fun _ h => by cases h) ht).then fun _ _ _ hq ht2 => Sx.good_ok _ ⟨hq.1, hnm, hq.2⟩ ht2
theorem endTagS_good (i : Nat) {r : List UInt8} (h : OkN N r) : (endTagS i r).Good N (NameP N) :=
 (nameS_good i h).then fun _ _ _ hnm ht => (blanksS_good _ ht).then fun _ _ _ _ ht => (mustS_good (by decide) _ ht).then fun _ _ _ _ ht2 => Sx.good_ok _ hnm ht2
def PiP (N : Nat) (q : List UInt8 × List UInt8) : Prop := NameP N q.1 ∧ TextP N q.2
theorem textP_nil : TextP N [] := ⟨.nil, Nat.zero_le _⟩
theorem low_63 : ∀ x ∈ ([63, 62] : List UInt8), x.toNat < 128 := by decide
theorem low_45 : ∀ x ∈ ([45, 45] : List UInt8), x.toNat < 128 := by decide
theorem low_93 : ∀ x ∈ ([93, 93, 62] : List UInt8), x.toNat < 128 := by decide
theorem piS_good (i : Nat) {r : List UInt8} (h : OkN N r) : (piS i r).Good N (PiP N) :=
 (nameS_good i h).then fun _ _ _ hnm ht => Sx.good_ite (Sx.good_no _ _) ((blanksS_good _ ht).then fun _ _ _ _ ht => Sx.good_ite ((upToS_good low_63 (List.cons_ne_nil _ _) _ ht).then fun _ _ _ hu ht2 => Sx.good_ok _ ⟨hnm, hu⟩ ht2)
  ((mustS_good (by decide) _ ht).then fun _ _ _ _ ht => (mustS_good (by decide) _ ht).then fun _ _ _ _ ht2 => Sx.good_ok _ ⟨hnm, textP_nil⟩ ht2))
theorem commentS_good (i : Nat) {r : List UInt8} (h : OkN N r) : (commentS i r).Good N (TextP N) := by
 unfold commentS
 refine (upToS_good low_45 (List.cons_ne_nil _ _) i h).then fun u j t hu ht => ?_
 cases t with
 | nil => exact Sx.good_no _ _
 | cons x t =>
  rw [show peekS j (x :: t) = .ok x j (x :: t) from rfl, Sx.then_ok]
  split
  ·exact Sx.good_no _ _
  ·next hx =>
   have hx2 : x = 62 := Classical.not_not.1 hx
   exact Sx.good_ok _ hu (ht.tail (by rw [hx2]; decide))
theorem lenS_good {P : Tk → Prop} {m : List UInt8} (hm : ∀ x ∈ m, x.toNat < 128) {i : Nat} {r : List UInt8} (h : OkN N r) {yes : Nat → List UInt8 → Sx Tk} {no : Sx Tk} (hy : ∀ j t, OkN N t → (yes j t).Good N P) (hn : no.Good N P) : (lenS i (opensS m i r) yes no).Good N P := by
 unfold lenS
 cases ho : opensS m i r with
 | no c p => exact Sx.good_no _ _
 | ok b j t =>
  rw [Sx.then_ok]
  cases b with
  | true =>
   rw [if_pos rfl]
   obtain ⟨h1, _⟩ := opens_yes ho
   rw [h1] at h
   exact hy j t (OkN.peel hm h)
  | false =>
   rw [if_neg Bool.false_ne_true]
   exact hn
structure TkGood (N : Nat) (tk : Tk) : Prop where
 text : TextP N tk.text
 attrs : ∀ a ∈ tk.attrs, AtGood N a
 name : (NameP N tk.name ∧ (tk.kind = 1 ∨ tk.kind = 2 ∨ tk.kind = 3 ∨ tk.kind = 7)) ∨ (tk.name = [] ∧ (tk.kind = 4 ∨ tk.kind = 5 ∨ tk.kind = 6))
def TokP (N i : Nat) (x : UInt8) (tk : Tk) : Prop := TkGood N tk ∧ tk.at_ = i ∧ (tk.kind = 4 ↔ x ≠ 60)
theorem no_attrs : ∀ a ∈ ([] : List (List UInt8 × List UInt8)), AtGood N a := fun _ h => by cases h
theorem tokS_good (i : Nat) {x : UInt8} {r : List UInt8} (h : OkN N (x :: r)) : (tokS i (x :: r)).Good N (TokP N i x) := by
 unfold tokS
 split
 ·next hp =>
  have hx := prefix_one_not hp
  exact (mixS_good (fun _ hc => by cases hc) _ h).then fun u j t hu ht => Sx.good_ok _ ⟨⟨hu, no_attrs, .inr ⟨rfl, .inl rfl⟩⟩, rfl, fun _ => hx, fun _ => rfl⟩ ht
 ·next hp =>
  have hx : x = 60 := by
   obtain ⟨u, hu⟩ := prefix_one (Bool.of_not_eq_false hp)
   injection hu
  have hne : ∀ k : Nat, k ≠ 4 → (k = 4 ↔ x ≠ 60) := fun k hk => ⟨fun h => absurd h hk, fun h => absurd hx h⟩
  refine lenS_good (by decide) h (fun j t ht => (commentS_good j ht).then fun u k t2 hu ht2 => Sx.good_ok _ ⟨⟨hu, no_attrs, .inr ⟨rfl, .inr (.inr rfl)⟩⟩, rfl, hne 6 (by decide)⟩ ht2) ?_
  refine lenS_good (by decide) h (fun j t ht => (upToS_good low_93 (List.cons_ne_nil _ _) j ht).then fun u k t2 hu ht2 => Sx.good_ok _ ⟨⟨hu, no_attrs, .inr ⟨rfl, .inr (.inl rfl)⟩⟩, rfl, hne 5 (by decide)⟩ ht2) ?_
  refine lenS_good (by decide) h (fun j t ht => Sx.good_no _ _) ?_
  refine lenS_good (by decide) h (fun j t ht => (piS_good j ht).then fun u k t2 hu ht2 => Sx.good_ok _ ⟨⟨hu.2, no_attrs, .inl ⟨hu.1, .inr (.inr (.inr rfl))⟩⟩, rfl, hne 7 (by decide)⟩ ht2) ?_
  refine lenS_good (by decide) h (fun j t ht => (endTagS_good j ht).then fun u k t2 hu ht2 => Sx.good_ok _ ⟨⟨textP_nil, no_attrs, .inl ⟨hu, .inr (.inr (.inl rfl))⟩⟩, rfl, hne 3 (by decide)⟩ ht2) ?_
  unfold lenS
  have ho : opensS [60] i (x :: r) = .ok true (i + 1) r := by
   unfold opensS
   rw [if_neg (by rw [List.length_cons, List.length_cons, List.length_nil]; omega), hx, if_pos (by rfl)]
   rfl
  rw [ho, Sx.then_ok, if_pos rfl]
  exact (startS_good (i + 1) (h.tail (by rw [hx]; decide))).then fun q k t2 hq ht2 => Sx.good_ok _ ⟨⟨textP_nil, hq.2.2, .inl ⟨hq.2.1, by rcases hq.1 with e | e; exact .inl e; exact .inr (.inl e)⟩⟩, rfl, by rcases hq.1 with e | e <;> (rw [show (⟨q.1, i, q.2.1, [], q.2.2⟩ : Tk).kind = q.1 from rfl, e]; exact hne _ (by decide))⟩ ht2
theorem tokS_text {i : Nat} {x : UInt8} {r : List UInt8} {tk : Tk} {j : Nat} {t : List UInt8} (e : tokS i (x :: r) = .ok tk j t) (hx : x ≠ 60) : ∀ y u, t = y :: u → y = 60 := by
 unfold tokS at e
 rw [if_pos (by
  show ((60 : UInt8) == x && true) = false
  rw [beq_eq_false_iff_ne.2 (fun h => hx h.symm)]
  rfl)] at e
 cases hm : mixS none i (x :: r) with
 | no c p => rw [hm] at e; cases e
 | ok v j2 t2 =>
  rw [hm, Sx.then_ok] at e
  cases e
  intro y u hy
  obtain ⟨h1, h2⟩ := mixG_rest none _ _ _ hm y u hy
  unfold endS at h1
  rw [Bool.or_eq_true, Bool.or_eq_true, beq_iff_eq, beq_iff_eq] at h1
  rcases h1 with (h1 | h1) | h1
  ·exact h1
  ·exact absurd h1 h2
  ·cases h1
def Seq9 (b : List UInt8) : Nat → Bool → List Tk → Prop
 | _, _, [] => True
 | lo, pt, tk :: ts => lo ≤ tk.at_ ∧ tk.at_ < b.length ∧ TkGood b.length tk ∧ (tk.kind ≠ 4 → b[tk.at_]? = some 60) ∧ ¬ (pt = true ∧ tk.kind = 4) ∧ Seq9 b (tk.at_ + 1) (tk.kind == 4) ts
theorem Seq9.mono {b : List UInt8} {lo lo' : Nat} {pt : Bool} {ts : List Tk} (h : Seq9 b lo pt ts) (hl : lo' ≤ lo) : Seq9 b lo' pt ts := by
 cases ts with
 | nil => trivial
 | cons tk ts => exact ⟨Nat.le_trans hl h.1, h.2⟩
theorem toksG_seq (b : List UInt8) : ∀ (g i : Nat) (r : List UInt8) (pt : Bool), r = b.drop i → OkN b.length r → (pt = true → ∀ y u, r = y :: u → y = 60) → ∀ ts j t, toksG g i r = .ok ts j t → Seq9 b i pt ts
 | 0, i, r, pt, _, _, _, ts, j, t, e => by cases e; trivial
 | g + 1, i, r, pt, hr, h, hpt, ts, j, t, e => by
  cases r with
  | nil => rw [toksG, if_pos rfl] at e; cases e; trivial
  | cons x r =>
   rw [toksG, if_neg (List.cons_ne_nil _ _)] at e
   cases hk : tokS i (x :: r) with
   | no c p => rw [hk] at e; cases e
   | ok tk j2 t2 =>
    rw [hk, Sx.then_ok] at e
    cases hm : toksG g j2 t2 with
    | no c p => rw [hm] at e; cases e
    | ok ts2 j3 t3 =>
     rw [hm, Sx.then_ok] at e
     cases e
     obtain ⟨⟨h1, h2, h3⟩, h4⟩ := tokS_good i h tk j2 t2 hk
     obtain ⟨p, h5, h6, h7⟩ := tokS_fwd1 i x r tk j2 t2 hk
     have hlt : i < b.length := by
      apply Nat.lt_of_not_le
      intro hle
      rw [List.drop_eq_nil_of_le hle] at hr
      cases hr
     have hbi : b[i]? = some x := by
      have := congrArg (·[0]?) hr
      simpa [List.getElem?_drop] using this.symm
     have hdrop : t2 = b.drop j2 := by
      have h8 : (b.drop i).drop p.length = t2 := by rw [← hr, h5, List.drop_left]
      rw [← h8, List.drop_drop, h6]
     refine ⟨by rw [h2]; exact Nat.le_refl _, by rw [h2]; exact hlt, h1, fun hk4 => ?_, fun hh => ?_, ?_⟩
     ·rw [h2, hbi]
      by_cases hx : x = 60
      ·rw [hx]
      ·exact absurd (h3.2 hx) hk4
     ·exact h3.1 hh.2 (hpt hh.1 x r rfl)
     ·rw [h2]
      refine Seq9.mono (toksG_seq b g j2 t2 (tk.kind == 4) hdrop h4 (fun hk4 y u hy => ?_) ts2 _ _ hm) (by omega)
      exact tokS_text hk (h3.1 (beq_iff_eq.1 hk4)) y u hy
def declP : List UInt8 := [60, 63, 120, 109, 108]
def declT (b : List UInt8) : Bool :=
 match b.drop 5 with
 | [] => false
 | x :: _ => blankB (x.toNat : Int)
theorem declC_eq (b : List UInt8) : declS b = if declP.isPrefixOf b = true ∧ declT b = true then (upToS [63, 62] 5 (b.drop 5)).then fun u j t => if declaresS u = true then .ok () j t else .no 2 0 else .ok () 0 b := rfl
theorem declS_good (b : List UInt8) (h : OkN N b) : (declS b).Good N Any := by
 rw [declC_eq]
 by_cases hc : declP.isPrefixOf b = true ∧ declT b = true
 ·rw [if_pos hc]
  obtain ⟨s, hs⟩ := List.isPrefixOf_iff_prefix.1 hc.1
  have h5 : b.drop 5 = s := by rw [← hs]; rfl
  rw [h5]
  rw [← hs] at h
  exact (upToS_good low_63 (List.cons_ne_nil _ _) _ (OkN.peel (m := [60, 63, 120, 109, 108]) (by decide) h)).then fun u j t _ ht => Sx.good_ite (Sx.good_ok _ trivial ht) (Sx.good_no _ _)
 ·rw [if_neg hc]
  exact Sx.good_ok _ trivial h
theorem declS_drop (b : List UInt8) (x : Unit) (j : Nat) (t : List UInt8) (e : declS b = .ok x j t) : t = b.drop j := by
 rw [declC_eq] at e
 by_cases hc : declP.isPrefixOf b = true ∧ declT b = true
 ·rw [if_pos hc] at e
  cases hu : upToS [63, 62] 5 (b.drop 5) with
  | no c p => rw [hu] at e; cases e
  | ok u j2 t2 =>
   rw [hu, Sx.then_ok] at e
   by_cases hd : declaresS u = true
   ·rw [if_pos hd] at e
    cases e
    obtain ⟨p, h1, h2⟩ := upToS_fwd _ _ _ u j t hu
    have h8 : (b.drop 5).drop p.length = t := by rw [h1, List.drop_left]
    rw [← h8, List.drop_drop, h2]
   ·rw [if_neg hd] at e; cases e
 ·rw [if_neg hc] at e
  cases e
  rfl
theorem allS_ok8 {b : List UInt8} {ts : List Tk} {j : Nat} {t : List UInt8} (e : allS b = .ok ts j t) : Ok8 b := by
 rw [allS] at e
 split at e
 ·cases e
 ·split at e
  ·cases e
  ·next hb => exact ok_of_bad b.length b (Nat.le_refl _) hb
theorem allS_seq {b : List UInt8} {ts : List Tk} {j : Nat} {t : List UInt8} (e : allS b = .ok ts j t) : Seq9 b 0 false ts := by
 have h := allS_ok8 e
 rw [allS] at e
 split at e
 ·cases e
 ·split at e
  ·cases e
  ·cases hd : declS b with
   | no c p => rw [hd] at e; cases e
   | ok x j0 t0 =>
    rw [hd, Sx.then_ok] at e
    exact (toksG_seq b _ j0 t0 false (declS_drop b x j0 t0 hd) (declS_good b ⟨h, Nat.le_refl _⟩ x j0 t0 hd).2 (fun h => by cases h) ts j t e).mono (Nat.zero_le _)
theorem Seq9.at {b : List UInt8} : ∀ {lo : Nat} {pt : Bool} {ts : List Tk}, Seq9 b lo pt ts → ∀ (k : Nat) (tk : Tk), ts[k]? = some tk → lo ≤ tk.at_ ∧ tk.at_ < b.length ∧ TkGood b.length tk ∧ (tk.kind ≠ 4 → b[tk.at_]? = some 60)
 | _, _, [], _, k, tk, hk => by cases hk
 | lo, pt, x :: ts, h, 0, tk, hk => by cases hk; exact ⟨h.1, h.2.1, h.2.2.1, h.2.2.2.1⟩
 | lo, pt, x :: ts, h, k + 1, tk, hk => by
  obtain ⟨h1, h2⟩ := Seq9.at h.2.2.2.2.2 k tk hk
  exact ⟨by have := h.1; omega, h2⟩
theorem Seq9.pair {b : List UInt8} : ∀ {lo : Nat} {pt : Bool} {ts : List Tk}, Seq9 b lo pt ts → ∀ (k : Nat) (x y : Tk), ts[k]? = some x → ts[k + 1]? = some y → x.at_ < y.at_ ∧ ¬ (x.kind = 4 ∧ y.kind = 4)
 | _, _, [], _, k, x, y, hk, _ => by cases hk
 | lo, pt, z :: ts, h, 0, x, y, hk, hk2 => by
  cases hk
  cases ts with
  | nil => cases hk2
  | cons u ts =>
   cases hk2
   have h2 := h.2.2.2.2.2
   exact ⟨h2.1, fun hh => h2.2.2.2.2.1 ⟨beq_iff_eq.2 hh.1, hh.2⟩⟩
 | lo, pt, z :: ts, h, k + 1, x, y, hk, hk2 => Seq9.pair h.2.2.2.2.2 k x y hk hk2
end Go.Proofs.YtjpkkflhcjjefaaGreatDoor
