/-
 The reference's Fair at any node. Conditions: the tree lies in memory, and has no more than 2 to the 19 nodes and characters.
-/
import Derived.Test.YtocnedpclllbhaaGreatDoorVC
namespace Go.Proofs.YtocnedpclllbhaaGreatDoor
open Go.RowKit Go.Lib Go.Joins

theorem fair_off (k : Int) (n x : List UInt8) (ats : List (List UInt8 × List UInt8)) (ks : List Tr) (hk : k ≠ 1) (h : hasB x = false ∨ (0 < ats.length ∨ 0 < ks.length) ∨ (k ≠ 2 ∧ k ≠ 3 ∧ k ≠ 4)) : fairT (.mk k n x ats ks) = false := by
  have e : fitT k n x ats ks = false := by
    unfold fitT
    rw [if_neg hk]
    rcases h with h | h | ⟨h2, h3, h4⟩
    · rw [h, Bool.and_false, Bool.false_and]
    · rcases h with h | h
      · rw [List.isEmpty_eq_false_iff.2 (List.ne_nil_of_length_pos h), Bool.false_and, Bool.false_and, Bool.false_and]
      · rw [List.isEmpty_eq_false_iff.2 (List.ne_nil_of_length_pos h), Bool.and_false, Bool.false_and, Bool.false_and]
    · rw [if_neg h2, if_neg h3, if_neg h4, Bool.and_false]
  rw [fair_mk, e, Bool.false_and]
theorem fair_leaf (k : Int) (n x : List UInt8) (hk : k ≠ 1) (hb : hasB x = true) (v : Bool)
    (hv : (if k = 2 then n.isEmpty && !x.isEmpty else if k = 3 then n.isEmpty && !x.contains 13 && (cutS [45, 45] (x ++ [45])).isNone else if k = 4 then nameW n && !sameS n [120, 109, 108] && !x.contains 13 && (cutS [63, 62] x).isNone && bareB x else false) = v) : fairT (.mk k n x [] []) = v := by
  rw [fair_mk, fitT, if_neg hk, fairL_nil, hb, hv, Bool.and_true]
  rfl
theorem is_some (o : Option (List UInt8 × List UInt8)) : (!o.isSome) = o.isNone := by cases o <;> rfl
set_option maxRecDepth 100000 in
set_option maxHeartbeats 4000000 in
theorem rfair_calls : ∀ (m : Nat) {w : World} {r : Nr} {t : Tr}, NodeIn w Any r t → t.sz ≤ m → m ≤ 1000000 → Calls Tryz.prog 10 #[nodeV r] w (Leaves (.bool (fairT t)) w)
  | 0, _, _, t, _, h0, _ => by
    obtain ⟨k, n, x, ats, ks⟩ := t
    rw [sz_mk] at h0
    omega
  | m + 1, w, r, t, h, hz, hm => by
    obtain ⟨k0, n0, x0, ats, ks⟩ := t
    obtain ⟨k, n, x, av, kv⟩ := r
    obtain ⟨hk, hn, hx, hat, rows, hri, hni⟩ := h.kids
    dsimp only [Tr.kind, Tr.name, Tr.text, Tr.attrs, Tr.kids] at hk hn hx hat hri hni
    subst hk
    subst hn
    subst hx
    have hse := sz_mk k n x ats ks
    by_cases hk1 : k = 1
    · cases hb : hasB x with
      | true => exact rfair_el (fun h1 h2 => rfair_calls m h1 h2 (by omega)) h hk1 hz hm hb
      | false =>
        obtain ⟨aa, na, ca, rfl⟩ := hat.slice
        obtain ⟨ka, nk, ck, rfl⟩ := hri.slice
        have hf : fairT (.mk k n x ats ks) = false := by
          subst hk1
          rw [fair_el]
          have hx0 : x.isEmpty = false := by
            cases x with
            | nil => exact absurd hb (by rw [show hasB [] = true by kernel_rfl]; exact Bool.noConfusion)
            | cons _ _ => rfl
          rw [hx0, Bool.and_false, Bool.false_and, Bool.false_and]
        have hxs : x.length ≤ 1000000 := by omega
        rw [hf]
        exact rfair_no hxs (.inl hb)
    · obtain ⟨aa, na, ca, rfl⟩ := hat.slice
      obtain ⟨ka, nk, ck, rfl⟩ := hri.slice
      have hal : na = ats.length := by
        obtain ⟨_, _, e, _⟩ := hat
        injection e
      have hkl : nk = ks.length := by
        obtain ⟨_, _, e, _⟩ := hri
        injection e with _ e1 _
        rw [e1, hni.1]
      have hsz : x.length ≤ 1000000 := by omega
      have hsn : n.length ≤ 1000000 := by omega
      cases hb : hasB x with
      | false =>
        rw [fair_off k n x ats ks hk1 (.inl hb)]
        exact rfair_no hsz (.inl hb)
      | true =>
        have hbl : badL x < 0 := of_decide_eq_true hb
        by_cases ha : 0 < na ∨ 0 < nk
        · rw [fair_off k n x ats ks hk1 (.inr (.inl (by rw [← hal, ← hkl]; exact ha)))]
          exact rfair_no hsz (.inr (.inl ⟨hk1, ha⟩))
        · obtain rfl : na = 0 := by omega
          obtain rfl : nk = 0 := by omega
          have hae : ats = [] := List.length_eq_zero_iff.1 hal.symm
          have hke : ks = [] := List.length_eq_zero_iff.1 hkl.symm
          subst hae
          subst hke
          by_cases hk2 : k = 2
          · subst hk2
            rw [fair_leaf 2 n x hk1 hb (n.isEmpty && !x.isEmpty) (by rw [if_pos rfl])]
            exact rfair_t2 hsz hbl
          by_cases hk3 : k = 3
          · subst hk3
            rw [fair_leaf 3 n x hk1 hb (n.isEmpty && !(cutS [13] x).isSome && !(cutS [45, 45] x).isSome && !endsB 45 x) (by rw [if_neg hk2, if_pos rfl, cut_ends, is_some, is_some, cut_cr, Bool.and_assoc, Bool.and_assoc, Bool.and_assoc])]
            exact rfair_t3 hsz hbl
          by_cases hk4 : k = 4
          · subst hk4
            have h4 := rfair_t4 (w := w) (n := n) (x := x) (aa := aa) (ka := ka) (ca := ca) (ck := ck) hsn hsz hbl
            rw [is_some, is_some, cut_cr] at h4
            rw [fair_leaf 4 n x hk1 hb (nameW n && !sameS n [120, 109, 108] && !x.contains 13 && (cutS [63, 62] x).isNone && bareB x) (by rw [if_neg hk2, if_neg hk3, if_pos rfl])]
            exact h4
          · rw [fair_off k n x [] [] hk1 (.inr (.inr ⟨hk2, hk3, hk4⟩))]
            exact rfair_no hsz (.inr (.inr ⟨hk1, hk2, hk3, hk4⟩))
end Go.Proofs.YtocnedpclllbhaaGreatDoor
