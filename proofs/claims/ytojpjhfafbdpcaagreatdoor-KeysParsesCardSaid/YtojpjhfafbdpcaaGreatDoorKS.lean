/-
  A text at each of a byte, by strings.Split, strings.Cut and the reference's Split; texts in a slice of the call's own. Conditions: the texts are no longer than 2 to the 30; the library's bound is laid.
-/
import Derived.Test.YtojpjhfafbdpcaaGreatDoorKJ
import Derived.Test.YtojpjhfafbdpcaaGreatDoorKQ
import Derived.Test.YtojpjhfafbdpcaaGreatDoorShelf
import Derived.Test.YtojpjhfafbdpcaaGreatDoorLines
import Derived.Lib.CountLaws
import Derived.Lib.Split
namespace Go.Proofs.YtojpjhfafbdpcaaGreatDoor
open Go.RowKit Go.Lib Go.Joins

theorem first_of (c : UInt8) : ∀ l : List UInt8, c ∉ l ∨ ∃ p t, c ∉ p ∧ l = p ++ c :: t
  | [] => .inl (fun h => by cases h)
  | b :: t => by
    by_cases hb : b = c
    · exact .inr ⟨[], t, fun h => (by cases h), by rw [hb]; rfl⟩
    · rcases first_of c t with h | ⟨p, u, h1, h2⟩
      · refine .inl (fun h2 => ?_)
        rcases List.mem_cons.1 h2 with h3 | h3
        · exact hb h3.symm
        · exact h h3
      · refine .inr ⟨b :: p, u, fun h3 => ?_, by rw [h2]; rfl⟩
        rcases List.mem_cons.1 h3 with h3 | h3
        · exact hb h3.symm
        · exact h1 h3
theorem index_at {c : UInt8} : ∀ {p : List UInt8}, c ∉ p → ∀ t, index (p ++ c :: t) [c] = (p.length : Int)
  | [], _, t => index_here (by simp)
  | b :: p, h, t => by
    have hb : b ≠ c := fun e => h (by rw [e]; exact List.mem_cons_self ..)
    have hs : ([c] : List UInt8).isPrefixOf (b :: (p ++ c :: t)) = false := by
      simp only [List.isPrefixOf, Bool.and_eq_false_iff]
      exact .inl (beq_eq_false_iff_ne.2 (fun e => hb e.symm))
    rw [List.cons_append, index_skip hs, index_at (fun e => h (List.mem_cons_of_mem _ e)) t]
    have : ((p.length : Int) == -1) = false := by rw [beq_eq_false_iff_ne]; omega
    rw [this, if_neg (by decide), List.length_cons]
    rfl
theorem index_no {c : UInt8} : ∀ {p : List UInt8}, c ∉ p → index p [c] = -1
  | [], _ => rfl
  | b :: p, h => by
    have hb : b ≠ c := fun e => h (by rw [e]; exact List.mem_cons_self ..)
    have hs : ([c] : List UInt8).isPrefixOf (b :: p) = false := by
      simp only [List.isPrefixOf, Bool.and_eq_false_iff]
      exact .inl (beq_eq_false_iff_ne.2 (fun e => hb e.symm))
    rw [index_skip hs, index_no (fun e => h (List.mem_cons_of_mem _ e))]
    rfl
theorem byte_at {c : UInt8} : ∀ {p : List UInt8}, c ∉ p → ∀ t, indexByte (p ++ c :: t) c = (p.length : Int)
  | [], _, t => by rw [List.nil_append, indexByte, if_pos (by simp)]; rfl
  | b :: p, h, t => by
    have hb : (b == c) = false := beq_eq_false_iff_ne.2 (fun e => h (by rw [e]; exact List.mem_cons_self ..))
    have : ((p.length : Int) == -1) = false := by rw [beq_eq_false_iff_ne]; omega
    rw [List.cons_append, indexByte, hb, if_neg (by decide), byte_at (fun e => h (List.mem_cons_of_mem _ e)) t, this, if_neg (by decide), List.length_cons]
    rfl
theorem byte_no {c : UInt8} : ∀ {p : List UInt8}, c ∉ p → indexByte p c = -1
  | [], _ => rfl
  | b :: p, h => by
    have hb : (b == c) = false := beq_eq_false_iff_ne.2 (fun e => h (by rw [e]; exact List.mem_cons_self ..))
    rw [indexByte, hb, if_neg (by decide), byte_no (fun e => h (List.mem_cons_of_mem _ e))]
    rfl
theorem drop_at {c : UInt8} {p t : List UInt8} : (p ++ c :: t).drop (p.length + 1) = t := by
  have : p ++ c :: t = (p ++ [c]) ++ t := by rw [List.append_assoc]; rfl
  rw [this]
  exact List.drop_left' (by simp)
theorem splitK_pieces (c : UInt8) : ∀ (n : Nat) (l : List UInt8), l.length ≤ n → splitK [c] 0 (count l [c]) l = pieces c l ∧ count l [c] + 1 = (pieces c l).length
  | n, l, h => by
    rcases first_of c l with h1 | ⟨p, t, h1, h2⟩
    · rw [count_miss (index_no h1), pieces_clean h1]
      exact ⟨rfl, rfl⟩
    · subst h2
      cases n with
      | zero => simp at h
      | succ n =>
        have hi := index_at h1 t
        have hc := count_hit (s := p ++ c :: t) (sub := [c]) (List.cons_ne_nil _ _) hi
        have hd : (p ++ c :: t).drop (p.length + [c].length) = t := drop_at
        rw [hd] at hc
        obtain ⟨i1, i2⟩ := splitK_pieces c n t (by rw [List.length_append, List.length_cons] at h; omega)
        rw [hc, pieces_app h1, show 1 + count t [c] = count t [c] + 1 by omega]
        constructor
        · have hm : (index (p ++ c :: t) [c] == -1) = false := by rw [hi, beq_eq_false_iff_ne]; omega
          rw [splitK, hm, if_neg (by decide), hi, Int.toNat_natCast, hd, i1]
          congr 1
          rw [Nat.add_zero, List.take_append_of_le_length (Nat.le_refl _), List.take_length]
        · rw [List.length_cons, ← i2]
/-- A row of texts as values. -/
def strV (l : List (List UInt8)) : List Value := l.map fun x => .string (strB x)
theorem split_values (c : UInt8) (l : List UInt8) : (Lib.splitB ⟨#[c]⟩ 0 (countB (strB l) ⟨#[c]⟩) (strB l)).map Value.string = strV (pieces c l) := by
  have h := splitB_data ⟨#[c]⟩ 0 (countB (strB l) ⟨#[c]⟩) (strB l)
  have h2 : splitK [c] 0 (count l [c]) l = pieces c l := (splitK_pieces c l.length l (Nat.le_refl _)).1
  have h3 : (Lib.splitB ⟨#[c]⟩ 0 (countB (strB l) ⟨#[c]⟩) (strB l)).map (·.data.toList) = pieces c l := by
    rw [h]
    exact h2
  unfold strV
  rw [← h3, List.map_map]
  refine List.map_congr_left (fun x _ => ?_)
  show Value.string x = .string (strB x.data.toList)
  congr 1
set_option maxRecDepth 100000 in
theorem split_calls (l : List UInt8) (c : UInt8) (w : World) (hs : l.length ≤ 1073741824) (hm : MaxLen w) : Calls Tryz.prog 53 #[.string (strB l), .string ⟨#[c]⟩] w fun e w' =>
    e = .returned (.slice (some ⟨w.heap.size, 0, none⟩) (pieces c l).length (pieces c l).length) ∧ w' = w.alloc (.cells (strV (pieces c l)).toArray 9) := by
  obtain ⟨m, hm⟩ := hm
  have hsz : (strB l).size = l.length := by unfold strB ByteArray.size; simp
  refine (Tryz.strings_Split (strB l) ⟨#[c]⟩ m w (by omega) hm (Nat.le_refl 1)).mono fun e w' h => ?_
  have h2 : countB (strB l) ⟨#[c]⟩ + 1 = (pieces c l).length := (splitK_pieces c l.length l (Nat.le_refl _)).2
  rw [h2, split_values] at h
  exact h
theorem cut_at {c : UInt8} {p : List UInt8} (h : c ∉ p) (t : List UInt8) : Lib.cut (p ++ c :: t) [c] = (p, t, true) := by
  unfold Lib.cut
  have hi := index_at h t
  rw [hi, if_pos (by omega), Int.toNat_natCast, List.take_append_of_le_length (Nat.le_refl _), List.take_length]
  show (p, (p ++ c :: t).drop (p.length + 1), true) = _
  rw [drop_at]
theorem cut_no {c : UInt8} {p : List UInt8} (h : c ∉ p) : Lib.cut p [c] = (p, [], false) := by
  unfold Lib.cut
  rw [index_no h, if_neg (by decide)]

/-! ### texts in a slice of the call's own -/
theorem strV_app (l m : List (List UInt8)) : strV (l ++ m) = strV l ++ strV m := List.map_append
theorem strV_len (l : List (List UInt8)) : (strV l).length = l.length := List.length_map _
theorem strV_at {l : List (List UInt8)} {i : Nat} {x : List UInt8} (h : l[i]? = some x) : (strV l)[i]? = some (.string (strB x)) := by
  unfold strV
  rw [List.getElem?_map, h]
  rfl
theorem strV_one {l : List (List UInt8)} {u : Value} (h : u ∈ strV l) : u.oneCell' = true := by
  obtain ⟨x, _, rfl⟩ := List.mem_map.1 h
  rfl
theorem infoS : (Tryz.prog.info? 9).map (fun i => (i.zero, i.size, i.bytes)) = some (some (.string ⟨#[]⟩), 1, 16) := by kernel_rfl
/-- Texts in a slice that was made since n0. -/
structure OwnS (n0 : Nat) (w : World) (v : Value) (l : List (List UInt8)) : Prop where
  row : w.ownsRow 0 9 1 v l.length (strV l)
  new : ∀ k, v.ownBlock = some k → n0 ≤ k
theorem OwnS.nil (n0 : Nat) (w : World) : OwnS n0 w (.slice none 0 0) [] := ⟨World.ownsRow_nil _ _ _ _, (fun k e => by cases e)⟩
theorem OwnS.keep {n0 : Nat} {w w' : World} {O : Nat → Prop} {v : Value} {l : List (List UInt8)} (h : OwnS n0 w v l) (hk : Keeps O w w') (hO : ∀ k, n0 ≤ k → ¬ O k) : OwnS n0 w' v l :=
  ⟨ownsRow_keep h.row hk (fun k e => hO k (h.new k e)), h.new⟩
theorem OwnS.below {n0 : Nat} {w w' : World} {v : Value} {l : List (List UInt8)} (h : OwnS n0 w v l) (hb : Below w.heap.size w w') : OwnS n0 w' v l := h.keep (keeps_below hb Non) (fun _ _ e => e)
theorem OwnS.lt {n0 : Nat} {w : World} {v : Value} {l : List (List UInt8)} (h : OwnS n0 w v l) : ∀ k, v.ownBlock = some k → k < w.heap.size := fun k e => (h.row.lt k e).2
theorem OwnS.in {n0 : Nat} {w : World} {v : Value} {l : List (List UInt8)} (h : OwnS n0 w v l) : StrIn w (fun k => n0 ≤ k) v l := by
  rcases h.row.2 with ⟨h1, h0⟩ | ⟨g, cap, cur, h1, hg, hgb, hcap, hcm, hcur, htk⟩
  · exact ⟨none, 0, by rw [h1, h0], by omega, Nat.zero_le _, fun _ => rfl, .inl (List.length_eq_zero_iff.1 h0)⟩
  · refine ⟨_, cap, h1, hcap, hcm, fun e => (by cases e), .inr ⟨g, 0, rfl, h.new g (by rw [h1]; rfl), fun i x hx => ?_⟩⟩
    have hc := h.row.cells (g := g) (by rw [h1]; rfl) _ _ (strV_at hx)
    rw [Addr.add_mid] at hc
    exact hc
/-- One more text, laid out in a literal. -/
theorem OwnS.append {n0 : Nat} {w : World} {v : Value} {l : List (List UInt8)} (h : OwnS n0 w v l) (x : List UInt8) (hn : n0 ≤ w.heap.size) (hs : l.length ≤ 2000000000) :
    ∃ v' w', (∀ ty, (Builtin.append_ #[36, 36] ty #[v, .slice (some ⟨w.heap.size, 0, none⟩) 1 1]).run Tryz.prog (w.alloc (.cells #[.string (strB x)] 9)) = .ok v' w') ∧ OwnS n0 w' v' (l ++ [x]) ∧ Keeps (fun k => v.ownBlock = some k) w w' := by
  obtain ⟨v', w', h1, h2, h3, h4⟩ := append_any (w := w.alloc (.cells #[.string (strB x)] 9)) Tryz.underlying36 infoS rfl (by decide) (h.row.alloc _) (b := ⟨w.heap.size, 0, none⟩) (m := 1) (c := 1) (news := strV [x]) rfl (newA_cells w (strV [x]) _)
    (fun u hu => strV_one hu) (by unfold maxLen; omega) (by omega)
  have hk : Keeps (fun k => v.ownBlock = some k) w w' := ((Keeps.refl _ w).alloc _).grown h3 (fun k e => .inl e)
  refine ⟨v', w', h1, ⟨by rw [List.length_append, strV_app]; exact h2, fun k e => ?_⟩, hk⟩
  rcases h4 k e with h5 | h5
  · exact h.new k h5
  · simp at h5; omega
theorem StrIn.made (w : World) (l : List (List UInt8)) (hs : l.length ≤ 2000000000) : StrIn (w.alloc (.cells (strV l).toArray 9)) (fun k => w.heap.size ≤ k) (.slice (some ⟨w.heap.size, 0, none⟩) l.length l.length) l := by
  refine ⟨_, _, rfl, Nat.le_refl _, by unfold maxLen; omega, (fun e => by cases e), .inr ⟨w.heap.size, 0, rfl, Nat.le_refl _, fun i x hx => ?_⟩⟩
  have := newA_cells w (strV l) 9 i _ (strV_at hx)
  rw [Addr.add_mid] at this
  exact this

end Go.Proofs.YtojpjhfafbdpcaaGreatDoor
