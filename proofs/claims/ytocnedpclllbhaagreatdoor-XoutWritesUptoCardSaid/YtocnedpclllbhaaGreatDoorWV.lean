/-
 The reference's small functions: has, lower's blanks. Conditions: texts no longer than 2 to the 30.
-/
import Derived.Test.YtocnedpclllbhaaGreatDoorWO
import Derived.Test.YtocnedpclllbhaaGreatDoorXSm
import Derived.Lib.QuietBelow
import Derived.BigQuiet
namespace Go.Proofs.YtocnedpclllbhaaGreatDoor
open Go.RowKit Go.Lib Go.Joins

/-- What Doc leaves. -/
def DocOut (w : World) (q : List Tr × Tr × List Tr) (e : Ending) (w' : World) : Prop :=
  Below w.heap.size w w' ∧ ((mayB q.1 q.2.1 q.2.2 = true ∧ e = .returned (.tuple #[.string (strB (wrD q.1 q.2.1 q.2.2)), .nilIface])) ∨ (mayB q.1 q.2.1 q.2.2 = false ∧ ∃ b, e = .returned (.tuple #[.string ⟨#[]⟩, .iface 77 (.pointer (some ⟨b, 0, none⟩))]) ∧ Chain w' (plainV 80 0) [⟨#[119, 114, 105, 116, 101]⟩] (.iface 77 (.pointer (some ⟨b, 0, none⟩)))))
set_option maxRecDepth 100000 in
set_option maxHeartbeats 8000000 in
theorem pdoc_calls {w : World} {dv : Value} {q : List Tr × Tr × List Tr} {bv av : Value} {r : Nr} {rb ra : List Nr} (h : DcIn w dv q bv av r rb ra) (hf : FewD q) (hE : EnvAt w) (hs : (wrD q.1 q.2.1 q.2.2).length ≤ 1073741824) : Calls Tryz.prog 6 #[dv] w (DocOut w q) := by
  have hdv := h.val
  unfold docV at hdv
  obtain ⟨sn, hsn⟩ : ∃ s, strB r.name = s := ⟨_, rfl⟩
  obtain ⟨st, hst⟩ : ∃ s, strB r.text = s := ⟨_, rfl⟩
  obtain ⟨k, hk⟩ : ∃ k, r.kind = k := ⟨_, rfl⟩
  rw [hsn, hst, hk] at hdv
  obtain ⟨va, vk, hva, hvk, hvs⟩ : ∃ va vk, r.av = va ∧ r.kv = vk ∧ (∃ a n c a2 n2 c2, va = .slice a n c ∧ vk = .slice a2 n2 c2) := by
    obtain ⟨_, _, _, h4, rows, h5, _⟩ := h.root.kids
    obtain ⟨a, n, c, h6⟩ := h4.slice
    obtain ⟨a2, n2, c2, h7⟩ := h5.slice
    exact ⟨_, _, rfl, rfl, a, n, c, a2, n2, c2, h6, h7⟩
  rw [hva, hvk] at hdv
  obtain ⟨w0, hw0⟩ : ∃ W, w.alloc (.cells #[bv, .int .i64 k, .string sn, .string st, va, vk, av] 27) = W := ⟨_, rfl⟩
  have hb0 : Below w.heap.size w w0 := by rw [← hw0]; exact (Below.refl _ _).alloc (Nat.le_refl _) _
  have hblk : w0.heap[w.heap.size]? = some (.cells #[bv, .int .i64 k, .string sn, .string st, va, vk, av] 27 (0, 0)) := by rw [← hw0]; exact heap_alloc_new w _
  have hc : w0.cell? ⟨w.heap.size, 0, none⟩ = some bv ∧ w0.cell? ⟨w.heap.size, 1, none⟩ = some (.int .i64 k) ∧ w0.cell? ⟨w.heap.size, 2, none⟩ = some (.string sn) ∧ w0.cell? ⟨w.heap.size, 3, none⟩ = some (.string st) ∧ w0.cell? ⟨w.heap.size, 4, none⟩ = some va ∧ w0.cell? ⟨w.heap.size, 5, none⟩ = some vk ∧ w0.cell? ⟨w.heap.size, 6, none⟩ = some av :=
    ⟨(cell_of_block hblk 0).trans rfl, (cell_of_block hblk 1).trans rfl, (cell_of_block hblk 2).trans rfl, (cell_of_block hblk 3).trans rfl, (cell_of_block hblk 4).trans rfl, (cell_of_block hblk 5).trans rfl, (cell_of_block hblk 6).trans rfl⟩
  have HDO := Lib.hid (pdocument_calls (h.keep hb0) hf (hE.below hb0) hs)
  obtain ⟨M, hM⟩ : ∃ M, mayB q.1 q.2.1 q.2.2 = M := ⟨_, rfl⟩
  obtain ⟨D, hD⟩ : ∃ D, docS q = D := ⟨_, rfl⟩
  have HS : Hid (D = if M then strB (wrD q.1 q.2.1 q.2.2) else ⟨#[]⟩) := Lib.hid (by rw [← hM, ← hD]; rfl)
  rw [hM, hD] at HDO
  have HM := Lib.hid hM
  obtain ⟨ba, bn, bc, rfl⟩ := h.rowB.slice
  obtain ⟨aa, an, ac, rfl⟩ := h.rowA.slice
  have HB0 := Lib.hid hb0
  have HW0 := Lib.hid hw0
  have HN : Hid (∀ W, Calls Tryz.prog 20 #[.int .i64 80, .int .i64 0] W fun e w' => e = .returned (plainV 80 0) ∧ W = w') := Lib.hid (fun W => new_code 80 0 W rfl)
  have HW := Lib.hid (fun (s : ByteArray) (T : TypeId) (v : Value) (W : World) => wrap_some s T v W)
  rw [hdv] at HDO ⊢
  obtain ⟨u1, u2, u3, u4, u5, u6, rfl, rfl⟩ := hvs
  obtain ⟨z0, z1, z2, z3, z4, z5, z6⟩ := hc
  clear h hf hE hdv hsn hst hk hva hvk hw0 hb0 hblk hM hD hs
  go_enter Tryz.func6, Tryz.ntmps6
  go_wp2_with fail
  rw [HW0.out]
  with_reducible refine HDO.out.mono ?_
  rintro e w1 ⟨rfl, hb1⟩
  have HB1 := Lib.hid hb1
  clear hb1 z0 z1 z2 z3 z4 z5 z6
  cases M with
  | true =>
    have HF : Hid (D = strB (wrD q.1 q.2.1 q.2.2)) := Lib.hid HS.out
    go_wp2_with fail
    go_ret2
    exact ⟨below_then HB0.out HB1.out, .inl ⟨HM.out, by rw [HF.out]; rfl⟩⟩
  | false =>
    go_wp2_with fail
    with_reducible refine (HN.out _).mono ?_
    rintro e w2 ⟨rfl, rfl⟩
    unfold plainV
    go_wp2_with fail
    with_reducible refine (HW.out _ _ _ _).mono ?_
    rintro e w2 ⟨rfl, rfl⟩
    clear HW HN
    go_wp2_with fail
    go_ret2
    have hb2 := heap_alloc_new w1 (.cells #[.string ⟨#[119, 114, 105, 116, 101]⟩, .iface 73 (.agg #[.int .i64 80, .int .i64 0])] 79)
    exact ⟨(below_then HB0.out HB1.out).alloc (below_then HB0.out HB1.out).size _, .inr ⟨HM.out, _, rfl, w1.heap.size, _, rfl, (cell_of_block hb2 0).trans rfl, (cell_of_block hb2 1).trans rfl, rfl⟩⟩


/-- The fixed tree. -/
def t11 : Tr := .mk 1 [97] [] [([120], [49, 32, 60, 32, 50])] [.mk 2 [] [97, 32, 38, 32, 98] [] []]
def z11 : Tr := .mk 0 [] [] [] []
theorem may_t11 : mayB [] t11 [] = true := by kernel_rfl
theorem wr_t11 : strB (wrD [] t11 []) = ⟨#[60, 97, 32, 120, 61, 34, 49, 32, 38, 108, 116, 59, 32, 50, 34, 62, 97, 32, 38, 97, 109, 112, 59, 32, 98, 60, 47, 97, 62]⟩ := by kernel_rfl
theorem wr_t11l : (wrD [] t11 []).length = 29 := by kernel_rfl
theorem may_z11 : mayB [] z11 [] = false := by kernel_rfl
theorem wr_z11l : (wrD [] z11 []).length = 0 := by kernel_rfl
theorem few_t11 : FewD ([], t11, []) := by
  refine ⟨?_, ?_, ?_, trivial, ?_, trivial⟩
  · exact of_decide_eq_true (by kernel_rfl)
  · exact of_decide_eq_true (by kernel_rfl)
  · exact of_decide_eq_true (by kernel_rfl)
  · simp [t11, ShortN, ShortL, Shorts, Tr.name, Tr.text, Tr.attrs]
theorem few_z11 : FewD ([], z11, []) := by
  refine ⟨?_, ?_, ?_, trivial, ?_, trivial⟩
  · exact of_decide_eq_true (by kernel_rfl)
  · exact of_decide_eq_true (by kernel_rfl)
  · exact of_decide_eq_true (by kernel_rfl)
  · simp [z11, ShortN, ShortL, Shorts, Tr.name, Tr.text, Tr.attrs]
theorem in_z11 (w : World) : DcIn w (.agg #[.slice none 0 0, .int .i64 0, .string ⟨#[]⟩, .string ⟨#[]⟩, .slice none 0 0, .slice none 0 0, .slice none 0 0]) ([], z11, []) (.slice none 0 0) (.slice none 0 0) ⟨0, [], [], .slice none 0 0, .slice none 0 0⟩ [] [] :=
  ⟨rfl, NodeIn.leaf (AttIn.nil w Any), RowIn.nil w Any, NodesIn.nil w Any, RowIn.nil w Any, NodesIn.nil w Any⟩
theorem in_t11 {w : World} {g : Nat} (h1 : w.heap[g]? = some (.cells #[.string ⟨#[120]⟩, .string ⟨#[49, 32, 60, 32, 50]⟩] 42 (0, 0)))
    (h2 : w.heap[g + 1]? = some (.cells #[.int .i64 2, .string ⟨#[]⟩, .string ⟨#[97, 32, 38, 32, 98]⟩, .slice none 0 0, .slice none 0 0] 25 (0, 0))) :
    DcIn w (.agg #[.slice none 0 0, .int .i64 1, .string ⟨#[97]⟩, .string ⟨#[]⟩, .slice (some ⟨g, 0, none⟩) 1 1, .slice (some ⟨g + 1, 0, none⟩) 1 1, .slice none 0 0]) ([], t11, []) (.slice none 0 0) (.slice none 0 0) ⟨1, [97], [], .slice (some ⟨g, 0, none⟩) 1 1, .slice (some ⟨g + 1, 0, none⟩) 1 1⟩ [] [] := by
  refine ⟨rfl, ?_, RowIn.nil w Any, NodesIn.nil w Any, RowIn.nil w Any, NodesIn.nil w Any⟩
  refine NodeIn.mk ⟨1, [97], [], .slice (some ⟨g, 0, none⟩) 1 1, .slice (some ⟨g + 1, 0, none⟩) 1 1⟩ [([120], [49, 32, 60, 32, 50])] [.mk 2 [] [97, 32, 38, 32, 98] [] []] [⟨2, [], [97, 32, 38, 32, 98], .slice none 0 0, .slice none 0 0⟩] ?_ ?_ rfl ?_
  · refine ⟨_, 1, rfl, Nat.le_refl _, by unfold maxLen; decide, fun h => (by cases h), .inr ⟨g, 0, rfl, trivial, fun i y hy => ?_⟩⟩
    match i, hy with
    | 0, hy => rw [← Option.some.inj hy]; exact ⟨(cell_of_block h1 0).trans rfl, (cell_of_block h1 1).trans rfl⟩
    | i + 1, hy => simp at hy
  · refine ⟨_, 1, rfl, Nat.le_refl _, by unfold maxLen; decide, fun h => (by cases h), .inr ⟨g + 1, 0, rfl, trivial, fun i y hy => ?_⟩⟩
    match i, hy with
    | 0, hy => rw [← Option.some.inj hy]; exact ⟨(cell_of_block h2 0).trans rfl, (cell_of_block h2 1).trans rfl, (cell_of_block h2 2).trans rfl, (cell_of_block h2 3).trans rfl, (cell_of_block h2 4).trans rfl⟩
    | i + 1, hy => simp at hy
  · intro i y u hy hu
    match i, hy, hu with
    | 0, hy, hu => rw [← Option.some.inj hy, ← Option.some.inj hu]; exact NodeIn.leaf (AttIn.nil w Any)
    | i + 1, hy, _ => simp at hy
set_option maxRecDepth 100000 in
set_option maxHeartbeats 8000000 in
theorem awake11_calls (w : World) (hE : EnvAt w) (hg : Handle w) (_h15 : 13 ≤ w.heap.size) : Calls Tryz.prog 4 #[] w (Leaves (.bool true) w) := by
  obtain ⟨w1, hw1⟩ : ∃ W, w.alloc (.cells #[.string ⟨#[120]⟩, .string ⟨#[49, 32, 60, 32, 50]⟩] 42) = W := ⟨_, rfl⟩
  obtain ⟨w2, hw2⟩ : ∃ W, w1.alloc (.cells #[.int .i64 2, .string ⟨#[]⟩, .string ⟨#[97, 32, 38, 32, 98]⟩, .slice none 0 0, .slice none 0 0] 25) = W := ⟨_, rfl⟩
  obtain ⟨w3, hw3⟩ : ∃ W, w2.alloc (.cells #[.int .i64 1, .string ⟨#[97]⟩, .string ⟨#[]⟩, .slice (some ⟨w.heap.size, 0, none⟩) 1 1, .slice (some ⟨w.heap.size + 1, 0, none⟩) 1 1] 25) = W := ⟨_, rfl⟩
  have hs1 : w1.heap.size = w.heap.size + 1 := by rw [← hw1]; simp
  have hs2 : w2.heap.size = w.heap.size + 2 := by rw [← hw2]; simp [hs1]
  have hb1 : Below w.heap.size w w1 := by rw [← hw1]; exact (Below.refl _ _).alloc (Nat.le_refl _) _
  have hb2 : Below w.heap.size w w2 := by rw [← hw2]; exact hb1.alloc (by omega) _
  have hb3 : Below w.heap.size w w3 := by rw [← hw3]; exact hb2.alloc (by omega) _
  have hk1 : w3.heap[w.heap.size]? = some (.cells #[.string ⟨#[120]⟩, .string ⟨#[49, 32, 60, 32, 50]⟩] 42 (0, 0)) := by
    rw [← hw3, Lib.alloc_old _ _ _ (by omega), ← hw2, Lib.alloc_old _ _ _ (by omega), ← hw1]
    exact heap_alloc_new w _
  have hk2 : w3.heap[w.heap.size + 1]? = some (.cells #[.int .i64 2, .string ⟨#[]⟩, .string ⟨#[97, 32, 38, 32, 98]⟩, .slice none 0 0, .slice none 0 0] 25 (0, 0)) := by
    rw [← hw3, Lib.alloc_old _ _ _ (by omega), ← hw2, ← hs1]
    exact heap_alloc_new w1 _
  have hk3 : w3.heap[w.heap.size + 2]? = some (.cells #[.int .i64 1, .string ⟨#[97]⟩, .string ⟨#[]⟩, .slice (some ⟨w.heap.size, 0, none⟩) 1 1, .slice (some ⟨w.heap.size + 1, 0, none⟩) 1 1] 25 (0, 0)) := by rw [← hw3, ← hs2]; exact heap_alloc_new w2 _
  have HD1 := Lib.hid (pdoc_calls (in_t11 hk1 hk2) few_t11 (hE.below hb3) (by show (wrD [] t11 []).length ≤ _; rw [wr_t11l]; decide))
  have HD2 : Hid (∀ W, Below w3.heap.size w3 W → Calls Tryz.prog 6 #[.agg #[.slice none 0 0, .int .i64 0, .string ⟨#[]⟩, .string ⟨#[]⟩, .slice none 0 0, .slice none 0 0, .slice none 0 0]] W (DocOut W ([], z11, []))) := Lib.hid (fun W hW => pdoc_calls (in_z11 W) few_z11 (hE.below (below_then hb3 hW)) (by show (wrD [] z11 []).length ≤ _; rw [wr_z11l]; decide))
  have z0 := (cell_of_block hk3 0).trans rfl
  have z1 := (cell_of_block hk3 1).trans rfl
  have z2 := (cell_of_block hk3 2).trans rfl
  have z3 := (cell_of_block hk3 3).trans rfl
  have z4 := (cell_of_block hk3 4).trans rfl
  have HB3 := Lib.hid hb3
  have HW1 := Lib.hid hw1
  have HW2 := Lib.hid hw2
  have HW3 := Lib.hid hw3
  have HG := Lib.hid hg
  clear hE hg _h15 hw1 hw2 hw3 hs1 hs2 hb1 hb2 hb3 hk1 hk2 hk3
  go_enter Tryz.func4, Tryz.ntmps4
  go_wp2_with fail
  rw [HW1.out, HW2.out, HW3.out]
  with_reducible refine HD1.out.mono ?_
  rintro e w4 ⟨hb, ⟨_, rfl⟩ | ⟨hm, _⟩⟩
  case inr => exact absurd (may_t11.symm.trans hm) (by decide)
  dsimp only
  rw [wr_t11]
  have HB4 := Lib.hid hb
  clear hb
  go_wp2_with fail
  with_reducible refine (HD2.out w4 HB4.out).mono ?_
  rintro e w5 ⟨hb, ⟨hm, _⟩ | ⟨_, b, rfl, hch⟩⟩
  case inl => exact absurd (may_z11.symm.trans hm) (by decide)
  have HB5 := Lib.hid (below_then HB4.out hb)
  have HCO := Lib.hid (code_chain 80 0 _ _ w5 (by decide) hch (HG.out.below (below_then HB3.out HB5.out)))
  clear hb hch
  go_wp2_with fail
  with_reducible refine HCO.out.mono ?_
  rintro e w6 ⟨rfl, hb⟩
  have HB6 := Lib.hid (below_then HB5.out hb)
  clear hb
  go_wp2_with fail
  go_ret
  exact ⟨rfl, below_then HB3.out HB6.out⟩


theorem bad_text (W : World) (l : List UInt8) (h : l.length ≤ 1000000) : Calls Tryz.prog 24 #[.slice (some ⟨W.heap.size, 0, none⟩) (strB l).size (grownCap W (strB l).size 0 5)] (bytesWorld W 5 (strB l)) (Leaves (.int .i64 (badL l)) (bytesWorld W 5 (strB l))) := by
  have h2 := refBad_calls (some ⟨W.heap.size, 0, none⟩) l.length (grownCap W (strB l).size 0 5) (fs l) (bytesWorld W 5 (strB l)) (doc_str W l h).row8 (by omega)
  rw [← strB_size] at h2
  exact h2
theorem name11_text (W : World) (l : List UInt8) (h : l.length ≤ 1000000) (b : Bool) (hb : nameR (runesFrom (fs l) l.length l.length 0) = b) : Calls Tryz.prog 26 #[.string (strB l)] W (Leaves (.bool b) W) := by
  have h2 := refName_calls (strB l) W (by rw [strB_size]; omega)
  rw [strB_list, strB_size, hb] at h2
  exact h2
theorem strB_full {l : List UInt8} (h : l ≠ []) : (strB l).toList.isEmpty = false ∧ ¬ (strB l).toList = [] := by
  have h1 : (strB l).toList = l := by rw [ByteArray.toList_eq]; rfl
  rw [h1]
  exact ⟨List.isEmpty_eq_false_iff.2 h, h⟩

theorem prefix_len {p l : List UInt8} (h : p.isPrefixOf l = true) : p.length ≤ l.length := (List.isPrefixOf_iff_prefix.1 h).length_le
theorem cut_short (p : List UInt8) : ∀ l : List UInt8, l.length < p.length → cutS p l = none
  | [], _ => rfl
  | x :: t, h => by
    rw [cutS, if_neg (fun e => by have := prefix_len e; omega), cut_short p t (by rw [List.length_cons] at h; omega)]
    rfl
theorem cut_next (p l : List UInt8) (i : Nat) (h : i < l.length) : (cutS p (l.drop i)).isSome = (p.isPrefixOf (l.drop i) || (cutS p (l.drop (i + 1))).isSome) := by
  rw [List.drop_eq_getElem_cons h, cutS]
  by_cases hp : p.isPrefixOf (l[i] :: l.drop (i + 1)) = true
  · rw [if_pos hp, hp]
    rfl
  · rw [if_neg hp, Bool.eq_false_iff.2 hp, Bool.false_or]
    cases cutS p (l.drop (i + 1)) <;> rfl
theorem part_at (l p : List UInt8) (i : Nat) : (strB l).extract i (i + p.length) = strB p ↔ p.isPrefixOf (l.drop i) = true := by
  have h1 : ((strB l).extract i (i + p.length)).data.toList = (l.drop i).take p.length := by
    rw [ByteArray.data_extract, Array.toList_extract, List.extract_eq_take_drop, Nat.add_sub_cancel_left]
    rfl
  constructor
  · intro h
    rw [h] at h1
    have h2 : p = (l.drop i).take p.length := h1
    exact List.isPrefixOf_iff_prefix.2 ⟨(l.drop i).drop p.length, by rw [← List.take_append_drop p.length (l.drop i), ← h2]; simp⟩
  · intro h
    have h2 := List.prefix_iff_eq_take.1 (List.isPrefixOf_iff_prefix.1 h)
    apply ByteArray.ext
    apply Array.toList_inj.1
    rw [h1, ← h2]
    rfl
set_option maxRecDepth 100000 in
set_option maxHeartbeats 4000000 in
theorem rhas11_calls (w : World) (l p : List UInt8) (hl : l.length ≤ 1073741824) (hp : p.length ≤ 1000) (hp0 : 0 < p.length) : Calls Tryz.prog 25 #[.string (strB l), .string (strB p)] w (Leaves (.bool (cutS p l).isSome) w) := by
  have hls : (strB l).size = l.length := strB_size _
  have hps : (strB p).size = p.length := strB_size _
  obtain ⟨L, hL⟩ : ∃ z, strB l = z := ⟨_, rfl⟩
  obtain ⟨S, hS⟩ : ∃ z, strB p = z := ⟨_, rfl⟩
  obtain ⟨n, hn⟩ : ∃ z, l.length = z := ⟨_, rfl⟩
  obtain ⟨k, hk⟩ : ∃ z, p.length = z := ⟨_, rfl⟩
  obtain ⟨Q, hQ⟩ : ∃ z, (cutS p l).isSome = z := ⟨_, rfl⟩
  rw [hL, hn] at hls
  rw [hS, hk] at hps
  rw [hn] at hl
  rw [hk] at hp hp0
  rw [hL, hS, hQ]
  have HQ : Hid (Q = (cutS p (l.drop 0)).isSome) := Lib.hid (by rw [List.drop_zero]; exact hQ.symm)
  have HL := Lib.hid hL
  have HS := Lib.hid hS
  have HN := Lib.hid hn
  have HK := Lib.hid hk
  clear hL hS hn hk hQ
  go_enter Tryz.func25, Tryz.ntmps25
  go_wp2_with fail
  go_loopg [5] (n + 1) (fun g s5 wr => ∃ i : Nat, s5 = .int .i64 (i : Int) ∧ g + i = n + 1 ∧ Q = (cutS p (l.drop i)).isSome ∧ wr = w)
  case atStart => exact ⟨0, rfl, rfl, HQ.out, rfl⟩
  case round =>
    obtain ⟨i, rfl, hg, hq, rfl⟩ := hrel
    have HQ2 := Lib.hid hq
    clear hq HQ
    have hw1 : IntKind.i64.wrap ((i : Int) + (k : Int)) = (i : Int) + (k : Int) := IntWalk.i64_in _ (by omega)
    by_cases hik : i + k ≤ n
    · have hz : (i : Int) + (k : Int) ≤ (n : Int) := by omega
      have h0 : (0 : Int) ≤ (i : Int) := by omega
      have h1 : (i : Int) ≤ (i : Int) + (k : Int) := by omega
      have hadd : IntKind.i64.wrap ((i : Int) + 1) = ((i + 1 : Nat) : Int) := IntWalk.i64_in _ (by omega)
      obtain ⟨X, hX⟩ : ∃ z, L.extract i (i + k) = z := ⟨_, rfl⟩
      have hsl : ∀ W, (Instr.slice 9 (.string L) (some (.int .i64 (i : Int))) (some (.int .i64 ((i : Int) + (k : Int)))) none).run Tryz.prog W = .ok (.string X) W := fun W => by
        rw [run_slice_string (P := Tryz.prog) W 9 L .i64 .i64 (i : Int) ((i : Int) + (k : Int)) Tryz.underlying9 (by omega) (by omega) (by omega), show ((i : Int) + (k : Int)).toNat = i + k by omega, Int.toNat_natCast, hX]
      have hstep := cut_next p l i (by have := HN.out; omega)
      by_cases he : X = S
      · subst he
        have HF : Hid (Q = true) := Lib.hid (by
          rw [HQ2.out, hstep, (part_at l p i).1 (by rw [HL.out, HK.out, HS.out]; exact hX), Bool.true_or])
        clear hstep hX hik hg
        go_wp2_with fail
        go_ret
        exact ⟨by rw [HF.out]; rfl, Below.refl _ _⟩
      · have hne := bytes_ne he
        have HF : Hid (Q = (cutS p (l.drop (i + 1))).isSome) := Lib.hid (by
          have hpf : p.isPrefixOf (l.drop i) = false := Bool.eq_false_iff.2 (fun h => he (by rw [← hX, ← HL.out, ← HS.out, ← HK.out]; exact (part_at l p i).2 h))
          rw [HQ2.out, hstep, hpf, Bool.false_or])
        clear hstep hX he
        cases gk with
        | zero => omega
        | succ g =>
          go_wp2_with fail
          go_roundg g
          case measure => omega
          case rel => exact ⟨i + 1, rfl, by omega, HF.out, rfl⟩
    · have hz : ¬ ((i : Int) + (k : Int) ≤ (n : Int)) := by omega
      have HF : Hid (Q = false) := Lib.hid (by
        rw [HQ2.out, cut_short p (l.drop i) (by rw [List.length_drop]; have := HN.out; have := HK.out; omega)]
        rfl)
      go_wp2_with fail
      go_ret
      exact ⟨by rw [HF.out]; rfl, Below.refl _ _⟩
end Go.Proofs.YtocnedpclllbhaaGreatDoor
