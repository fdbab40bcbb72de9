/-
  The text of a set, told by the program. Conditions: the slice leads to what it is said to; the library's table of powers of ten is laid.
-/
import Derived.Test.YtiolchdfjlffoaaDoorIW
namespace Go.Proofs.YtiolchdfjlffoaaDoor
open Go.RowKit Go.Lib Go.Joins

/-- A row of texts as values. -/
def strV (l : List (List UInt8)) : List Value := l.map fun x => .string (strB x)
theorem strV_app (l m : List (List UInt8)) : strV (l ++ m) = strV l ++ strV m := List.map_append
theorem strV_len (l : List (List UInt8)) : (strV l).length = l.length := List.length_map _
theorem strV_at {l : List (List UInt8)} {i : Nat} {x : List UInt8} (h : l[i]? = some x) : (strV l)[i]? = some (.string (strB x)) := by
  unfold strV
  rw [List.getElem?_map, h]
  rfl
theorem strV_one {l : List (List UInt8)} {u : Value} (h : u ∈ strV l) : u.oneCell' = true := by
  obtain ⟨x, _, rfl⟩ := List.mem_map.1 h
  rfl
theorem infoS : (Tryd.prog.info? 9).map (fun i => (i.zero, i.size, i.bytes)) = some (some (.string ⟨#[]⟩), 1, 16) := by kernel_rfl
/-- Texts in a slice that was made since n0. -/
structure OwnS (n0 : Nat) (w : World) (v : Value) (l : List (List UInt8)) : Prop where
  row : w.ownsRow 0 9 1 v l.length (strV l)
  new : ∀ k, v.ownBlock = some k → n0 ≤ k
theorem OwnS.nil (n0 : Nat) (w : World) : OwnS n0 w (.slice none 0 0) [] := ⟨World.ownsRow_nil _ _ _ _, (fun k e => by cases e)⟩
theorem OwnS.keep {n0 : Nat} {w w' : World} {O : Nat → Prop} {v : Value} {l : List (List UInt8)} (h : OwnS n0 w v l) (hk : Keeps O w w') (hO : ∀ k, n0 ≤ k → ¬ O k) : OwnS n0 w' v l :=
  ⟨ownsRow_keep h.row hk (fun k e => hO k (h.new k e)), h.new⟩
theorem OwnS.below {n0 : Nat} {w w' : World} {v : Value} {l : List (List UInt8)} (h : OwnS n0 w v l) (hb : Below w.heap.size w w') : OwnS n0 w' v l := h.keep (keeps_below hb Non) (fun _ _ e => e)
theorem OwnS.lt {n0 : Nat} {w : World} {v : Value} {l : List (List UInt8)} (h : OwnS n0 w v l) : ∀ k, v.ownBlock = some k → k < w.heap.size := fun k e => (h.row.lt k e).2
/-- One more text, laid out in a literal. -/
theorem OwnS.append {n0 : Nat} {w : World} {v : Value} {l : List (List UInt8)} (h : OwnS n0 w v l) (x : List UInt8) (hn : n0 ≤ w.heap.size) (hs : l.length ≤ 2000000000) :
    ∃ v' w', (∀ ty, (Builtin.append_ #[62, 62] ty #[v, .slice (some ⟨w.heap.size, 0, none⟩) 1 1]).run Tryd.prog (w.alloc (.cells #[.string (strB x)] 9)) = .ok v' w') ∧ OwnS n0 w' v' (l ++ [x]) ∧ Keeps (fun k => v.ownBlock = some k) w w' := by
  obtain ⟨v', w', h1, h2, h3, h4⟩ := append_any (w := w.alloc (.cells #[.string (strB x)] 9)) Tryd.underlying62 infoS rfl (by decide) (h.row.alloc _) (b := ⟨w.heap.size, 0, none⟩) (m := 1) (c := 1) (news := strV [x]) rfl (newA_cells w (strV [x]) _)
    (fun u hu => strV_one hu) (by unfold maxLen; omega) (by omega)
  have hk : Keeps (fun k => v.ownBlock = some k) w w' := ((Keeps.refl _ w).alloc _).grown h3 (fun k e => .inl e)
  refine ⟨v', w', h1, ⟨by rw [List.length_append, strV_app]; exact h2, fun k e => ?_⟩, hk⟩
  rcases h4 k e with h5 | h5
  · exact h.new k h5
  · simp at h5; omega

theorem itoa_short {n : Int} (h0 : 0 ≤ n) (h1 : n ≤ 200) : (Lib.itoa n).length ≤ 21 := Lib.itoa_length_le n (by omega) (by omega)
theorem span_short {x : Sp} (h : RightP x) : (spanT x).length ≤ 43 := by
  unfold spanT
  have h1 := itoa_short (n := x.1) (by have := h.1; omega) (by have := h.2; omega)
  have h2 := itoa_short (n := x.2) (by have := h.1; have := h.2; omega) (by have := h.2; omega)
  rw [List.length_append]
  split
  · simp only [List.length_nil]
    omega
  · rw [List.length_cons]
    omega
theorem join_short : ∀ {l : List Sp}, (∀ x ∈ l, RightP x) → (joinT l).length ≤ 44 * l.length
  | [], _ => Nat.le_refl _
  | x :: l, h => by
    have h1 := span_short (h x (List.mem_cons_self ..))
    have h2 := join_short (fun y hy => h y (List.mem_cons_of_mem _ hy))
    rw [joinT, List.length_cons, List.length_append, List.length_cons]
    omega
theorem body_short {l : List Sp} (h : mayS l = true) : (bodyT l).length ≤ 5000 := by
  have hl := mayS_length h
  have hr := may_right h
  cases l with
  | nil => exact Nat.zero_le _
  | cons x l =>
    have h1 := span_short (hr x (List.mem_cons_self ..))
    have h2 := join_short (fun y hy => hr y (List.mem_cons_of_mem _ hy))
    rw [List.length_cons] at hl
    rw [bodyT, List.length_append]
    omega
theorem text_short (l : List Sp) : (textS l).length ≤ 5000 := by
  unfold textS
  split
  · exact body_short (by assumption)
  · exact Nat.zero_le _
theorem OwnS.cells {n0 : Nat} {w : World} {v : Value} {l : List (List UInt8)} (h : OwnS n0 w v l) (hne : l ≠ []) : ∃ g c, v = .slice (some ⟨g, 0, none⟩) l.length c ∧ l.length ≤ c ∧ g < w.heap.size ∧ ∀ (i : Nat) (x : List UInt8), l[i]? = some x → w.cell? ⟨g, 0 + i, none⟩ = some (.string (strB x)) := by
  rcases h.row.2 with ⟨h1, h0⟩ | ⟨g, cap, cur, h1, hg, hgb, hcap, hcm, hcur, htk⟩
  · exact absurd (List.length_eq_zero_iff.1 h0) hne
  · refine ⟨g, cap, h1, hcap, lt_of_block hgb, fun i x hx => ?_⟩
    have hc := h.row.cells (g := g) (by rw [h1]; rfl) _ _ (strV_at hx)
    rw [Addr.add_mid] at hc
    exact hc
theorem OwnS.form {n0 : Nat} {w : World} {v : Value} {l : List (List UInt8)} (h : OwnS n0 w v l) : ∃ a c, v = .slice a l.length c := by
  rcases h.row.2 with ⟨h1, h0⟩ | ⟨g, cap, cur, h1, _⟩
  · exact ⟨none, 0, by rw [h1, h0]⟩
  · exact ⟨_, cap, h1⟩
/-- What is put together of texts. -/
theorem join_calls {n0 : Nat} {w : World} {v : Value} {l : List (List UInt8)} (h : OwnS n0 w v l) (hl : l.length ≤ 1000) (hs : (Lib.join l [44]).length ≤ 1000000) : Calls Tryd.prog 47 #[v, .string ⟨#[44]⟩] w (Leaves (.string (strB (Lib.join l [44]))) w) := by
  by_cases hne : l = []
  · subst hne
    obtain ⟨a, c, rfl⟩ := h.form
    refine (Tryd.strings_Join_none a c ⟨#[44]⟩ w).mono ?_
    rintro e w' ⟨rfl, rfl⟩
    exact ⟨rfl, Below.refl _ _⟩
  · obtain ⟨g, c, rfl, hc, hg, hcell⟩ := h.cells hne
    have hm : (l.map strB).map (·.data.toList) = l := by
      rw [List.map_map]
      exact List.map_id l
    have := Tryd.strings_Join g 0 c (l.map strB) ⟨#[44]⟩ w (fun j x hx => by
      rw [List.getElem?_map] at hx
      obtain ⟨y, hy, rfl⟩ := Option.map_eq_some_iff.1 hx
      exact hcell j y hy) hg (by rw [List.length_map]; omega) (by rw [List.length_map]; exact hc) (by rw [hm]; show (Lib.join l [44]).length ≤ _; omega)
    rw [hm, List.length_map] at this
    exact this

set_option maxRecDepth 100000 in
set_option maxHeartbeats 4000000 in
theorem text_calls {w : World} {v : Value} {l : List Sp} (h : SpIn w v l) (hT : Tab w) : Calls Tryd.prog 31 #[v] w (Leaves (.string (strB (textS l))) w) := by
  have HM := Lib.hid (may_calls h)
  obtain ⟨a, c, rfl, hc, hm, hn⟩ := h.form
  obtain ⟨n, hl⟩ : ∃ n, l.length = n := ⟨_, rfl⟩
  obtain ⟨Q, hQ⟩ : ∃ Q, strB (textS l) = Q := ⟨_, rfl⟩
  rw [hQ]
  have HQ := Lib.hid hQ
  rw [hl] at h hc HM ⊢
  have HR := Lib.hid h
  have HL := Lib.hid hl
  have HT := Lib.hid hT
  unfold textS at HQ
  clear h hl hm hn hQ hT
  go_enter Tryd.func31, Tryd.ntmps31
  go_wp2_with fail
  with_reducible refine HM.out.mono ?_
  rintro e w1 ⟨rfl, hb1⟩
  have HB1 := Lib.hid hb1
  clear hb1 HM
  cases hmy : mayS l with
  | false =>
    have HF : Hid (Q = ⟨#[]⟩) := Lib.hid (by rw [← HQ.out, hmy]; rfl)
    clear hmy
    go_wp2_with fail
    go_ret
    exact ⟨by rw [HF.out]; rfl, HB1.out⟩
  | true =>
    have HF : Hid (Q = strB (bodyT l)) := Lib.hid (by rw [← HQ.out, hmy]; rfl)
    have HMY := Lib.hid hmy
    have hlen := mayS_length hmy
    rw [HL.out] at hlen
    clear hmy
    go_wp2_with fail
    go_loopg [3, 12] n (fun g s ix wr => ∃ (i : Nat), OwnS w1.heap.size wr s ((l.take i).map spanT) ∧ ix = .int .i64 (i : Int) ∧ g + i = n ∧ Below w1.heap.size w1 wr)
    case atStart => exact ⟨0, OwnS.nil _ _, rfl, rfl, Below.refl _ _⟩
    case round =>
      obtain ⟨i, hown, rfl, hg, hb⟩ := hrel
      have HO := Lib.hid hown
      have HB := Lib.hid hb
      obtain ⟨sa, sc, rfl⟩ := hown.form
      have hin : ((l.take i).map spanT).length = i := by rw [List.length_map, List.length_take]; have := HL.out; omega
      rw [hin] at HO ⊢
      clear hown hb hin
      cases gk with
      | zero =>
        obtain rfl : i = n := by omega
        have hge : ¬ ((i : Int) < (i : Int)) := by omega
        have HO2 : Hid (OwnS w1.heap.size wr (.slice sa i sc) (l.map spanT)) := Lib.hid (by have h := HO.out; rw [List.take_of_length_le (by have := HL.out; omega)] at h; exact h)
        have HJ := Lib.hid (join_calls HO2.out (by rw [List.length_map]; have := HL.out; omega) (by rw [bodyT_join]; have := body_short HMY.out; omega))
        rw [bodyT_join, ← HF.out] at HJ
        go_wp2_with fail
        with_reducible refine HJ.out.mono ?_
        rintro e w5 ⟨rfl, hb5⟩
        have HB5 := Lib.hid (below_then HB1.out (HB.out.trans (hb5.mono HB.out.size)))
        clear hb5
        go_wp2_with fail
        go_ret
        exact ⟨rfl, HB5.out⟩
      | succ g =>
        have hlt : (i : Int) < (n : Int) := by omega
        have hic : i ≤ c := by omega
        have hadd : IntKind.i64.wrap ((i : Int) + 1) = ((i + 1 : Nat) : Int) := IntWalk.i64_in _ (by omega)
        obtain ⟨⟨f, t⟩, hx, _⟩ := drop_at (l := l) (i := i) (by have := HL.out; omega)
        have hrp := may_right HMY.out _ (List.mem_of_getElem? hx)
        obtain ⟨r1, r2, r3⟩ := hrp
        dsimp only at r1 r2 r3
        obtain ⟨b, o, rfl, y1, y2⟩ := HR.out.at hx
        replace y1 := cell_below (below_then HB1.out HB.out) y1
        replace y2 := cell_below (below_then HB1.out HB.out) y2
        dsimp only at y1 y2
        have HTK : Hid ((l.take (i + 1)).map spanT = (l.take i).map spanT ++ [spanT (f, t)]) := Lib.hid (by rw [take_snoc hx, List.map_append]; rfl)
        obtain ⟨W2, hW2⟩ : ∃ W, wr.alloc (.cells #[.int .i64 f, .int .i64 t] 44) = W := ⟨_, rfl⟩
        have hb2 : Below w1.heap.size w1 W2 := by rw [← hW2]; exact HB.out.alloc HB.out.size _
        have hk2 : W2.heap[wr.heap.size]? = some (.cells #[.int .i64 f, .int .i64 t] 44 (0, 0)) := by rw [← hW2]; exact heap_alloc_new _ _
        have HO2 : Hid (OwnS w1.heap.size W2 (.slice sa i sc) ((l.take i).map spanT)) := Lib.hid (by rw [← hW2]; exact HO.out.below ((Below.refl _ _).alloc (Nat.le_refl _) _))
        have HW2 := Lib.hid hW2
        obtain ⟨b5, hb5⟩ : ∃ b, wr.heap.size = b := ⟨_, rfl⟩
        rw [hb5] at hk2
        have HB5 := Lib.hid hb5
        have HK2 := Lib.hid hk2
        have HB2 := Lib.hid hb2
        have hcl : ∀ W, Below W2.heap.size W2 W → W.cell? ⟨b5, 0, none⟩ = some (.int .i64 f) ∧ W.cell? ⟨b5, 1, none⟩ = some (.int .i64 t) := fun W h => by
          have hk := block_below h hk2
          exact ⟨(cell_of_block hk 0).trans rfl, (cell_of_block hk 1).trans rfl⟩
        have HCL := Lib.hid hcl
        obtain ⟨d0, d1⟩ := hcl W2 (Below.refl _ _)
        have HI1 := Lib.hid (itoa_any f (by omega) (by omega) W2 (HT.out.below (below_then HB1.out hb2)))
        have hz1 : (strB (Lib.itoa f)).size ≤ 21 := by rw [strB_size]; exact itoa_short (by omega) (by omega)
        have hz2 : (strB (Lib.itoa t)).size ≤ 21 := by rw [strB_size]; exact itoa_short (by omega) (by omega)
        obtain ⟨z1, hz1e⟩ : ∃ z, strB (Lib.itoa f) = z := ⟨_, rfl⟩
        rw [hz1e] at HI1 hz1
        have HZ1 := Lib.hid hz1e
        have HT2 := Lib.hid (HT.out.below (below_then HB1.out hb2))
        clear hx hW2 hb5 hk2 hb2 hcl hz1e
        go_wp2_with (rw [HW2.out, HB5.out])
        with_reducible refine HI1.out.mono ?_
        rintro e w3 ⟨rfl, hb3⟩
        have HB3 := Lib.hid (HB2.out.trans (hb3.mono HB2.out.size))
        have HO3 := Lib.hid (HO2.out.below hb3)
        obtain ⟨e0, e1⟩ := HCL.out w3 hb3
        have HB23 := Lib.hid hb3
        clear hb3 d0 d1 HI1
        by_cases hft : t = f
        · subst hft
          have HSP : Hid (strB (spanT (t, t)) = z1) := Lib.hid (by unfold spanT; rw [if_pos rfl, List.append_nil]; exact HZ1.out)
          obtain ⟨v', w9, hrun, hown9, hkp9⟩ := HO3.out.append (spanT (t, t)) HB3.out.size (by rw [List.length_map, List.length_take]; have := HL.out; omega)
          obtain ⟨a9, c9, hv9⟩ := hown9.form
          have HB9 : Hid (Below w1.heap.size w1 w9) := Lib.hid (HB3.out.trans (hkp9.toBelow HB3.out.size (fun q e => HO3.out.new q e)))
          rw [← HTK.out] at hown9
          have hl9 : ((l.take i).map spanT ++ [spanT (t, t)]).length = i + 1 := by rw [List.length_append, List.length_map, List.length_take, List.length_singleton]; have := HL.out; omega
          rw [hl9] at hv9
          subst hv9
          rw [HSP.out] at hrun
          have HRUN := Lib.hid hrun
          have HO9 := Lib.hid hown9
          clear hrun hown9 hkp9 hl9
          go_wp2_with (at_builtin; refine wpList_step (fun K hK => step_app HRUN.out (.tmp 30) (.tmp 32) rfl rfl rfl rfl (hK _ _ ?_)))
          go_roundg g
          case measure => omega
          case rel => exact ⟨i + 1, HO9.out, by go_num, by omega, HB9.out⟩
        · have hne : (t == f) = false := beq_eq_false_iff_ne.2 hft
          have hne2 : (t != f) = true := by rw [bne, hne]; rfl
          have HI2 := Lib.hid (itoa_any t (by omega) (by omega) w3 (HT2.out.below HB23.out))
          obtain ⟨z2, hz2e⟩ : ∃ z, strB (Lib.itoa t) = z := ⟨_, rfl⟩
          rw [hz2e] at HI2 hz2
          have HZ2 := Lib.hid hz2e
          have HSP : Hid (strB (spanT (f, t)) = z1 ++ (⟨#[45]⟩ ++ z2)) := Lib.hid (by
            unfold spanT
            rw [if_neg (fun e => hft e.symm), ← HZ1.out, ← HZ2.out, show (⟨#[45]⟩ : ByteArray) = strB [45] from rfl, strB_app, strB_app]
            rfl)
          have q1 : ¬ (9223372036854775807 < 1 + z2.size) := by omega
          have q2 : ¬ (9223372036854775807 < z1.size + (1 + z2.size)) := by omega
          clear hz2e hft
          go_wp2_with fail
          with_reducible refine HI2.out.mono ?_
          rintro e w4 ⟨rfl, hb4⟩
          have HB4 := Lib.hid (HB3.out.trans (hb4.mono HB3.out.size))
          have HO4 := Lib.hid (HO3.out.below hb4)
          clear hb4 e0 e1 HI2
          obtain ⟨v', w9, hrun, hown9, hkp9⟩ := HO4.out.append (spanT (f, t)) HB4.out.size (by rw [List.length_map, List.length_take]; have := HL.out; omega)
          obtain ⟨a9, c9, hv9⟩ := hown9.form
          have HB9 : Hid (Below w1.heap.size w1 w9) := Lib.hid (HB4.out.trans (hkp9.toBelow HB4.out.size (fun q e => HO4.out.new q e)))
          rw [← HTK.out] at hown9
          have hl9 : ((l.take i).map spanT ++ [spanT (f, t)]).length = i + 1 := by rw [List.length_append, List.length_map, List.length_take, List.length_singleton]; have := HL.out; omega
          rw [hl9] at hv9
          subst hv9
          rw [HSP.out] at hrun
          have HRUN := Lib.hid hrun
          have HO9 := Lib.hid hown9
          clear hrun hown9 hkp9 hl9
          go_wp2_with (at_builtin; refine wpList_step (fun K hK => step_app HRUN.out (.tmp 30) (.tmp 32) rfl rfl rfl rfl (hK _ _ ?_)))
          go_roundg g
          case measure => omega
          case rel => exact ⟨i + 1, HO9.out, by go_num, by omega, HB9.out⟩
end Go.Proofs.YtiolchdfjlffoaaDoor
