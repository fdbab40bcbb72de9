/-
  The law of two documents one behind the other. Conditions: both lie in memory; the laid variables hold what their initialisers lay. The law XlexJoins: two documents that are right, the first without characters at its end, the second without a declaration: behind one another their tokens are those of both. Conditions: both lie in memory; the laid variables hold what their initialisers lay.
-/
import Derived.Test.YtemohjodihcdfaaGreatDoorXTo
import Derived.Test.YtemohjodihcdfaaGreatDoorXLf
import Derived.Test.YtemohjodihcdfaaGreatDoorXVw
namespace Go.Proofs.YtemohjodihcdfaaGreatDoor
open Go.RowKit Go.Lib Go.Joins

def cells8 (l : List UInt8) : List Value := l.map fun x => .int .u8 (x.toNat : Int)
/-- Bytes of the call's own. -/
structure OwnB (w0 w : World) (v : Value) (l : List UInt8) : Prop where
  row : w.ownsRow 0 5 1 v l.length (cells8 l)
  new : ∀ k, v.ownBlock = some k → w0.heap.size ≤ k
  bel : Below w0.heap.size w0 w
theorem OwnB.empty (w : World) : OwnB w (w.alloc (.cells #[] 5)) (.slice (some ⟨w.heap.size, 0, none⟩) 0 0) [] :=
  ⟨World.ownsRow_made w #[] 0 (Nat.zero_le _) (by unfold maxLen; omega) rfl, (fun k e => Nat.le_of_eq (Option.some.inj e)), (Below.refl _ _).alloc (Nat.le_refl _) _⟩
theorem OwnB.append {w0 w : World} {v : Value} {l : List UInt8} (h : OwnB w0 w v l) {ad : Option Addr} {c : Nat} {x : List UInt8} (hd : DocAt w ad c x) (hs : l.length + x.length ≤ 1000000) :
    ∃ v' w', (∀ ty, (Builtin.append_ #[22, 22] ty #[v, .slice ad x.length c]).run Tryz.prog w = .ok v' w') ∧ OwnB w0 w' v' (l ++ x) := by
  cases ad with
  | some b =>
    obtain ⟨v', w', h1, h2, h3, h4⟩ := append_any (w := w) Tryz.underlying22 info5 rfl (by decide) h.row (b := b) (m := x.length) (c := c) (news := cells8 x) (by rw [cells8, List.length_map, Nat.mul_one])
      (fun j u hj => by
        have hj2 : j < x.length := by
          have := (List.getElem?_eq_some_iff.1 hj).1
          rwa [cells8, List.length_map] at this
        rcases hd.row with h0 | ⟨b', o', hb, hc⟩
        · omega
        obtain rfl : b = ⟨b', o', none⟩ := by simpa using hb
        rw [Addr.add_mid, hc j hj2]
        rw [cells8, List.getElem?_map, List.getElem?_eq_getElem hj2] at hj
        rw [← hj]
        unfold fs
        rw [List.getD_eq_getElem?_getD, List.getElem?_eq_getElem hj2]
        rfl)
      (by intro u hu; obtain ⟨z, _, rfl⟩ := List.mem_map.1 hu; rfl) (by unfold maxLen; omega) (by omega)
    refine ⟨v', w', h1, ⟨by rw [List.length_append, cells8, List.map_append]; exact h2, fun k e => ?_, ?_⟩⟩
    · rcases h4 k e with h5 | h5
      · exact h.new k h5
      · exact Nat.le_trans h.bel.size h5
    · exact h.bel.trans (((Keeps.refl (fun k => v.ownBlock = some k) w).grown h3 (fun k e => .inl e)).toBelow h.bel.size (fun k e => h.new k e))
  | none =>
    have hx0 : x = [] := by
      rcases hd.row with h0 | ⟨b, o, he, _⟩
      · exact List.length_eq_zero_iff.1 h0
      · cases he
    obtain rfl : c = 0 := hd.nul rfl
    subst hx0
    exact ⟨v, w, append_any_none Tryz.underlying22 info5 h.row, by rw [List.append_nil]; exact h⟩
theorem OwnB.doc {w0 w : World} {v : Value} {l : List UInt8} (h : OwnB w0 w v l) : ∃ a c, v = .slice a l.length c ∧ DocAt w a c l := by
  rcases h.row.2 with ⟨h1, h0⟩ | ⟨g, cap, cur, h1, hg, hgb, hcap, hcm, hcur, htk⟩
  · exact ⟨none, 0, by rw [h1, h0], ⟨.inl h0, fun _ => rfl, by omega, Nat.zero_le _⟩⟩
  · refine ⟨_, cap, h1, ⟨.inr ⟨g, 0, rfl, fun k hk => ?_⟩, (fun e => by cases e), hcap, hcm⟩⟩
    have := h.row.cells (g := g) (by rw [h1]; rfl) k (.int .u8 (fs l k : Int)) (by
      rw [cells8, List.getElem?_map, List.getElem?_eq_getElem hk]
      unfold fs
      rw [List.getD_eq_getElem?_getD, List.getElem?_eq_getElem hk]
      rfl)
    rwa [Addr.add_mid] at this
/-- Two documents appended to an empty slice. -/
theorem join_run {w : World} {a b : Option Addr} {c d : Nat} {l m : List UInt8} (h1 : DocAt w a c l) (h2 : DocAt w b d m) (hs : l.length + m.length ≤ 8192) :
    ∃ v1 w1 v2 w2, (∀ ty, (Builtin.append_ #[22, 22] ty #[.slice (some ⟨w.heap.size, 0, none⟩) 0 0, .slice a l.length c]).run Tryz.prog (w.alloc (.cells #[] 5)) = .ok v1 w1) ∧
      (∀ ty, (Builtin.append_ #[22, 22] ty #[v1, .slice b m.length d]).run Tryz.prog w1 = .ok v2 w2) ∧ (∃ a2 c2, v2 = .slice a2 (l ++ m).length c2 ∧ DocAt w2 a2 c2 (l ++ m)) ∧ Below w.heap.size w w2 := by
  have hb0 : Below w.heap.size w (w.alloc (.cells #[] 5)) := (Below.refl _ _).alloc (Nat.le_refl _) _
  obtain ⟨v1, w1, r1, o1⟩ := (OwnB.empty w).append (h1.keep hb0) (by simp; omega)
  rw [List.nil_append] at o1
  obtain ⟨v2, w2, r2, o2⟩ := o1.append (h2.keep o1.bel) (by omega)
  exact ⟨v1, w1, v2, w2, r1, r2, o2.doc, o2.bel⟩

theorem TokRow.take {w : World} {S : Nat → Prop} {a : Option Addr} {c n : Nat} {x y : List Tk} (h : TokRow w S (.slice a n c) (x ++ y)) : TokRow w S (.slice a x.length c) x := by
  obtain ⟨a', c', h1, h2, h3, h4⟩ := h
  injection h1 with e1 e2 e3
  subst e1 e3
  rw [List.length_append] at h2
  refine ⟨_, _, rfl, by omega, h3, ?_⟩
  rcases h4 with h4 | ⟨b, o, h5, h6, h7⟩
  · exact .inl (List.append_eq_nil_iff.1 h4).1
  · exact .inr ⟨b, o, h5, h6, fun i tk hi => h7 i tk (by rw [List.getElem?_append_left (List.getElem?_eq_some_iff.1 hi).1]; exact hi)⟩
theorem TokRow.drop {w : World} {S : Nat → Prop} {b c n : Nat} {x y : List Tk} (h : TokRow w S (.slice (some ⟨b, 0, none⟩) n c) (x ++ y)) : TokRow w S (.slice (some ⟨b, x.length * 5, none⟩) y.length (c - x.length)) y := by
  obtain ⟨a', c', h1, h2, h3, h4⟩ := h
  injection h1 with e1 e2 e3
  subst e1 e3
  rw [List.length_append] at h2
  refine ⟨_, _, rfl, by omega, by omega, ?_⟩
  rcases h4 with h4 | ⟨b', o, h5, h6, h7⟩
  · exact .inl (List.append_eq_nil_iff.1 h4).2
  · injection h5 with h5
    injection h5 with h5 h8
    subst h5 h8
    refine .inr ⟨_, _, rfl, h6, fun i tk hi => ?_⟩
    have h9 := h7 (x.length + i) tk (by rw [List.getElem?_append_right (Nat.le_add_right _ _), Nat.add_sub_cancel_left]; exact hi)
    rw [show 0 + (x.length + i) * 5 = x.length * 5 + i * 5 by omega] at h9
    exact h9
/-- The tokens of the second document, the first i of them moved. -/
def Moved (w : World) (b d i : Nat) (ts : List Tk) : Prop :=
  (∃ cur, w.heap[b]? = some (.cells cur 33 (0, 0))) ∧ ∀ k tk, ts[k]? = some tk → TkAt w (fun q => q ≠ b) b (k * 5) (if k < i then sh9 d tk else tk)
theorem Moved.step {w : World} {b d i : Nat} {ts : List Tk} {tk : Tk} (h : Moved w b d i ts) (hi : ts[i]? = some tk) : Moved (w.setCell ⟨b, i * 5 + 1, none⟩ (.int .i64 ((tk.at_ + d : Nat) : Int))) b d (i + 1) ts := by
  obtain ⟨⟨cur, hc⟩, h2⟩ := h
  refine ⟨⟨_, block_setCell hc _⟩, fun k t hk => ?_⟩
  have hkeep : Keeps (fun q => q = b) w (w.setCell ⟨b, i * 5 + 1, none⟩ (.int .i64 ((tk.at_ + d : Nat) : Int))) := (Keeps.refl (fun q => q = b) w).setCell (p := ⟨b, i * 5 + 1, none⟩) (.inl rfl) _
  have far : ∀ p v, p ≠ i * 5 + 1 → w.cell? ⟨b, p, none⟩ = some v → (w.setCell ⟨b, i * 5 + 1, none⟩ (.int .i64 ((tk.at_ + d : Nat) : Int))).cell? ⟨b, p, none⟩ = some v := fun p v hp hv => by
    rw [World.cell?_setCell_other (w := w) (a := ⟨b, i * 5 + 1, none⟩) (b := ⟨b, p, none⟩) _ (fun e => hp (by injection e with _ e2; exact e2.symm))]
    exact hv
  obtain ⟨y0, y1, y2, y3, av, y4, y5⟩ := h2 k t hk
  by_cases hki : k = i
  · subst hki
    rw [hi] at hk
    obtain rfl := Option.some.inj hk
    rw [if_neg (Nat.lt_irrefl _)] at y0 y1 y2 y3 y5
    rw [if_pos (Nat.lt_succ_self _)]
    exact ⟨far _ _ (by omega) y0, World.cell?_setCell_same (w := w) (a := ⟨b, k * 5 + 1, none⟩) _ y1, far _ _ (by omega) y2, far _ _ (by omega) y3, av, far _ _ (by omega) y4, att_keep y5 hkeep (fun q hq => hq)⟩
  · have e : (if k < i + 1 then sh9 d t else t) = if k < i then sh9 d t else t := by
      by_cases hlt : k < i
      · rw [if_pos hlt, if_pos (by omega)]
      · rw [if_neg hlt, if_neg (by omega)]
    rw [e]
    exact ⟨far _ _ (by omega) y0, far _ _ (by omega) y1, far _ _ (by omega) y2, far _ _ (by omega) y3, av, far _ _ (by omega) y4, att_keep y5 hkeep (fun q hq => hq)⟩
theorem OwnT.moved {n0 : Nat} {w : World} {b c n : Nat} {ps : List (Tk × Value)} (h : OwnT n0 w (.slice (some ⟨b, 0, none⟩) n c) ps) (d : Nat) : Moved w b d 0 (ps.map Prod.fst) := by
  rcases h.row.2 with ⟨h1, h0⟩ | ⟨g, cap, cur, h1, hg, hgb, hcap, hcm, hcur, htk⟩
  · cases h1
  injection h1 with e1 e2 e3
  injection e1 with e1
  injection e1 with e1
  subst e1
  refine ⟨⟨cur, hgb⟩, fun k tk hk => ?_⟩
  rw [if_neg (Nat.not_lt_zero _)]
  rw [List.getElem?_map] at hk
  obtain ⟨x, hx, rfl⟩ := Option.map_eq_some_iff.1 hk
  rcases h.tokens with ⟨h1, h0⟩ | ⟨b', c', h1, h2, h3, h4, h5, h6⟩
  · cases h1
  injection h1 with e1 e2 e3
  injection e1 with e1
  injection e1 with e1
  subst e1
  obtain ⟨y0, y1, y2, y3, y4⟩ := h6 k x hx
  exact ⟨y0, y1, y2, y3, x.2, y4, att_more (h.atts x (List.mem_of_getElem? hx)).att (fun q e hq => h.apart x (List.mem_of_getElem? hx) q e (by rw [hq]; rfl))⟩
theorem Moved.row {w : World} {b d n c : Nat} {ts : List Tk} (h : Moved w b d ts.length ts) (hn : ts.length = n) (hc : n ≤ c) (hm : c ≤ maxLen) : TokRow w (fun _ => True) (.slice (some ⟨b, 0, none⟩) n c) (ts.map (sh9 d)) := by
  subst hn
  refine ⟨some ⟨b, 0, none⟩, c, by rw [List.length_map], by rw [List.length_map]; exact hc, hm, .inr ⟨b, 0, rfl, trivial, fun i tk hi => ?_⟩⟩
  rw [List.getElem?_map] at hi
  obtain ⟨x, hx, rfl⟩ := Option.map_eq_some_iff.1 hi
  have h2 := h.2 i x hx
  rw [if_pos (List.getElem?_eq_some_iff.1 hx).1] at h2
  rw [Nat.zero_add]
  obtain ⟨y0, y1, y2, y3, av, y4, y5⟩ := h2
  exact ⟨y0, y1, y2, y3, av, y4, att_more y5 (fun _ _ => trivial)⟩
set_option maxRecDepth 100000 in
/-- The first bytes in memory as a text. -/
theorem conv_take {w : World} {a : Option Addr} {c d : Nat} {l : List UInt8} (h : DocAt w a c l) {n : Nat} (hn : n ≤ l.length) (h0 : 0 < n) : (convert 22 9 (.slice a n d)).run Tryz.prog w = .ok (.string (strB (l.take n))) w := by
  rcases h.row with h3 | ⟨b, o, rfl, hc⟩
  · omega
  have hb : Lib.Bytes w b o (strB l) := fun x hx => by
    have hx2 : x < l.length := hx
    rw [hc x hx2]
    congr 2
    unfold fs strB
    rw [List.getD_eq_getElem?_getD, List.getElem?_eq_getElem hx2]
    rfl
  have h4 := Lib.run_convert_window (P := Tryz.prog) w 22 5 9 Tryz.underlying22 Tryz.underlying5 Tryz.underlying9 b o (strB l) hb 0 n d (by rw [strB_size]; omega)
  rw [Nat.add_zero] at h4
  rw [h4]
  congr 2
  apply ByteArray.ext
  apply Array.toList_inj.1
  unfold strB
  simp [ByteArray.data_extract, List.extract_eq_take_drop]
theorem AllOut.any {w : World} {s : Sx (List Tk)} {e : Ending} {w' : World} (h : AllOut w s e w') : ∃ v ev, e = .returned (.tuple #[v, ev]) ∧ Below w.heap.size w w' := by
  cases s with
  | ok ts j t => obtain ⟨v, ps, h1, _, _, h2⟩ := h; exact ⟨v, _, h1, h2⟩
  | no cd p => obtain ⟨ev, h1, _, _, h2⟩ := h; exact ⟨_, ev, h1, h2⟩

end Go.Proofs.YtemohjodihcdfaaGreatDoor
namespace Go.Proofs.YtemohjodihcdfaaGreatDoor
open Go.RowKit Go.Lib Go.Joins

set_option maxRecDepth 100000 in
set_option maxHeartbeats 16000000 in
theorem joins_calls {w : World} {a b : Option Addr} {c d : Nat} {l m : List UInt8} (hd1 : DocAt w a c l) (hd2 : DocAt w b d m) (hE : EnvAt w) (hg : Handle w) (h15 : 15 ≤ w.heap.size) : Calls Tryz.prog 4 #[.slice a l.length c, .slice b m.length d] w (Leaves (.bool true) w) := by
  have HAW := Lib.hid (awake_calls w hE hg h15)
  have HDA := Lib.hid hd1
  have HDB := Lib.hid hd2
  have HE := Lib.hid hE
  have HG := Lib.hid hg
  have H15 := Lib.hid h15
  obtain ⟨n, hn⟩ : ∃ n, l.length = n := ⟨_, rfl⟩
  have HN := Lib.hid hn
  obtain ⟨k, hk⟩ : ∃ k, m.length = k := ⟨_, rfl⟩
  have HK := Lib.hid hk
  rw [hn, hk]
  clear hd1 hd2 hE hg h15 hn hk
  by_cases hl : 4096 < n
  · have hz : (4096 : Int) < (n : Int) := by omega
    clear hl
    go_enter Tryz.func4, Tryz.ntmps4
    go_wp2_with fail
    with_reducible refine HAW.out.mono ?_
    rintro e w1 ⟨rfl, hb⟩
    have HB1 := Lib.hid hb
    clear hb
    go_wp2_with fail
    go_ret
    exact ⟨rfl, HB1.out⟩
  have hz : ¬ ((4096 : Int) < (n : Int)) := by omega
  by_cases hm : 4096 < k
  · have hzm : (4096 : Int) < (k : Int) := by omega
    clear hl hm
    go_enter Tryz.func4, Tryz.ntmps4
    go_wp2_with fail
    with_reducible refine HAW.out.mono ?_
    rintro e w1 ⟨rfl, hb⟩
    have HB1 := Lib.hid hb
    clear hb
    go_wp2_with fail
    go_ret
    exact ⟨rfl, HB1.out⟩
  have hzm : ¬ ((4096 : Int) < (k : Int)) := by omega
  have HLE := Lib.hid (show n ≤ 4096 ∧ k ≤ 4096 by omega)
  clear hl hm
  go_enter Tryz.func4, Tryz.ntmps4
  go_wp2_with fail
  with_reducible refine HAW.out.mono ?_
  rintro e w1 ⟨rfl, hb⟩
  have HB1 := Lib.hid hb
  clear hb HAW
  have HA : Hid (Calls Tryz.prog 11 #[.slice a n c] w1 (AllOut w1 (allS l))) := Lib.hid (by
    have h := all_calls (HDA.out.keep HB1.out) (HE.out.below HB1.out) (Nat.le_trans H15.out HB1.out.size)
    rw [HN.out] at h
    exact h)
  have HAB : Hid (∀ W, Below w.heap.size w W → Calls Tryz.prog 11 #[.slice b k d] W (AllOut W (allS m))) := Lib.hid (fun W hW => by
    have h := all_calls (HDB.out.keep hW) (HE.out.below hW) (Nat.le_trans H15.out hW.size)
    rw [HK.out] at h
    exact h)
  go_wp2_with fail
  with_reducible refine HA.out.mono ?_
  obtain ⟨Q, hQ⟩ : ∃ Q, allS l = Q := ⟨_, rfl⟩
  rw [hQ]
  have HQ := Lib.hid hQ
  clear hQ HA
  cases Q with
  | no cd p =>
    rintro e w2 ⟨ev, rfl, hcd, her, hb⟩
    have HB2 := Lib.hid (below_then HB1.out hb)
    have HER := Lib.hid her
    have HA2 := Lib.hid (HAB.out w2 HB2.out)
    have hcz : ((cd : Int) != 0) = true := by rw [bne_iff_ne]; omega
    clear her hb HAB
    go_wp2_with fail
    with_reducible refine HA2.out.mono ?_
    intro e w3 h3
    obtain ⟨v, fv, rfl, hb⟩ := h3.any
    have HB3 := Lib.hid (below_then HB2.out hb)
    have HCO := Lib.hid (code_calls _ _ ev w3 (HER.out.below hb) (HG.out.below HB3.out))
    clear h3 hb HA2 HER
    go_wp2_with fail
    with_reducible refine HCO.out.mono ?_
    rintro e w4 ⟨rfl, hb⟩
    have HB4 := Lib.hid (below_then HB3.out hb)
    clear hb
    go_wp2_with fail
    go_ret
    exact ⟨rfl, HB4.out⟩
  | ok ts j t =>
  rintro e w2 ⟨v, ps, rfl, hps, hown, hb⟩
  have HB2 := Lib.hid (below_then HB1.out hb)
  have HA2 := Lib.hid (HAB.out w2 HB2.out)
  obtain ⟨va, vc, hv⟩ := hown.form
  have HX2 := Lib.hid hown
  have hpl : ps.length = ts.length := by rw [← hps, List.length_map]
  rw [hpl] at hv
  obtain ⟨n1, hn1⟩ : ∃ z, ts.length = z := ⟨_, rfl⟩
  rw [hn1] at hv
  subst hv
  have HN1 := Lib.hid hn1
  have HPS := Lib.hid hps
  clear hb HAB hown hpl hn1 hps
  go_wp2_with fail
  with_reducible refine HA2.out.mono ?_
  obtain ⟨Q2, hQ2⟩ : ∃ Q, allS m = Q := ⟨_, rfl⟩
  rw [hQ2]
  have HQ2 := Lib.hid hQ2
  clear hQ2 HA2
  cases Q2 with
  | no cd p =>
    rintro e w3 ⟨ev, rfl, hcd, her, hb⟩
    have HB3 := Lib.hid (below_then HB2.out hb)
    have HER := Lib.hid her
    have HCN := Lib.hid (code_nil w3)
    have hcz : ((cd : Int) != 0) = true := by rw [bne_iff_ne]; omega
    clear her hb
    go_wp2_with fail
    with_reducible refine HCN.out.mono ?_
    rintro e w4 ⟨rfl, hb⟩
    have HB4 := Lib.hid (below_then HB3.out hb)
    have HCO := Lib.hid (code_calls _ _ ev w4 (HER.out.below hb) (HG.out.below HB4.out))
    clear hb HER HCN
    go_wp2_with fail
    with_reducible refine HCO.out.mono ?_
    rintro e w5 ⟨rfl, hb⟩
    have HB5 := Lib.hid (below_then HB4.out hb)
    clear hb
    go_wp2_with fail
    go_ret
    exact ⟨rfl, HB5.out⟩
  | ok us j2 t2 =>
  rintro e w3 ⟨v2, qs, rfl, hqs, hown2, hb⟩
  have HB3 := Lib.hid (below_then HB2.out hb)
  obtain ⟨ya, yc, hv2⟩ := hown2.form
  have hpl : qs.length = us.length := by rw [← hqs, List.length_map]
  rw [hpl] at hv2
  obtain ⟨n2, hn2⟩ : ∃ z, us.length = z := ⟨_, rfl⟩
  rw [hn2] at hv2
  subst hv2
  have HN2 := Lib.hid hn2
  have HQS := Lib.hid hqs
  have HX3 : Hid (TokRow w3 (fun q => w1.heap.size ≤ q ∧ q < w2.heap.size) (.slice va n1 vc) ts) := Lib.hid (by
    have h := HX2.out.trow
    rw [HPS.out] at h
    exact h.below hb)
  have HKI : Hid (∀ b1, va = some ⟨b1, 0, none⟩ → ∀ i x, ps[i]? = some x → TkIn w3 b1 i x) := Lib.hid (fun b1 hb1 i x hx => by
    rcases HX2.out.tokens with ⟨h1, h0⟩ | ⟨b', c', h1, _, _, _, _, h6⟩
    · rw [h0] at hx; cases hx
    · injection h1 with e1 _ _
      rw [hb1] at e1
      injection e1 with e1
      injection e1 with e1
      subst e1
      exact (h6 i x hx).keep hb)
  have HFX : Hid (n1 ≠ 0 → ∃ b1, va = some ⟨b1, 0, none⟩) := Lib.hid (fun h0 => by
    rcases HX2.out.tokens with ⟨h1, h2⟩ | ⟨b', c', h1, _⟩
    · exfalso
      have := HN1.out
      rw [← HPS.out, h2] at this
      exact h0 this.symm
    · injection h1 with e1 _ _
      exact ⟨b', e1⟩)
  have HSZ2 := Lib.hid hb.size
  have HY3 := Lib.hid hown2
  clear hb hown2 hpl hn2 hqs HX2
  go_upto_region 7 with (fail)
  go_cut [65] (fun s wx => Below w3.heap.size w3 wx ∧ ((s = .bool true) ∨ (s = .bool false ∧ n1 ≠ 0 ∧ (∀ tk, ts.getLast? = some tk → tk.kind ≠ 4) ∧ declP.isPrefixOf m = false)))
  case first =>
    have HCN := Lib.hid (code_nil w3)
    go_wp2_with fail
    with_reducible refine HCN.out.mono ?_
    rintro e w4 ⟨rfl, hb34⟩
    have HB34 := Lib.hid hb34
    have HCN4 := Lib.hid (code_nil w4)
    clear hb34 HCN
    go_wp2_with fail
    with_reducible refine HCN4.out.mono ?_
    rintro e w5 ⟨rfl, hb45⟩
    have HB35 := Lib.hid (below_then HB34.out hb45)
    have HB5 := Lib.hid (below_then HB3.out HB35.out)
    clear hb45 HCN4 HB34
    by_cases h10 : n1 = 0
    · have hn10 : ((n1 : Int) == 0) = true := by rw [h10]; rfl
      clear h10
      go_wp2_with fail
      go_meet
      exact ⟨HB35.out, .inl rfl⟩
    have hn10 : ((n1 : Int) == 0) = false := by rw [beq_eq_false_iff_ne]; omega
    obtain ⟨b1, rfl⟩ := HFX.out h10
    obtain ⟨k1, hk1⟩ : ∃ k1, n1 = k1 + 1 := ⟨n1 - 1, by omega⟩
    obtain ⟨x, hx⟩ : ∃ x, ps[k1]? = some x := ⟨_, List.getElem?_eq_getElem (by have h := HN1.out; rw [← HPS.out, List.length_map] at h; omega)⟩
    have hkc : w5.cell? ⟨b1, k1 * 5, none⟩ = some (.int .i64 (x.1.kind : Int)) := by
      have h := (HKI.out b1 rfl k1 x hx).1
      exact (HB35.out.cell (lt_of_cell h)).trans h
    have hlast : ts.getLast? = some x.1 := by
      rw [List.getLast?_eq_getElem?, HN1.out, hk1, Nat.add_sub_cancel, ← HPS.out, List.getElem?_map, hx]
      rfl
    have HLA := Lib.hid hlast
    obtain ⟨kd, hkd⟩ : ∃ z, x.1.kind = z := ⟨_, rfl⟩
    rw [hkd] at hkc
    have HKD := Lib.hid hkd
    have hsub : IntKind.i64.wrap ((n1 : Int) - 1) = (k1 : Int) := by
      rw [show (n1 : Int) - 1 = (k1 : Int) by omega]
      exact IntWalk.i64_in _ (by
        have h := HX3.out
        obtain ⟨_, _, e, h1, h2, _⟩ := h
        have := HN1.out
        unfold maxLen at h2
        omega)
    have hlt1 : (k1 : Int) < (n1 : Int) := by omega
    have h01 : (0 : Int) ≤ (k1 : Int) := by omega
    have HK1 := Lib.hid hk1
    have H10 := Lib.hid h10
    clear hlast hkd hx HKI HFX hk1 h10
    by_cases h4 : kd = 4
    · have hk4 : ((kd : Int) == 4) = true := by rw [h4]; rfl
      clear h4
      go_wp2_with fail
      go_meet
      exact ⟨HB35.out, .inl rfl⟩
    have hk4 : ((kd : Int) == 4) = false := by rw [beq_eq_false_iff_ne]; omega
    have HK4 : Hid (∀ tk, ts.getLast? = some tk → tk.kind ≠ 4) := Lib.hid (fun tk htk => by
      rw [HLA.out] at htk
      obtain rfl := Option.some.inj htk
      rw [HKD.out]
      exact h4)
    clear h4
    by_cases hb5 : 4 < k
    · have hk5 : (4 : Int) < (k : Int) := by omega
      have hcv : ∀ W, Below w.heap.size w W → (convert 22 9 (.slice b 5 d)).run Tryz.prog W = .ok (.string (strB (m.take 5))) W := fun W hW => conv_take (HDB.out.keep hW) (by have := HK.out; omega) (by decide)
      have hcv5 := hcv w5 HB5.out
      have hcd : (5 : Int) ≤ (d : Int) := by have := HDB.out.cap; have := HK.out; omega
      obtain ⟨bb, bo, rfl⟩ : ∃ bb bo, b = some ⟨bb, bo, none⟩ := by
        rcases HDB.out.row with h | ⟨bb, bo, h, _⟩
        · have := HK.out; omega
        · exact ⟨bb, bo, h⟩
      obtain ⟨s5, hs5⟩ : ∃ z, strB (m.take 5) = z := ⟨_, rfl⟩
      rw [hs5] at hcv5
      have hse : (s5.toList == [60, 63, 120, 109, 108]) = (m.take 5 == declP) := by rw [← hs5, str_eq]; rfl
      by_cases hpx : m.take 5 = declP
      · have hse2 : (s5.toList == [60, 63, 120, 109, 108]) = true := by rw [hse, hpx]; rfl
        clear hse hcv hs5
        go_wp2_with fail
        go_meet
        exact ⟨HB35.out, .inl rfl⟩
      · have hse2 : (s5.toList == [60, 63, 120, 109, 108]) = false := by rw [hse]; exact beq_eq_false_iff_ne.2 hpx
        have HNP : Hid (declP.isPrefixOf m = false) := Lib.hid (by
          rw [Bool.eq_false_iff]
          intro h
          obtain ⟨u, hu⟩ := List.isPrefixOf_iff_prefix.1 h
          apply hpx
          rw [← hu]
          rfl)
        clear hse hcv hs5 hpx
        go_wp2_with fail
        go_meet
        exact ⟨HB35.out, .inr ⟨rfl, H10.out, HK4.out, HNP.out⟩⟩
    · have hk5 : ¬ ((4 : Int) < (k : Int)) := by omega
      have HNP : Hid (declP.isPrefixOf m = false) := Lib.hid (by
        rw [Bool.eq_false_iff]
        intro h
        have h2 := (List.isPrefixOf_iff_prefix.1 h).length_le
        have h3 : declP.length = 5 := rfl
        have := HK.out
        omega)
      clear hb5
      go_wp2_with fail
      go_meet
      exact ⟨HB35.out, .inr ⟨rfl, H10.out, HK4.out, HNP.out⟩⟩
  case rest =>
  obtain ⟨hb6, hcase⟩ := hcut
  rename World => w6
  have HB36 := Lib.hid hb6
  have HB6 := Lib.hid (below_then HB3.out hb6)
  clear hb6
  rcases hcase with rfl | ⟨rfl, h10, hk4, hnp⟩
  · go_wp2_with fail
    go_ret
    exact ⟨rfl, HB6.out⟩
  have HJS := Lib.hid (allS_join HQ.out HQ2.out (fun h => by have h2 := HN1.out; rw [h] at h2; exact h10 h2.symm) hk4 hnp (by have := HN.out; have := HK.out; have := HLE.out; omega))
  clear hnp hk4
  have hjr := join_run (HDA.out.keep HB6.out) (HDB.out.keep HB6.out) (by have := HN.out; have := HK.out; have := HLE.out; omega)
  rw [HN.out, HK.out] at hjr
  obtain ⟨v7, w7, v8, w8, hrun7, hrun8, ⟨a8, c8, rfl, hd8⟩, hb8⟩ := hjr
  have HRUN7 := Lib.hid hrun7
  have hl8 : (l ++ m).length = n + k := by rw [List.length_append, HN.out, HK.out]
  rw [hl8] at hrun8
  have HRUN8 := Lib.hid hrun8
  have HB68 := Lib.hid hb8
  have HB8 := Lib.hid (below_then HB6.out hb8)
  have HA8 : Hid (Calls Tryz.prog 11 #[.slice a8 (n + k) c8] w8 (AllOut w8 (allS (l ++ m)))) := Lib.hid (by
    have h := all_calls hd8 (HE.out.below HB8.out) (Nat.le_trans H15.out HB8.out.size)
    rw [hl8] at h
    exact h)
  clear hrun7 hrun8 hd8 hb8 hl8
  obtain ⟨j8, t8, hj8⟩ := HJS.out
  rw [HN.out] at hj8
  rw [hj8] at HA8
  clear hj8 HJS
  go_wp2_with (at_builtin; first | refine wpList_step (fun K hK => step_app HRUN7.out (.tmp 67) (.tmp 68) rfl rfl rfl rfl (hK _ _ ?_)) | refine wpList_step (fun K hK => step_app HRUN8.out (.tmp 69) (.tmp 70) rfl rfl rfl rfl (hK _ _ ?_)))
  with_reducible refine HA8.out.mono ?_
  rintro e w9 ⟨v9, zs, rfl, hzs, hown9, hb89⟩
  have HB39 := Lib.hid (below_then HB36.out (below_then HB68.out hb89))
  have HB9 := Lib.hid (below_then HB3.out HB39.out)
  obtain ⟨n3, hn3⟩ : ∃ z, n1 + n2 = z := ⟨_, rfl⟩
  have hzl : zs.length = n3 := by rw [← hn3, ← HN1.out, ← HN2.out, ← List.length_map (f := Prod.fst), hzs, List.length_append, List.length_map]
  obtain ⟨zb, zc, hv9, hzc, hzm9⟩ : ∃ zb zc, v9 = .slice (some ⟨zb, 0, none⟩) n3 zc ∧ n3 ≤ zc ∧ zc ≤ maxLen := by
    rcases hown9.tokens with ⟨_, h0⟩ | ⟨zb, zc, h1, h2, h3, _⟩
    · rw [h0] at hzl
      exact absurd hzl (by simp; omega)
    · exact ⟨zb, zc, by rw [h1, hzl], by omega, h3⟩
  subst hv9
  have hzr := hown9.trow
  rw [hzs] at hzr
  have hz1 := hzr.take
  have hz2 := hzr.drop
  rw [HN1.out] at hz1
  rw [HN1.out, List.length_map, HN2.out] at hz2
  have HZ1 := Lib.hid hz1
  have HZ2 := Lib.hid hz2
  have HN3 := Lib.hid hn3
  have HC9 := Lib.hid (code_nil w9)
  have hsz8 : w3.heap.size ≤ w8.heap.size := Nat.le_trans HB36.out.size HB68.out.size
  have HSZ8 := Lib.hid hsz8
  have hsum : IntKind.i64.wrap ((n1 : Int) + (n2 : Int)) = (n3 : Int) := by
    rw [show (n1 : Int) + (n2 : Int) = (n3 : Int) by omega]
    exact IntWalk.i64_in _ (by unfold maxLen at hzm9; omega)
  have HMX : Hid (n2 ≤ maxLen) := Lib.hid (by omega)
  have hs1 : (n1 : Int) ≤ (zc : Int) := by omega
  have hs2 : (n1 : Int) ≤ (n3 : Int) := by omega
  have hs3 : (0 : Int) ≤ (n1 : Int) := by omega
  have hs4 : (n3 : Int) ≤ (zc : Int) := by omega
  have HYN : Hid (∀ q, ya = some ⟨q, 0, none⟩ → w2.heap.size ≤ q ∧ q < w3.heap.size) := Lib.hid (fun q hq => ⟨HY3.out.new q (by rw [hq]; rfl), HY3.out.lt q (by rw [hq]; rfl)⟩)
  have HYF : Hid (n2 ≠ 0 → ∃ yb, ya = some ⟨yb, 0, none⟩) := Lib.hid (fun h0 => by
    rcases HY3.out.tokens with ⟨_, h2⟩ | ⟨b', c', h1, _⟩
    · exfalso
      have := HN2.out
      rw [← HQS.out, h2] at this
      exact h0 this.symm
    · injection h1 with e1 _ _
      exact ⟨b', e1⟩)
  have HYC : Hid (n2 ≤ yc ∧ yc ≤ maxLen) := Lib.hid (by
    have h := HY3.out.trow
    rw [HQS.out] at h
    obtain ⟨_, _, h1, h2, h3, _⟩ := h
    injection h1 with _ _ e3
    subst e3
    rw [HN2.out] at h2
    exact ⟨h2, h3⟩)
  clear hzs hown9 hb89 hzl hzr hz1 hz2 hn3 h10 hsz8 HA8 HRUN7 HRUN8
  go_wp2_with fail
  with_reducible refine HC9.out.mono ?_
  rintro e w10 ⟨rfl, hb⟩
  have HB910 := Lib.hid hb
  have HB310 := Lib.hid (below_then HB39.out hb)
  have HB10 := Lib.hid (below_then HB3.out HB310.out)
  have HX10 : Hid (TokRow w10 (fun q => q < w2.heap.size) (.slice va n1 vc) ts) := Lib.hid (by
    obtain ⟨a', c', h1, h2, h3, h4⟩ := HX3.out.below HB310.out
    refine ⟨a', c', h1, h2, h3, ?_⟩
    rcases h4 with h4 | ⟨b', o', h5, h6, h7⟩
    · exact .inl h4
    · refine .inr ⟨b', o', h5, h6.2, fun i tk hi => ?_⟩
      obtain ⟨y0, y1, y2, y3, av, y4, y5⟩ := h7 i tk hi
      exact ⟨y0, y1, y2, y3, av, y4, att_more y5 (fun _ hq => hq.2)⟩)
  have HZ10 := Lib.hid (HZ1.out.below hb)
  have HZ20 := Lib.hid (HZ2.out.below hb)
  have HM10 : Hid (∀ yb, ya = some ⟨yb, 0, none⟩ → Moved w10 yb n 0 us) := Lib.hid (fun yb hyb => by
    have h := HY3.out.keep (keeps_below HB310.out Non) (fun _ _ h => h)
    rw [hyb] at h
    have h2 := h.moved n
    rw [HQS.out] at h2
    exact h2)
  clear hb HC9 HZ1 HZ2 HX3
  go_wp2_with fail
  go_loopg [11] n2 (fun g s11 wr => ∃ i : Nat, i + g = n2 ∧ s11 = .int .i64 (i : Int) ∧ Keeps (fun q => ya = some ⟨q, 0, none⟩) w10 wr ∧ ∀ yb, ya = some ⟨yb, 0, none⟩ → Moved wr yb n i us)
  case atStart => exact ⟨0, by omega, rfl, Keeps.refl _ _, HM10.out⟩
  case round =>
    obtain ⟨i, hig, rfl, hkr, hmv⟩ := hrel
    have HKR := Lib.hid hkr
    have HMV := Lib.hid hmv
    clear hkr hmv
    cases gk with
    | zero =>
      obtain rfl : i = n2 := by omega
      have hge : ¬ ((i : Int) < (i : Int)) := by omega
      have HBR : Hid (Below w.heap.size w wr) := Lib.hid (HB10.out.trans (HKR.out.toBelow HB10.out.size (fun q hq => Nat.le_trans HB2.out.size (HYN.out q hq).1)))
      have hT1 := tokens_calls (HZ10.out.keep HKR.out (fun q hq hy => by have h1 := (HYN.out q hy).2; have h2 := hq.1; have := HSZ8.out; omega)) (HX10.out.keep HKR.out (fun q hq hy => by have h1 := (HYN.out q hy).1; omega))
      have HT1 := Lib.hid hT1
      clear hT1
      go_wp2_with fail
      with_reducible refine HT1.out.mono ?_
      rintro e w11 ⟨rfl, hb⟩
      have hT2 := tokens_calls ((HZ20.out.keep HKR.out (fun q hq hy => by have h1 := (HYN.out q hy).2; have h2 := hq.1; have := HSZ8.out; omega)).below hb) (show TokRow w11 (fun _ => True) (.slice ya i yc) (us.map (sh9 n)) from by
        by_cases h0 : i = 0
        · have hu : us = [] := List.length_eq_zero_iff.1 (by rw [HN2.out]; exact h0)
          rw [hu]
          exact ⟨ya, yc, by rw [h0]; rfl, Nat.zero_le _, HYC.out.2, .inl rfl⟩
        · obtain ⟨yb, hyb⟩ := HYF.out h0
          have h := HMV.out yb hyb
          rw [← HN2.out] at h
          have h2 := (h.row HN2.out HYC.out.1 HYC.out.2).below hb
          rw [hyb]
          exact h2)
      have HT2 := Lib.hid hT2
      have HB11 := Lib.hid (below_then HBR.out hb)
      have hoff : n3 - n1 = i := by have := HN3.out; omega
      clear hb hT2
      by_cases hzn : zc = n1
      · have hi0 : i = 0 := by omega
        have HT3 : Hid (Calls Tryz.prog 15 #[.slice (some ⟨zb, 0, none⟩) i 0, .slice ya i yc] w11 (Leaves (.bool true) w11)) := Lib.hid (by
          have h := tokens_calls (S1 := fun _ => True) (S2 := fun _ => True) (w := w11) (v1 := .slice (some ⟨zb, 0, none⟩) 0 0) (v2 := .slice ya 0 yc) (ts := []) ⟨_, _, rfl, Nat.le_refl _, Nat.zero_le _, .inl rfl⟩ ⟨_, _, rfl, Nat.zero_le _, HYC.out.2, .inl rfl⟩
          rw [hi0]
          exact h)
        clear hi0 HT2
        go_wp2_with fail
        with_reducible refine HT3.out.mono ?_
        rintro e w12 ⟨rfl, hb⟩
        have HB12 := Lib.hid (below_then HB11.out hb)
        clear hb
        go_wp2_with fail
        go_ret
        exact ⟨rfl, HB12.out⟩
      go_wp2_with fail
      with_reducible refine HT2.out.mono ?_
      rintro e w12 ⟨rfl, hb⟩
      have HB12 := Lib.hid (below_then HB11.out hb)
      clear hb
      go_wp2_with fail
      go_ret
      exact ⟨rfl, HB12.out⟩
    | succ g =>
      have hlt : (i : Int) < (n2 : Int) := by omega
      have hi0 : (0 : Int) ≤ (i : Int) := by omega
      have hadd : IntKind.i64.wrap ((i : Int) + 1) = ((i + 1 : Nat) : Int) := IntWalk.i64_in _ (by have := HMX.out; unfold maxLen at this; omega)
      obtain ⟨tk, htk⟩ : ∃ x, us[i]? = some x := ⟨_, List.getElem?_eq_getElem (by have := HN2.out; omega)⟩
      obtain ⟨yb, rfl⟩ := HYF.out (by omega)
      obtain ⟨⟨cur, hcur⟩, hcells⟩ := HMV.out yb rfl
      have hc1 := (hcells i tk htk).2.1
      rw [if_neg (Nat.lt_irrefl _)] at hc1
      have hf1 := unfrozen_of_block hcur (i * 5 + 1)
      have hat : tk.at_ < m.length := ((allS_seq HQ2.out).at i tk htk).2.1
      have hst := (HMV.out yb rfl).step htk
      obtain ⟨p, hp⟩ : ∃ p, tk.at_ + n = p := ⟨_, rfl⟩
      have hsm : IntKind.i64.wrap ((tk.at_ : Int) + (n : Int)) = (p : Int) := by
        rw [show (tk.at_ : Int) + (n : Int) = (p : Int) by omega]
        exact IntWalk.i64_in _ (by have := HK.out; have := HLE.out; omega)
      rw [hp] at hst
      have HST := Lib.hid hst
      have HKS : Hid (Keeps (fun q => (some ⟨yb, 0, none⟩ : Option Addr) = some ⟨q, 0, none⟩) w10 (wr.setCell ⟨yb, i * 5 + 1, none⟩ (.int .i64 (p : Int)))) := Lib.hid (HKR.out.setCell (p := ⟨yb, i * 5 + 1, none⟩) (.inl rfl) _)
      obtain ⟨pa, hpa⟩ : ∃ z, tk.at_ = z := ⟨_, rfl⟩
      rw [hpa] at hc1 hsm
      clear hcur hcells htk hat hst hp hpa
      go_wp2_with fail
      go_roundg g
      case measure => omega
      case rel => exact ⟨i + 1, by omega, rfl, HKS.out, fun yb' hyb' => by
        injection hyb' with h1
        injection h1 with h1
        subst h1
        exact HST.out⟩

end Go.Proofs.YtemohjodihcdfaaGreatDoor
