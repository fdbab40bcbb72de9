/-
  Attributes in memory, and whether two rows of them are the same, told by the reference. Condition: the slices lead to what they are said to. Tokens in memory, at whatever place of a row; two rows of the same tokens are told to be the same by the reference. Condition: the slices lead to what they are said to.
-/
import Derived.Test.YtemohjodihcdfaaGreatDoorXN
import Derived.Test.YtemohjodihcdfaaGreatDoorXAw
import Derived.Lib.QuietBelow
import Derived.BigQuiet
namespace Go.Proofs.YtemohjodihcdfaaGreatDoor
open Go.RowKit Go.Lib Go.Joins

/-- A slice of attributes in memory, in blocks that S has. -/
def AttIn (w : World) (S : Nat → Prop) (v : Value) (l : List (List UInt8 × List UInt8)) : Prop :=
  ∃ a c, v = .slice a l.length c ∧ l.length ≤ c ∧ c ≤ maxLen ∧ (a = none → c = 0) ∧ (l = [] ∨ ∃ b o, a = some ⟨b, o, none⟩ ∧ S b ∧ ∀ (i : Nat) (x : List UInt8 × List UInt8), l[i]? = some x → w.cell? ⟨b, o + i * 2, none⟩ = some (.string (strB x.1)) ∧ w.cell? ⟨b, o + i * 2 + 1, none⟩ = some (.string (strB x.2)))
theorem strB_inj {a b : List UInt8} (h : strB a = strB b) : a = b := by
  have := congrArg (fun z : ByteArray => z.data.toList) h
  simpa [strB] using this
theorem bytes_ne {a b : ByteArray} (h : a ≠ b) : (a.toList == b.toList) = false := by
  rw [beq_eq_false_iff_ne, ByteArray.toList_eq, ByteArray.toList_eq]
  exact fun e => h (ByteArray.ext (Array.toList_inj.1 e))
set_option maxRecDepth 100000 in
set_option maxHeartbeats 2000000 in
theorem attrs9_calls {w : World} {S1 S2 : Nat → Prop} {v1 v2 : Value} {l1 l2 : List (List UInt8 × List UInt8)} (h1 : AttIn w S1 v1 l1) (h2 : AttIn w S2 v2 l2) : Calls Tryz.prog 43 #[v1, v2] w (Leaves (.bool (decide (l1 = l2))) w) := by
  obtain ⟨a1, c1, rfl, hc1, hm1, hn1, hr1⟩ := h1
  obtain ⟨a2, c2, rfl, hc2, hm2, hn2, hr2⟩ := h2
  obtain ⟨Q, hQ⟩ : ∃ Q, decide (l1 = l2) = Q := ⟨_, rfl⟩
  rw [hQ]
  obtain ⟨n1, hl1⟩ : ∃ n, l1.length = n := ⟨_, rfl⟩
  obtain ⟨n2, hl2⟩ : ∃ n, l2.length = n := ⟨_, rfl⟩
  rw [hl1, hl2]
  by_cases hne : n1 = n2
  · subst hne
    have HQ : Hid (Q = decide (l1.drop 0 = l2.drop 0)) := Lib.hid (by rw [List.drop_zero, List.drop_zero]; exact hQ.symm)
    have H1 := Lib.hid hr1
    have H2 := Lib.hid hr2
    have HL1 := Lib.hid hl1
    have HL2 := Lib.hid hl2
    have hne2 : ((n1 : Int) != (n1 : Int)) = false := by simp
    have HMX : Hid (n1 ≤ maxLen) := Lib.hid (by omega)
    clear hQ hr1 hr2 hl1 hl2 hc1 hc2 hm1 hm2 hn1 hn2
    go_enter Tryz.func43, Tryz.ntmps43
    go_wp2_with fail
    go_loopg [5] n1 (fun g s wr => ∃ i : Nat, s = .int .i64 (i : Int) ∧ g + i = n1 ∧ Q = decide (l1.drop i = l2.drop i) ∧ Below w.heap.size w wr)
    case atStart => exact ⟨0, rfl, rfl, HQ.out, Below.refl _ _⟩
    case round =>
      obtain ⟨i, rfl, hg, hq, hb⟩ := hrel
      have HQ2 := Lib.hid hq
      have HB := Lib.hid hb
      clear hq hb HQ
      cases gk with
      | zero =>
        obtain rfl : i = n1 := by omega
        have hge : ¬ ((i : Int) < (i : Int)) := by omega
        have HF : Hid (Q = true) := Lib.hid (by rw [HQ2.out, List.drop_eq_nil_of_le (by have := HL1.out; omega), List.drop_eq_nil_of_le (by have := HL2.out; omega)]; rfl)
        go_wp2_with fail
        go_ret
        exact ⟨by rw [HF.out]; rfl, HB.out⟩
      | succ g =>
        have hlt : (i : Int) < (n1 : Int) := by omega
        have hi0 : (0 : Int) ≤ (i : Int) := by omega
        obtain ⟨x1, hx1⟩ : ∃ x, l1[i]? = some x := ⟨_, List.getElem?_eq_getElem (by have := HL1.out; omega)⟩
        obtain ⟨x2, hx2⟩ : ∃ x, l2[i]? = some x := ⟨_, List.getElem?_eq_getElem (by have := HL2.out; omega)⟩
        have hd1 : l1.drop i = x1 :: l1.drop (i + 1) := by
          rw [List.drop_eq_getElem_cons (by have := HL1.out; omega)]
          rw [List.getElem?_eq_getElem (by have := HL1.out; omega)] at hx1
          rw [Option.some.inj hx1]
        have hd2 : l2.drop i = x2 :: l2.drop (i + 1) := by
          rw [List.drop_eq_getElem_cons (by have := HL2.out; omega)]
          rw [List.getElem?_eq_getElem (by have := HL2.out; omega)] at hx2
          rw [Option.some.inj hx2]
        rcases H1.out with h0 | ⟨b1, o1, rfl, _, hcell1⟩
        · rw [h0] at hx1; simp at hx1
        rcases H2.out with h0 | ⟨b2, o2, rfl, _, hcell2⟩
        · rw [h0] at hx2; simp at hx2
        obtain ⟨y1, y2⟩ := hcell1 i x1 hx1
        obtain ⟨z1, z2⟩ := hcell2 i x2 hx2
        replace y1 := (HB.out.cell (lt_of_cell y1)).trans y1
        replace y2 := (HB.out.cell (lt_of_cell y2)).trans y2
        replace z1 := (HB.out.cell (lt_of_cell z1)).trans z1
        replace z2 := (HB.out.cell (lt_of_cell z2)).trans z2
        obtain ⟨s1, hs1⟩ : ∃ s, strB x1.1 = s := ⟨_, rfl⟩
        obtain ⟨t1, ht1⟩ : ∃ s, strB x1.2 = s := ⟨_, rfl⟩
        obtain ⟨s2, hs2⟩ : ∃ s, strB x2.1 = s := ⟨_, rfl⟩
        obtain ⟨t2, ht2⟩ : ∃ s, strB x2.2 = s := ⟨_, rfl⟩
        rw [hs1] at y1
        rw [ht1] at y2
        rw [hs2] at z1
        rw [ht2] at z2
        clear hcell1 hcell2 hx1 hx2
        by_cases hs : s1 = s2
        · by_cases ht : t1 = t2
          · subst hs
            subst ht
            have hadd : IntKind.i64.wrap ((i : Int) + 1) = ((i + 1 : Nat) : Int) := IntWalk.i64_in _ (by have := HMX.out; unfold maxLen at this; omega)
            have HN : Hid (Q = decide (l1.drop (i + 1) = l2.drop (i + 1))) := Lib.hid (by
              have hx : x1 = x2 := Prod.ext (strB_inj (hs1.trans hs2.symm)) (strB_inj (ht1.trans ht2.symm))
              rw [HQ2.out, hd1, hd2, hx]
              simp only [List.cons.injEq, true_and])
            clear hs1 hs2 ht1 ht2 hd1 hd2 HQ2
            go_wp2_with fail
            go_quiet (fail)
            go_wp2_with fail
            go_roundg g
            case measure => omega
            case rel => exact ⟨i + 1, rfl, by omega, HN.out, below_drewNv HB.out _⟩
          · have HF : Hid (Q = false) := Lib.hid (by
              rw [HQ2.out, hd1, hd2, decide_eq_false_iff_not]
              intro h
              injection h with h _
              exact ht (by rw [← ht1, ← ht2, h]))
            have hte : (t1.toList == t2.toList) = false := bytes_ne ht
            subst hs
            clear hs1 hs2 ht1 ht2 hd1 hd2 HQ2 ht
            go_wp2_with fail
            go_quiet (fail)
            go_wp2_with fail
            go_ret
            exact ⟨by rw [HF.out]; rfl, below_drewNv HB.out _⟩
        · have HF : Hid (Q = false) := Lib.hid (by
            rw [HQ2.out, hd1, hd2, decide_eq_false_iff_not]
            intro h
            injection h with h _
            exact hs (by rw [← hs1, ← hs2, h]))
          have hse : (s1.toList == s2.toList) = false := bytes_ne hs
          clear hs1 hs2 ht1 ht2 hd1 hd2 HQ2 hs
          go_wp2_with fail
          go_quiet (fail)
          go_wp2_with fail
          go_ret
          exact ⟨by rw [HF.out]; rfl, below_drewNv HB.out _⟩
  · have HF : Hid (Q = false) := Lib.hid (by
      rw [← hQ, decide_eq_false_iff_not]
      intro h
      exact hne (by rw [← hl1, ← hl2, h]))
    have hne2 : ((n1 : Int) != (n2 : Int)) = true := by rw [bne_iff_ne]; omega
    clear hQ hr1 hr2 hl1 hl2 hc1 hc2 hm1 hm2 hn1 hn2 hne
    go_enter Tryz.func43, Tryz.ntmps43
    go_wp2_with fail
    go_ret
    exact ⟨by rw [HF.out]; rfl, Below.refl _ _⟩
end Go.Proofs.YtemohjodihcdfaaGreatDoor
namespace Go.Proofs.YtemohjodihcdfaaGreatDoor
open Go.RowKit Go.Lib Go.Joins

theorem cell_kept {w w' : World} {O : Nat → Prop} {b p : Nat} {v : Value} (h : w.cell? ⟨b, p, none⟩ = some v) (hk : Keeps O w w') (hb : ¬ O b) : w'.cell? ⟨b, p, none⟩ = some v :=
  (World.cell?_of_block (hk.block b (lt_of_cell h) hb)).trans h
theorem att_keep {w w' : World} {S O : Nat → Prop} {v : Value} {l : List (List UInt8 × List UInt8)} (h : AttIn w S v l) (hk : Keeps O w w') (hS : ∀ k, S k → ¬ O k) : AttIn w' S v l := by
  obtain ⟨a, c, h1, h2, h3, h4, h5⟩ := h
  refine ⟨a, c, h1, h2, h3, h4, ?_⟩
  rcases h5 with h5 | ⟨b, o, h6, h7, h8⟩
  · exact .inl h5
  · exact .inr ⟨b, o, h6, h7, fun i x hx => ⟨cell_kept (h8 i x hx).1 hk (hS b h7), cell_kept (h8 i x hx).2 hk (hS b h7)⟩⟩
theorem att_below {w w' : World} {S : Nat → Prop} {v : Value} {l : List (List UInt8 × List UInt8)} (h : AttIn w S v l) (hb : Below w.heap.size w w') : AttIn w' S v l := att_keep h (keeps_below hb Non) (fun _ _ h => h)
theorem att_more {w : World} {S S' : Nat → Prop} {v : Value} {l : List (List UInt8 × List UInt8)} (h : AttIn w S v l) (hS : ∀ k, S k → S' k) : AttIn w S' v l := by
  obtain ⟨a, c, h1, h2, h3, h4, h5⟩ := h
  refine ⟨a, c, h1, h2, h3, h4, ?_⟩
  rcases h5 with h5 | ⟨b, o, h6, h7, h8⟩
  · exact .inl h5
  · exact .inr ⟨b, o, h6, hS b h7, h8⟩
/-- Attributes of the call's own. -/
theorem OwnA.att {n0 : Nat} {w : World} {v : Value} {l : List (List UInt8 × List UInt8)} (h : OwnA n0 w v l) : AttIn w (fun k => v.ownBlock = some k) v l := by
  rcases h.row.2 with ⟨h1, h0⟩ | ⟨g, cap, cur, h1, hg, hgb, hcap, hcm, hcur, htk⟩
  · exact ⟨none, 0, by rw [h1, h0], by omega, Nat.zero_le _, fun _ => rfl, .inl (List.length_eq_zero_iff.1 h0)⟩
  · obtain ⟨aa, ac, hav, hc, hm, hcell⟩ := h.form
    rw [h1] at hav
    injection hav with e1 e2 e3
    refine ⟨aa, ac, by rw [h1, ← e1, ← e3], hc, hm, (fun e => by rw [e] at e1; cases e1), ?_⟩
    rcases hcell with h5 | ⟨b, h6, h7, h8⟩
    · exact .inl h5
    · exact .inr ⟨b, 0, h6, h7, fun i x hx => by rw [Nat.zero_add]; exact h8 i x hx⟩

/-- A token at a place. -/
def TkAt (w : World) (S : Nat → Prop) (b p : Nat) (tk : Tk) : Prop :=
  w.cell? ⟨b, p, none⟩ = some (.int .i64 (tk.kind : Int)) ∧ w.cell? ⟨b, p + 1, none⟩ = some (.int .i64 (tk.at_ : Int)) ∧ w.cell? ⟨b, p + 2, none⟩ = some (.string (strB tk.name)) ∧ w.cell? ⟨b, p + 3, none⟩ = some (.string (strB tk.text)) ∧ ∃ av, w.cell? ⟨b, p + 4, none⟩ = some av ∧ AttIn w S av tk.attrs
theorem TkAt.keep {w w' : World} {S O : Nat → Prop} {b p : Nat} {tk : Tk} (h : TkAt w S b p tk) (hk : Keeps O w w') (hb : ¬ O b) (hS : ∀ k, S k → ¬ O k) : TkAt w' S b p tk := by
  obtain ⟨h1, h2, h3, h4, av, h5, h6⟩ := h
  exact ⟨cell_kept h1 hk hb, cell_kept h2 hk hb, cell_kept h3 hk hb, cell_kept h4 hk hb, av, cell_kept h5 hk hb, att_keep h6 hk hS⟩
/-- Tokens in memory, in blocks that S has. -/
def TokRow (w : World) (S : Nat → Prop) (v : Value) (ts : List Tk) : Prop :=
  ∃ a c, v = .slice a ts.length c ∧ ts.length ≤ c ∧ c ≤ maxLen ∧ (ts = [] ∨ ∃ b o, a = some ⟨b, o, none⟩ ∧ S b ∧ ∀ (i : Nat) (tk : Tk), ts[i]? = some tk → TkAt w S b (o + i * 5) tk)
theorem TokRow.keep {w w' : World} {S O : Nat → Prop} {v : Value} {ts : List Tk} (h : TokRow w S v ts) (hk : Keeps O w w') (hS : ∀ k, S k → ¬ O k) : TokRow w' S v ts := by
  obtain ⟨a, c, h1, h2, h3, h4⟩ := h
  refine ⟨a, c, h1, h2, h3, ?_⟩
  rcases h4 with h4 | ⟨b, o, h5, h6, h7⟩
  · exact .inl h4
  · exact .inr ⟨b, o, h5, h6, fun i tk hi => (h7 i tk hi).keep hk (hS b h6) hS⟩
theorem TokRow.below {w w' : World} {S : Nat → Prop} {v : Value} {ts : List Tk} (h : TokRow w S v ts) (hb : Below w.heap.size w w') : TokRow w' S v ts := h.keep (keeps_below hb Non) (fun _ _ h => h)
theorem OwnT.trow {n0 : Nat} {w : World} {v : Value} {ps : List (Tk × Value)} (h : OwnT n0 w v ps) : TokRow w (fun k => n0 ≤ k ∧ k < w.heap.size) v (ps.map Prod.fst) := by
  rcases h.tokens with ⟨h1, h0⟩ | ⟨b, c, h1, h2, h3, h4, h5, h6⟩
  · rw [h0]
    exact ⟨none, 0, h1, Nat.le_refl _, Nat.zero_le _, .inl rfl⟩
  · refine ⟨some ⟨b, 0, none⟩, c, by rw [h1, List.length_map], by rw [List.length_map]; exact h2, h3, .inr ⟨b, 0, rfl, ⟨h5, h4⟩, fun i tk hi => ?_⟩⟩
    rw [List.getElem?_map] at hi
    obtain ⟨x, hx, rfl⟩ := Option.map_eq_some_iff.1 hi
    obtain ⟨y0, y1, y2, y3, y4⟩ := h6 i x hx
    rw [Nat.zero_add]
    have ha := h.atts x (List.mem_of_getElem? hx)
    exact ⟨y0, y1, y2, y3, x.2, y4, att_more ha.att (fun k e => ⟨ha.new k e, ha.lt k e⟩)⟩
set_option maxRecDepth 100000 in
set_option maxHeartbeats 4000000 in
theorem tokens_calls {w : World} {S1 S2 : Nat → Prop} {v1 v2 : Value} {ts : List Tk} (h1 : TokRow w S1 v1 ts) (h2 : TokRow w S2 v2 ts) : Calls Tryz.prog 15 #[v1, v2] w (Leaves (.bool true) w) := by
  obtain ⟨a1, c1, rfl, hc1, hm1, hr1⟩ := h1
  obtain ⟨a2, c2, rfl, hc2, hm2, hr2⟩ := h2
  obtain ⟨n, hn⟩ : ∃ n, ts.length = n := ⟨_, rfl⟩
  rw [hn] at hc1 hc2 ⊢
  have HN := Lib.hid hn
  have H1 := Lib.hid hr1
  have H2 := Lib.hid hr2
  have hne2 : ((n : Int) != (n : Int)) = false := by simp
  have HMX : Hid (n ≤ maxLen) := Lib.hid (by omega)
  clear hn hr1 hr2 hc1 hc2 hm1 hm2
  go_enter Tryz.func15, Tryz.ntmps15
  go_wp2_with fail
  go_loopg [5] n (fun g s wr => ∃ i : Nat, s = .int .i64 (i : Int) ∧ g + i = n ∧ Below w.heap.size w wr)
  case atStart => exact ⟨0, rfl, rfl, Below.refl _ _⟩
  case round =>
    obtain ⟨i, rfl, hg, hb⟩ := hrel
    have HB := Lib.hid hb
    clear hb
    cases gk with
    | zero =>
      obtain rfl : i = n := by omega
      have hge : ¬ ((i : Int) < (i : Int)) := by omega
      go_wp2_with fail
      go_ret
      exact ⟨rfl, HB.out⟩
    | succ g =>
      have hlt : (i : Int) < (n : Int) := by omega
      have hi0 : (0 : Int) ≤ (i : Int) := by omega
      have hadd : IntKind.i64.wrap ((i : Int) + 1) = ((i + 1 : Nat) : Int) := IntWalk.i64_in _ (by have := HMX.out; unfold maxLen at this; omega)
      obtain ⟨tk, htk⟩ : ∃ x, ts[i]? = some x := ⟨_, List.getElem?_eq_getElem (by have := HN.out; omega)⟩
      rcases H1.out with h0 | ⟨b1, o1, rfl, _, hcell1⟩
      · rw [h0] at htk; simp at htk
      rcases H2.out with h0 | ⟨b2, o2, rfl, _, hcell2⟩
      · rw [h0] at htk; simp at htk
      obtain ⟨y0, y1, y2, y3, av, y4, y5⟩ := (hcell1 i tk htk).keep (keeps_below HB.out Non) (fun h => h) (fun _ _ h => h)
      obtain ⟨z0, z1, z2, z3, zv, z4, z5⟩ := (hcell2 i tk htk).keep (keeps_below HB.out Non) (fun h => h) (fun _ _ h => h)
      obtain ⟨sn, hsn⟩ : ∃ s, strB tk.name = s := ⟨_, rfl⟩
      obtain ⟨st, hst⟩ : ∃ s, strB tk.text = s := ⟨_, rfl⟩
      rw [hsn] at y2 z2
      rw [hst] at y3 z3
      have q0 := fun dq os => cell_regrown y0 dq os
      have q1 := fun dq os => cell_regrown y1 dq os
      have q2 := fun dq os => cell_regrown y2 dq os
      have q3 := fun dq os => cell_regrown y3 dq os
      have q4 := fun dq os => cell_regrown y4 dq os
      have p0 := fun dq os => cell_regrown z0 dq os
      have p1 := fun dq os => cell_regrown z1 dq os
      have p2 := fun dq os => cell_regrown z2 dq os
      have p3 := fun dq os => cell_regrown z3 dq os
      have p4 := fun dq os => cell_regrown z4 dq os
      have cA := fun dq os => Calls.regrown_of (by
        have h := attrs9_calls (att_below y5 (below_regrown wr dq os)) (att_below z5 (below_regrown wr dq os))
        rw [decide_eq_true rfl] at h
        exact h)
      clear y0 y1 y2 y3 y4 y5 z0 z1 z2 z3 z4 z5 hcell1 hcell2 htk hsn hst
      go_wp2_with fail
      refine wp_region_quiet_below (by kernel_rfl) (by kernel_rfl) ?_
      repeat (go_big_quiet_step (with_reducible exact cA _ _))
      refine wpQuiet_nil ?_
      intro _ hw'
      obtain ⟨⟨dq, osq⟩, hw''⟩ := hw'
      subst hw''
      go_wp2_with fail
      go_roundg g
      case measure => omega
      case rel => exact ⟨i + 1, rfl, by omega, below_then HB.out (below_regrown _ _ _)⟩

end Go.Proofs.YtemohjodihcdfaaGreatDoor
