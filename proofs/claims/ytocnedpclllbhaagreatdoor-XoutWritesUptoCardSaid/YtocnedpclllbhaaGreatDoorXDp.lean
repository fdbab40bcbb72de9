/-
 xtree's Depth: how many elements of a tree are within one another. Condition: the tree lies in memory, and has no more than 2 to the 20 nodes.
-/
import Derived.Test.YtocnedpclllbhaaGreatDoorXEl
namespace Go.Proofs.YtocnedpclllbhaaGreatDoor
open Go.RowKit Go.Lib Go.Joins

/-- A slice of nodes, and what lies in it. -/
theorem kids_form {w : World} {v : Value} {rows : List Nr} {ks : List Tr} (h : RowIn w Any v rows) (hn : NodesIn w Any rows ks) : ∃ a c, v = .slice a ks.length c ∧ ks.length ≤ c ∧ c ≤ maxLen ∧ (ks = [] ∨ ∃ b o, a = some ⟨b, o, none⟩ ∧ PtrsIn w Any (kidPs b o ks.length) ks) := by
  obtain ⟨a, c, rfl, hc, hm, hz, hr⟩ := h
  refine ⟨a, c, by rw [hn.1], by rw [← hn.1]; exact hc, hm, ?_⟩
  rcases hr with h0 | ⟨b, o, rfl, hS, hcell⟩
  · subst h0
    exact .inl (List.length_eq_zero_iff.1 hn.1.symm)
  · exact .inr ⟨b, o, rfl, kidPs_in hS hn hcell⟩
theorem PRow.one {w : World} {p : Addr} : PRow (w.alloc (.cells #[.pointer (some p)] 49)) w.heap.size (.slice (some ⟨w.heap.size, 0, none⟩) 1 1) [p] :=
  ⟨⟨rfl, .inr ⟨w.heap.size, 1, #[.pointer (some p)], rfl, Nat.zero_le _, heap_alloc_new w _, Nat.le_refl _, by unfold maxLen; decide, rfl, rfl⟩⟩, fun k e => Nat.le_of_eq (Option.some.inj e)⟩
set_option maxRecDepth 100000 in
set_option maxHeartbeats 4000000 in
theorem count_calls {w : World} {r : Nr} {t : Tr} (h : NodeIn w Any r t) (hm : t.count ≤ 1000000) : Calls Tryz.prog 56 #[nodeV r] w (Leaves (.int .i64 (t.count : Int)) w) := by
  obtain ⟨T, hT⟩ : ∃ T, t.count = T := ⟨_, rfl⟩
  rw [hT]
  have HT := Lib.hid hT
  have HM : Hid (T ≤ 1000000) := Lib.hid (by omega)
  obtain ⟨k, n, x, av, kv⟩ := r
  obtain ⟨sn, hsn⟩ : ∃ s, strB n = s := ⟨_, rfl⟩
  obtain ⟨st, hst⟩ : ∃ s, strB x = s := ⟨_, rfl⟩
  obtain ⟨w0, hw0⟩ : ∃ W, w.alloc (.cells #[.int .i64 k, .string sn, .string st, av, kv] 25) = W := ⟨_, rfl⟩
  have hb0 : Below w.heap.size w w0 := by rw [← hw0]; exact (Below.refl _ _).alloc (Nat.le_refl _) _
  have hbk : w0.heap[w.heap.size]? = some (.cells #[.int .i64 k, .string sn, .string st, av, kv] 25 (0, 0)) := by rw [← hw0]; exact heap_alloc_new w _
  have hnr : NrIn w0 w.heap.size 0 ⟨k, n, x, av, kv⟩ := ⟨(cell_of_block hbk 0).trans rfl, (cell_of_block hbk 1).trans (by rw [← hsn]; rfl), (cell_of_block hbk 2).trans (by rw [← hst]; rfl), (cell_of_block hbk 3).trans rfl, (cell_of_block hbk 4).trans rfl⟩
  have HPT : Hid (PtrsIn w0 Any [⟨w.heap.size, 0, none⟩] [t]) := Lib.hid ⟨⟨_, _, _, rfl, trivial, hnr, h.keep (keeps_below hb0 Non) (fun _ _ h => h) (fun _ h => h)⟩, trivial⟩
  have HB0 := Lib.hid hb0
  have HW0 := Lib.hid hw0
  have HSZ : Hid (w0.heap.size = w.heap.size + 1) := Lib.hid (by rw [← hw0]; simp)
  unfold nodeV
  dsimp only
  rw [hsn, hst]
  clear h hm hT hbk hnr hsn hst hb0 hw0
  go_enter Tryz.func56, Tryz.ntmps56
  go_wp2_with fail
  rw [HW0.out]
  have HP0 := Lib.hid (PRow.one (w := w0) (p := ⟨w.heap.size, 0, none⟩))
  have HBA : Hid (Below w0.heap.size w0 (w0.alloc (.cells #[.pointer (some ⟨w.heap.size, 0, none⟩)] 49))) := Lib.hid ((Below.refl _ _).alloc (Nat.le_refl _) _)
  go_loopg [3, 4] T (fun g0 s3 s4 wr => ∃ (c : Nat) (ps : List Addr) (ts : List Tr), s3 = .int .i64 (c : Int) ∧ c + g0 = T ∧ cntL ts = g0 ∧ PRow wr w0.heap.size s4 ps ∧ PtrsIn w0 Any ps ts ∧ Below w0.heap.size w0 wr)
  case atStart => exact ⟨0, _, _, rfl, by omega, by rw [cntL_one, HT.out], (by rw [← HSZ.out]; exact HP0.out), HPT.out, HBA.out⟩
  case round =>
    obtain ⟨c, ps, ts, rfl, hcg, hcnt, hp, hpt, hb⟩ := hrel
    have HP := Lib.hid hp
    have HB := Lib.hid hb
    have HPS := Lib.hid hpt
    have HCG := Lib.hid hcg
    have HCN := Lib.hid hcnt
    clear hp hb hpt hcg hcnt
    by_cases hps : ps = []
    · subst hps
      have hts : ts = [] := List.length_eq_zero_iff.1 HPS.out.len.symm
      have HF : Hid (c = T) := Lib.hid (by
        have h1 := HCN.out
        rw [hts, cntL] at h1
        have := HCG.out
        omega)
      obtain ⟨a, cc, rfl⟩ := HP.out.form0
      clear hts
      go_wp2_with fail
      go_ret
      exact ⟨by rw [HF.out]; rfl, HB0.out.trans (HB.out.mono HB0.out.size)⟩
    · obtain ⟨ps', p, ts', t', e1, e2, hpt2, hp2⟩ := HPS.out.last hps
      subst e1
      subst e2
      obtain ⟨g, cc, hv, hcc, hcm, hgl, hgn, hcell0⟩ := HP.out.formN hps
      rw [List.length_append] at hv hcc
      have hcell := hcell0 ps'.length p (by simp)
      clear hcell0
      subst hv
      obtain ⟨l, hl⟩ : ∃ l, ps'.length = l := ⟨_, rfl⟩
      have HP2 : Hid (PRow wr w0.heap.size (.slice (some ⟨g, 0, none⟩) l cc) ps') := Lib.hid ⟨by
        have h1 := HP.out.row
        rw [List.length_append] at h1
        have h2 := ptr_drop h1
        rw [hl] at h2 ⊢
        exact h2, HP.out.new⟩
      rw [hl] at hcell hcc ⊢
      have hc1 := HCN.out
      rw [cntL_app, cntL_one] at hc1
      obtain ⟨b, o, r2, rfl, _, hnr, hnd⟩ := hp2
      obtain ⟨y0, y1, y2, y3, y4⟩ := hnr.keep (keeps_below HB.out Non) (fun h => h)
      obtain ⟨_, _, _, ⟨xa, xc, hxa, _⟩, rows, hri, hni⟩ := hnd.kids
      obtain ⟨ka, kc, hkv, hkc, hkm, hkp⟩ := kids_form hri hni
      have hkl : t'.kids.length ≤ cntL t'.kids := cntL_len _
      have hcl := cntL_len (ts' ++ [t'])
      rw [HCN.out] at hcl
      have hpl : l + 1 = (ts' ++ [t']).length := by
        have h1 := HPS.out.len
        rw [List.length_append, hl] at h1
        exact h1
      have hcnt2 : t'.count = 1 + t'.attrs.length + cntL t'.kids := by
        obtain ⟨q0, q1, q2, q3, q4⟩ := t'
        exact count_mk ..
      obtain ⟨q0, na, hna, q1, nk, hnk⟩ : ∃ _ na, t'.attrs.length = na ∧ ∃ _ nk, t'.kids.length = nk := ⟨trivial, _, rfl, trivial, _, rfl⟩
      rw [hna] at hxa hcnt2
      rw [hnk] at hkv hkl
      rw [hxa] at y3
      rw [hkv] at y4
      obtain ⟨b2, o2, hk1, hk2⟩ : ∃ b2 o2, (nk = 0 ∨ ka = some ⟨b2, o2, none⟩) ∧ PtrsIn w0 Any (kidPs b2 o2 nk) t'.kids := by
        rcases hkp with h0 | ⟨b2, o2, h1, h2⟩
        · exact ⟨0, 0, .inl (by rw [← hnk, h0]; rfl), by rw [h0] at hnk ⊢; rw [← hnk]; exact trivial⟩
        · exact ⟨b2, o2, .inr h1, by rw [← hnk]; exact h2⟩
      have HNR : Hid (NrIn w0 b o r2) := Lib.hid hnr
      have HKV := Lib.hid hkv
      have HK1 := Lib.hid hk1
      have HK2 := Lib.hid hk2
      have HPT2 := Lib.hid hpt2
      have HBD : Hid (c + (1 + na) ≤ 1000000 ∧ nk ≤ 1000000 ∧ (l ≤ 1000000 ∧ ps'.length ≤ 1000000) ∧ c + (1 + na) ≤ T ∧ cntL (ts' ++ t'.kids) = T - (c + (1 + na))) := Lib.hid (by
        have h1 := HCG.out
        have h2 := HM.out
        have h3 : cntL (ts' ++ t'.kids) = cntL ts' + cntL t'.kids := cntL_app ..
        omega)
      have hgt : (0 : Int) < (l : Int) + 1 := by omega
      have hsub : IntKind.i64.wrap (l : Int) = (l : Int) := IntWalk.i64_in _ (by have := HBD.out; omega)
      have hl0 : (0 : Int) ≤ (l : Int) := by omega
      have hll : (l : Int) < (l : Int) + 1 := by omega
      have hlc : (l : Int) ≤ (cc : Int) := by omega
      have hadd1 : IntKind.i64.wrap (1 + (na : Int)) = 1 + (na : Int) := IntWalk.i64_in _ (by have := HBD.out; omega)
      have hadd2 : IntKind.i64.wrap ((c : Int) + (1 + (na : Int))) = (c : Int) + (1 + (na : Int)) := IntWalk.i64_in _ (by have := HBD.out; omega)
      clear hnr hnd hri hni hkc hkm hkp hkl hpl hcl hcnt2 hpt2 hk1 hk2 hc1 hcm hgl hgn hps hna hnk hxa hkv hl q0 q1
      go_wp2_with fail
      go_loopg [4, 35] nk (fun g2 s4 s35 wz => ∃ i : Nat, i + g2 = nk ∧ s35 = .int .i64 (i : Int) ∧ PRow wz w0.heap.size s4 (ps' ++ kidPs b2 o2 i) ∧ Below w0.heap.size w0 wz)
      case atStart => exact ⟨0, by omega, rfl, by rw [kidPs, List.append_nil]; exact HP2.out, HB.out⟩
      case round =>
        obtain ⟨i, hig, rfl, hq, hbz⟩ := hrel
        have HQ := Lib.hid hq
        have HBZ := Lib.hid hbz
        clear hq hbz
        cases gk with
        | zero =>
          obtain rfl : i = nk := by omega
          have hge : ¬ ((i : Int) < (i : Int)) := by omega
          go_wp2_with fail
          go_roundg (T - (c + (1 + na)))
          case measure => have h1 := HBD.out; have h2 := HCG.out; omega
          case rel => exact ⟨c + (1 + na), _, ts' ++ t'.kids, congrArg (Value.int .i64) (by omega), by have h1 := HBD.out; omega, HBD.out.2.2.2.2, HQ.out, HPT2.out.app HK2.out, HBZ.out⟩
        | succ g2 =>
          have hlt : (i : Int) < (nk : Int) := by omega
          have hi0 : (0 : Int) ≤ (i : Int) := by omega
          have hadd : IntKind.i64.wrap ((i : Int) + 1) = ((i + 1 : Nat) : Int) := IntWalk.i64_in _ (by have := HBD.out; omega)
          obtain rfl : ka = some ⟨b2, o2, none⟩ := by
            rcases HK1.out with h1 | h1
            · omega
            · exact h1
          obtain ⟨_, _, _, _, y4⟩ := HNR.out.keep (keeps_below HBZ.out Non) (fun h => h)
          rw [HKV.out] at y4
          obtain ⟨x1, hx1⟩ : ∃ W, wr.alloc (.cells #[.pointer (some ⟨b2, o2 + i * 5, none⟩)] 49) = W := ⟨_, rfl⟩
          have hb1 : Below wr.heap.size wr x1 := by rw [← hx1]; exact (Below.refl _ _).alloc (Nat.le_refl _) _
          have hp1 : x1.heap[wr.heap.size]? = some (.cells #[.pointer (some ⟨b2, o2 + i * 5, none⟩)] 49 (0, 0)) := by rw [← hx1]; exact heap_alloc_new wr _
          have hkl : (kidPs b2 o2 i).length = i := kidPs_len _ _ _
          obtain ⟨v3, x2, hrun, hp3, hk3⟩ := (HQ.out.below hb1).append (Nat.le_trans HBZ.out.size hb1.size) (b := ⟨wr.heap.size, 0, none⟩) (c := 1) (qs := [⟨b2, o2 + i * 5, none⟩]) (fun j q hj => by
            match j, hj with
            | 0, hj =>
              rw [Addr.add_mid, cell_of_block hp1 0, ← Option.some.inj hj]
              rfl
            | j + 1, hj => simp at hj) (by rw [List.length_append, hkl]; have := HBD.out; show _ + 1 ≤ _; omega)
          have HRUN := Lib.hid hrun
          have HP3 : Hid (PRow x2 w0.heap.size v3 (ps' ++ kidPs b2 o2 (i + 1))) := Lib.hid (by rw [kidPs_snoc, ← List.append_assoc]; exact hp3)
          have HB3 := Lib.hid ((HBZ.out.trans (hb1.mono HBZ.out.size)).trans (hk3.toBelow (Nat.le_trans HBZ.out.size hb1.size) (fun k e => HQ.out.new k e)))
          clear hb1 hp1 hrun hp3 hk3 hkl
          go_wp2_with (at_builtin; (try rw [hx1]); refine wpList_step (fun K hK => step_append rfl (.tmp 38) (.tmp 45) _ _ rfl _ _ _ rfl rfl HRUN.out (hK _ _ ?_)))
          go_roundg g2
          case measure => omega
          case rel => exact ⟨i + 1, by omega, rfl, HP3.out, HB3.out⟩


theorem elemL_one {t : Tr} : depL (elemL [t]) = t.depth := by rw [depL_elem, depL_one]
theorem nextL_take {l : List Tr} {i : Nat} {t : Tr} (h : l[i]? = some t) : nextL (l.take (i + 1)) = nextL (l.take i) ++ elemL t.kids := by
  rw [List.take_add_one, h]
  show nextL (l.take i ++ [t]) = _
  rw [nextL_app]
  show nextL (l.take i) ++ (elemL t.kids ++ nextL []) = _
  rw [nextL, List.append_nil]
theorem nextL_le {l : List Tr} (i : Nat) : (nextL (l.take i)).length ≤ cntL l := by
  have h1 := nextL_cnt (l.take i)
  have h2 := cntL_len (nextL (l.take i))
  have h3 := cntL_app (l.take i) (l.drop i)
  rw [List.take_append_drop] at h3
  omega
set_option maxRecDepth 100000 in
set_option maxHeartbeats 4000000 in
theorem depth_calls {w : World} {r : Nr} {t : Tr} (h : NodeIn w Any r t) (hm : t.count ≤ 1000000) : Calls Tryz.prog 57 #[nodeV r] w (Leaves (.int .i64 (t.depth : Int)) w) := by
  obtain ⟨T, hT⟩ : ∃ T, t.depth = T := ⟨_, rfl⟩
  rw [hT]
  have HT := Lib.hid hT
  have HM := Lib.hid hm
  obtain ⟨hz1, hz2, hz3, ⟨xa, xc, hxa, _⟩, rows0, ⟨ya, yc, hya, _⟩, _⟩ := h.kids
  clear hz1 hz2 hz3
  obtain ⟨k, n, x, av, kv⟩ := r
  dsimp only at hxa hya
  obtain ⟨xn, hxn⟩ : ∃ z, t.attrs.length = z := ⟨_, rfl⟩
  obtain ⟨yn, hyn⟩ : ∃ z, rows0.length = z := ⟨_, rfl⟩
  rw [hxn] at hxa
  rw [hyn] at hya
  subst hxa
  subst hya
  obtain ⟨sn, hsn⟩ : ∃ s, strB n = s := ⟨_, rfl⟩
  obtain ⟨st, hst⟩ : ∃ s, strB x = s := ⟨_, rfl⟩
  obtain ⟨w0, hw0⟩ : ∃ W, w.alloc (.cells #[.int .i64 k, .string sn, .string st, .slice xa xn xc, .slice ya yn yc] 25) = W := ⟨_, rfl⟩
  have hb0 : Below w.heap.size w w0 := by rw [← hw0]; exact (Below.refl _ _).alloc (Nat.le_refl _) _
  obtain ⟨w1, hw1⟩ : ∃ W, w0.alloc (.cells #[.int .i64 k, .string sn, .string st, .slice xa xn xc, .slice ya yn yc] 25) = W := ⟨_, rfl⟩
  have hb1 : Below w0.heap.size w0 w1 := by rw [← hw1]; exact (Below.refl _ _).alloc (Nat.le_refl _) _
  have hbk : w1.heap[w0.heap.size]? = some (.cells #[.int .i64 k, .string sn, .string st, .slice xa xn xc, .slice ya yn yc] 25 (0, 0)) := by rw [← hw1]; exact heap_alloc_new w0 _
  have hnr : NrIn w1 w0.heap.size 0 ⟨k, n, x, .slice xa xn xc, .slice ya yn yc⟩ := ⟨(cell_of_block hbk 0).trans rfl, (cell_of_block hbk 1).trans (by rw [← hsn]; rfl), (cell_of_block hbk 2).trans (by rw [← hst]; rfl), (cell_of_block hbk 3).trans rfl, (cell_of_block hbk 4).trans rfl⟩
  have hnd : NodeIn w1 Any ⟨k, n, x, .slice xa xn xc, .slice ya yn yc⟩ t := h.keep (keeps_below (below_then hb0 hb1) Non) (fun _ _ h => h) (fun _ h => h)
  have HEL := Lib.hid (elements_any (w0 := w1) (Below.refl _ _) (v := .slice (some ⟨w0.heap.size, 0, none⟩) 1 1) (rows := [⟨k, n, x, .slice xa xn xc, .slice ya yn yc⟩]) (ks := [t]) ⟨some ⟨w0.heap.size, 0, none⟩, 1, rfl, Nat.le_refl _, by unfold maxLen; decide, fun h => (by cases h), .inr ⟨_, 0, rfl, trivial, fun i y hy => by
    match i, hy with
    | 0, hy => rw [← Option.some.inj hy]; exact hnr
    | i + 1, hy => simp at hy⟩⟩ ⟨rfl, fun i y z hy hz => by
    match i, hy, hz with
    | 0, hy, hz => rw [← Option.some.inj hy, ← Option.some.inj hz]; exact hnd
    | i + 1, hy, hz => simp at hy⟩ (by show 1 ≤ 1000000; omega))
  have HW0 := Lib.hid hw0
  have HW1 := Lib.hid hw1
  have HSZ : Hid (w0.heap.size = w.heap.size + 1) := Lib.hid (by rw [← hw0]; simp)
  rw [HSZ.out] at HEL
  have HBW := Lib.hid (below_then hb0 hb1)
  have HR0 := Lib.hid ((cell_of_block (show w0.heap[w.heap.size]? = some (.cells #[.int .i64 k, .string sn, .string st, .slice xa xn xc, .slice ya yn yc] 25 (0, 0)) by rw [← hw0]; exact heap_alloc_new w _)))
  unfold nodeV
  dsimp only
  rw [hsn, hst]
  clear h hm hT hbk hnr hnd hsn hst hb0 hb1 hw0 hw1 hxn hyn
  go_enter Tryz.func57, Tryz.ntmps57
  go_wp2_with fail
  rw [HW0.out, HW1.out]
  with_reducible refine HEL.out.mono ?_
  rintro e w2 ⟨ps0, hps0, v0, rfl, hpr0, hb2⟩
  have HPS0 := Lib.hid hps0
  have HPR0 := Lib.hid hpr0
  have HB2 := Lib.hid hb2
  clear hps0 hpr0 hb2 HEL
  go_wp2_with fail
  go_loopg [3, 4] T (fun g0 s3 s4 wr => ∃ (d : Nat) (ps : List Addr) (ts : List Tr), s3 = .int .i64 (d : Int) ∧ d + g0 = T ∧ depL ts = g0 ∧ (∀ t ∈ ts, t.kind = 1) ∧ cntL ts ≤ 1000000 ∧ PRow wr w1.heap.size s4 ps ∧ PtrsIn w1 Any ps ts ∧ Below w1.heap.size w1 wr)
  case atStart => exact ⟨0, _, _, rfl, by omega, by rw [elemL_one, HT.out], fun t ht => elemL_kind ht, Nat.le_trans (cntL_elem _) (by rw [cntL_one]; exact HM.out), HPR0.out, HPS0.out, HB2.out⟩
  case round =>
    obtain ⟨d, ps, ts, rfl, hdg, hdep, hkd, hcn, hp, hpt, hb⟩ := hrel
    have HP := Lib.hid hp
    have HB := Lib.hid hb
    have HPS := Lib.hid hpt
    have HDG := Lib.hid hdg
    have HDE := Lib.hid hdep
    have HKD := Lib.hid hkd
    have HCN := Lib.hid hcn
    clear hp hb hpt hdg hdep hkd hcn
    by_cases hps : ps = []
    · subst hps
      have hts : ts = [] := List.length_eq_zero_iff.1 HPS.out.len.symm
      have HF : Hid (d = T) := Lib.hid (by
        have h1 := HDE.out
        rw [hts, depL] at h1
        have := HDG.out
        omega)
      obtain ⟨a, cc, rfl⟩ := HP.out.form0
      clear hts
      go_wp2_with fail
      go_ret
      exact ⟨by rw [HF.out]; rfl, HBW.out.trans (HB.out.mono HBW.out.size)⟩
    · obtain ⟨g, cc, hv, hcc, hcm, hgl, hgn, hcell⟩ := HP.out.formN hps
      subst hv
      obtain ⟨l, hl⟩ : ∃ l, ps.length = l := ⟨_, rfl⟩
      have hl0 : l ≠ 0 := fun h => hps (List.length_eq_zero_iff.1 (hl.trans h))
      rw [hl] at hcc ⊢
      have HL := Lib.hid hl
      have hlt := HPS.out.len
      have HLT : Hid (ts.length = l) := Lib.hid (by rw [← hlt, hl])
      have HLM : Hid (l ≤ 1000000) := Lib.hid (by
        have h1 := cntL_len ts
        have h2 := HCN.out
        have h3 := HLT.out
        omega)
      have HG0 : Hid (d + 1 ≤ T ∧ depL (nextL ts) = T - (d + 1) ∧ d ≤ 1000000) := Lib.hid (by
        have h1 := nextL_dep HKD.out (fun h => hl0 (by rw [← HLT.out, h]; rfl))
        have h2 := HDE.out
        have h3 := HDG.out
        have h4 := depth_le_count t
        have h5 := HM.out
        have h6 := HT.out
        omega)
      have hgt : 0 < l := by omega
      have hgd : decide (0 < l) = true := decide_eq_true hgt
      have HCELL := Lib.hid hcell
      clear hcell hl hlt hl0 hps hcc hcm hgl hgn
      go_wp2_with fail
      go_loopg [5, 18] l (fun g2 s5 s18 wz => ∃ (i : Nat) (qs : List Addr), i + g2 = l ∧ s18 = .int .i64 (i : Int) ∧ PRow wz wr.heap.size s5 qs ∧ PtrsIn w1 Any qs (nextL (ts.take i)) ∧ Below wr.heap.size wr wz)
      case atStart => exact ⟨0, [], by omega, rfl, PRow.nil _ _, trivial, Below.refl _ _⟩
      case round =>
        obtain ⟨i, qs, hig, rfl, hq, hqt, hbz⟩ := hrel
        have HQ := Lib.hid hq
        have HQT := Lib.hid hqt
        have HBZ := Lib.hid hbz
        clear hq hqt hbz
        cases gk with
        | zero =>
          obtain rfl : i = l := by omega
          have hge : ¬ ((i : Int) < (i : Int)) := by omega
          have hadd : IntKind.i64.wrap ((d : Int) + 1) = ((d + 1 : Nat) : Int) := IntWalk.i64_in _ (by have := HG0.out; omega)
          rw [List.take_of_length_le (by have := HLT.out; omega)] at HQT
          go_wp2_with fail
          go_roundg (T - (d + 1))
          case measure => have h1 := HG0.out; have h2 := HDG.out; omega
          case rel => exact ⟨d + 1, qs, nextL ts, rfl, by have h1 := HG0.out; have h2 := HDG.out; omega, HG0.out.2.1, fun t ht => nextL_kind ht, by have h1 := nextL_cnt ts; have h2 := HCN.out; omega, HQ.out.mono HB.out.size, HQT.out, HB.out.trans (HBZ.out.mono HB.out.size)⟩
        | succ g2 =>
          have hlt : (i : Int) < (l : Int) := by omega
          have hi0 : (0 : Int) ≤ (i : Int) := by omega
          have hadd : IntKind.i64.wrap ((i : Int) + 1) = ((i + 1 : Nat) : Int) := IntWalk.i64_in _ (by have := HLM.out; omega)
          obtain ⟨p, hp⟩ : ∃ p, ps[i]? = some p := ⟨_, List.getElem?_eq_getElem (by have := HL.out; omega)⟩
          obtain ⟨t2, ht2, b3, o3, r2, rfl, _, hnr2, hnd2⟩ := HPS.out.at hp
          have hc5 := cell_keep (HCELL.out i _ hp) (keeps_below HBZ.out Non) (fun h => h)
          have hbz1 := HB.out.trans (HBZ.out.mono HB.out.size)
          obtain ⟨y0, y1, y2, y3, y4⟩ := hnr2.keep (keeps_below hbz1 Non) (fun h => h)
          obtain ⟨_, _, _, _, rows2, hri2, hni2⟩ := hnd2.kids
          have HE2 := Lib.hid (elements_any hbz1 hri2 hni2 (Nat.le_trans (cntL_len _) (by
            have h1 := cnt_in ht2
            have h2 := HCN.out
            have h3 := kids_cnt t2
            omega)))
          obtain ⟨k2, n2, x2, av2, kv2⟩ := r2
          dsimp only at y4 HE2
          have HNX := Lib.hid (nextL_take ht2)
          have HNL := Lib.hid (nextL_le (l := ts) (i + 1))
          have HBZ1 := Lib.hid hbz1
          clear hp ht2 hnr2 hnd2 hbz1 hri2 hni2
          go_wp2_with fail
          with_reducible refine HE2.out.mono ?_
          rintro e w4 ⟨ps4, hps4, v4, rfl, hpr4, hb4⟩
          have HBZ4 := Lib.hid (HBZ.out.trans (hb4.mono HBZ.out.size))
          have HQ4 := Lib.hid (HQ.out.below hb4)
          have HQT4 : Hid (PtrsIn w1 Any (qs ++ ps4) (nextL (ts.take (i + 1)))) := Lib.hid (by rw [HNX.out]; exact HQT.out.app hps4)
          have HLL : Hid (qs.length + ps4.length ≤ 1000000) := Lib.hid (by
            have h1 := HQT4.out.len
            rw [List.length_append] at h1
            have h2 := HNL.out
            have h3 := HCN.out
            omega)
          rcases hpr4.form with ⟨rfl, h0⟩ | ⟨g4, c4, hv4, _, _, _, _, hcell4⟩
          · subst h0
            rw [List.append_nil] at HQT4
            have HRUN := Lib.hid HQ4.out.append_nil
            clear hps4 hpr4 hb4 HE2
            go_wp2_with (at_builtin; refine wpList_step (fun K hK => step_append rfl (.tmp 22) (.tmp 27) _ _ rfl _ _ _ rfl rfl HRUN.out (hK _ _ ?_)))
            go_roundg g2
            case measure => omega
            case rel => exact ⟨i + 1, qs, by omega, rfl, HQ4.out, HQT4.out, HBZ4.out⟩
          · subst hv4
            obtain ⟨v5, w5, hrun, hp5, hk5⟩ := HQ4.out.append HBZ4.out.size (b := ⟨g4, 0, none⟩) (c := c4) (qs := ps4) (fun j q hj => by
              rw [Addr.add_mid, Nat.zero_add]
              exact hcell4 j q hj) (by have := HLL.out; omega)
            have HRUN := Lib.hid hrun
            have HP5 := Lib.hid hp5
            have HB5 := Lib.hid (HBZ4.out.trans (hk5.toBelow HBZ4.out.size (fun k e => HQ4.out.new k e)))
            clear hps4 hpr4 hb4 HE2 hcell4 hrun hp5 hk5
            go_wp2_with (at_builtin; refine wpList_step (fun K hK => step_append rfl (.tmp 22) (.tmp 27) _ _ rfl _ _ _ rfl rfl HRUN.out (hK _ _ ?_)))
            go_roundg g2
            case measure => omega
            case rel => exact ⟨i + 1, _, by omega, rfl, HP5.out, HQT4.out, HB5.out⟩

end Go.Proofs.YtocnedpclllbhaaGreatDoor
