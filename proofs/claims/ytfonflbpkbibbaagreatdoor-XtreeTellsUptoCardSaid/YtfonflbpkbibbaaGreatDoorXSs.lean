/-
  xtree's Same. Condition: small trees.
-/
import Derived.Test.YtfonflbpkbibbaaGreatDoorXSq
namespace Go.Proofs.YtfonflbpkbibbaaGreatDoor
open Go.RowKit Go.Lib Go.Joins
open List (getElem_toArray getElem_cons_succ getElem_cons_zero setIfInBounds_toArray set_cons_zero set_cons_succ)

set_option maxRecDepth 100000 in
set_option maxHeartbeats 16000000 in
theorem same_calls {w : World} {r1 r2 : Nr} {t u : Tr} (h1 : NodeIn w Any r1 t) (h2 : NodeIn w Any r2 u) (hm : t.count ≤ 1000000) : Calls Tryz.prog 20 #[nodeV r1, nodeV r2] w (Leaves (.bool (t.eqB u)) w) := by
  obtain ⟨Q, hQ⟩ : ∃ Q, t.eqB u = Q := ⟨_, rfl⟩
  rw [hQ]
  have HQ : Hid (eqL [t] [u] = Q) := Lib.hid (by rw [eqL, eqL, Bool.and_true, hQ])
  have HM : Hid (cntL [t] ≤ 1000000) := Lib.hid (by rw [cntL_one]; exact hm)
  obtain ⟨k, n, x, av, kv⟩ := r1
  obtain ⟨k2, n2, x2, av2, kv2⟩ := r2
  obtain ⟨sn, hsn⟩ : ∃ s, strB n = s := ⟨_, rfl⟩
  obtain ⟨st, hst⟩ : ∃ s, strB x = s := ⟨_, rfl⟩
  obtain ⟨sn2, hsn2⟩ : ∃ s, strB n2 = s := ⟨_, rfl⟩
  obtain ⟨st2, hst2⟩ : ∃ s, strB x2 = s := ⟨_, rfl⟩
  obtain ⟨wa, hwa⟩ : ∃ W, w.alloc (.cells #[.int .i64 k, .string sn, .string st, av, kv] 27) = W := ⟨_, rfl⟩
  have hba : Below w.heap.size w wa := by rw [← hwa]; exact (Below.refl _ _).alloc (Nat.le_refl _) _
  have hka : wa.heap[w.heap.size]? = some (.cells #[.int .i64 k, .string sn, .string st, av, kv] 27 (0, 0)) := by rw [← hwa]; exact heap_alloc_new w _
  have hsz : wa.heap.size = w.heap.size + 1 := by rw [← hwa]; simp
  obtain ⟨w0, hw0⟩ : ∃ W, wa.alloc (.cells #[.int .i64 k2, .string sn2, .string st2, av2, kv2] 27) = W := ⟨_, rfl⟩
  have hb0 : Below wa.heap.size wa w0 := by rw [← hw0]; exact (Below.refl _ _).alloc (Nat.le_refl _) _
  have hkb : w0.heap[w.heap.size + 1]? = some (.cells #[.int .i64 k2, .string sn2, .string st2, av2, kv2] 27 (0, 0)) := by rw [← hsz, ← hw0]; exact heap_alloc_new wa _
  have hka0 := block_keep hka (keeps_below hb0 Non) (fun h => h)
  have hsz2 : w0.heap.size = w.heap.size + 2 := by rw [← hw0]; simp [hsz]
  have hbw := below_then hba hb0
  have hn1 : NrIn w0 w.heap.size 0 ⟨k, n, x, av, kv⟩ := ⟨(cell_of_block hka0 0).trans rfl, (cell_of_block hka0 1).trans (by rw [← hsn]; rfl), (cell_of_block hka0 2).trans (by rw [← hst]; rfl), (cell_of_block hka0 3).trans rfl, (cell_of_block hka0 4).trans rfl⟩
  have hn2 : NrIn w0 (w.heap.size + 1) 0 ⟨k2, n2, x2, av2, kv2⟩ := ⟨(cell_of_block hkb 0).trans rfl, (cell_of_block hkb 1).trans (by rw [← hsn2]; rfl), (cell_of_block hkb 2).trans (by rw [← hst2]; rfl), (cell_of_block hkb 3).trans rfl, (cell_of_block hkb 4).trans rfl⟩
  have HP1 : Hid (PtrsIn w0 Any [⟨w.heap.size, 0, none⟩] [t]) := Lib.hid ⟨⟨_, _, _, rfl, trivial, hn1, h1.keep (keeps_below hbw Non) (fun _ _ h => h) (fun _ h => h)⟩, trivial⟩
  have HP2 : Hid (PtrsIn w0 Any [⟨w.heap.size + 1, 0, none⟩] [u]) := Lib.hid ⟨⟨_, _, _, rfl, trivial, hn2, h2.keep (keeps_below hbw Non) (fun _ _ h => h) (fun _ h => h)⟩, trivial⟩
  have HB0 := Lib.hid hbw
  have HWA := Lib.hid hwa
  have HW0 := Lib.hid hw0
  have HSZ := Lib.hid hsz2
  unfold nodeV
  dsimp only
  rw [hsn, hst, hsn2, hst2]
  clear h1 h2 hm hQ hsn hst hsn2 hst2 hba hka hsz hb0 hkb hka0 hsz2 hbw hn1 hn2 hwa hw0
  go_enter Tryz.func20, Tryz.ntmps20
  go_wp2_with fail
  rw [HWA.out, HW0.out]
  have HR0 := Lib.hid (QRow.one (w := w0) (p := ⟨w.heap.size, 0, none⟩) (q := ⟨w.heap.size + 1, 0, none⟩))
  have HBA : Hid (Below w0.heap.size w0 (w0.alloc (.cells #[.pointer (some ⟨w.heap.size, 0, none⟩), .pointer (some ⟨w.heap.size + 1, 0, none⟩)] 75))) := Lib.hid ((Below.refl _ _).alloc (Nat.le_refl _) _)
  go_loopg [5] (cntL [t]) (fun g s5 wr => ∃ (ps qs : List Addr) (ts us : List Tr), QRow wr w0.heap.size s5 ps qs ∧ PtrsIn w0 Any ps ts ∧ PtrsIn w0 Any qs us ∧ eqL ts us = Q ∧ cntL ts = g ∧ g ≤ 1000000 ∧ Below w0.heap.size w0 wr)
  case atStart => exact ⟨_, _, _, _, (by rw [← HSZ.out]; exact HR0.out), HP1.out, HP2.out, HQ.out, rfl, HM.out, HBA.out⟩
  case round =>
    obtain ⟨ps, qs, ts, us, hr, hp1, hp2, heq, hcn, hgm, hb⟩ := hrel
    have HR := Lib.hid hr
    have HT1 := Lib.hid hp1
    have HT2 := Lib.hid hp2
    have HEQ := Lib.hid heq
    have HCN := Lib.hid hcn
    have HGM := Lib.hid hgm
    have HB := Lib.hid hb
    clear hr hp1 hp2 heq hcn hgm hb
    by_cases hps : ps = []
    · subst hps
      have hqs : qs = [] := List.length_eq_zero_iff.1 HR.out.len.symm
      subst hqs
      have hts : ts = [] := List.length_eq_zero_iff.1 HT1.out.len.symm
      have hus : us = [] := List.length_eq_zero_iff.1 HT2.out.len.symm
      have HF : Hid (Q = true) := Lib.hid (by rw [← HEQ.out, hts, hus, eqL])
      obtain ⟨a, cc, rfl⟩ := HR.out.form0
      clear hts hus
      go_wp2_with fail
      go_ret
      exact ⟨by rw [HF.out]; rfl, HB0.out.trans (HB.out.mono HB0.out.size)⟩
    · obtain ⟨ps', p, ts', t', e1, e2, hpt1, hp1⟩ := HT1.out.last hps
      have hqs : qs ≠ [] := fun h => hps (List.length_eq_zero_iff.1 (by rw [HR.out.len, h]; rfl))
      obtain ⟨qs', q, us', u', e3, e4, hpt2, hp2⟩ := HT2.out.last hqs
      subst e1
      subst e2
      subst e3
      subst e4
      have hlq : ps'.length = qs'.length := by have := HR.out.len; rw [List.length_append, List.length_append] at this; exact Nat.add_right_cancel this
      obtain ⟨g4, cc, hv, hcc, hcm, hgl, hgn, hcell0⟩ := HR.out.formN hps
      rw [List.length_append] at hv hcc
      obtain ⟨hc1, hc2⟩ := hcell0 ps'.length p q (by simp) (by rw [hlq]; simp)
      subst hv
      obtain ⟨l, hl⟩ : ∃ l, ps'.length = l := ⟨_, rfl⟩
      have HR2 : Hid (QRow wr w0.heap.size (.slice (some ⟨g4, 0, none⟩) l cc) ps' qs') := Lib.hid (by
        have h5 := HR.out
        rw [hl] at h5
        exact h5.drop hl)
      rw [hl] at hc1 hc2 hcc ⊢
      obtain ⟨b, o, r3, rfl, _, hnr1, hnd1⟩ := hp1
      obtain ⟨b', o', r4, rfl, _, hnr2, hnd2⟩ := hp2
      have HAL := Lib.hid (fun W (hb : Below w0.heap.size w0 W) => alike_calls (hnr1.keep (keeps_below hb Non) (fun h => h)) (hnr2.keep (keeps_below hb Non) (fun h => h)) (hnd1.keep (S' := Any) (keeps_below hb Non) (fun _ _ h => h) (fun _ h => h)) (hnd2.keep (S' := Any) (keeps_below hb Non) (fun _ _ h => h) (fun _ h => h)))
      have hlts : ts'.length = us'.length := by rw [← hpt1.len, ← hpt2.len, hlq]
      have hstep := HEQ.out
      rw [eqL_step hlts] at hstep
      obtain ⟨B, hB⟩ : ∃ B, alikeB t' u' = B := ⟨_, rfl⟩
      rw [hB] at hstep HAL
      have hcn := HCN.out
      rw [cntL_app, cntL_one] at hcn
      have hpl : l + 1 = (ts' ++ [t']).length := by
        have h5 := HT1.out.len
        rw [List.length_append, hl] at h5
        exact h5
      have hcl := cntL_len (ts' ++ [t'])
      have hgt : (0 : Int) < (l : Int) + 1 := by omega
      have HLB : Hid (l ≤ 1000000 ∧ ps'.length ≤ 1000000) := Lib.hid (by have h5 := HCN.out; have h6 := HGM.out; omega)
      have hsub : IntKind.i64.wrap (l : Int) = (l : Int) := IntWalk.i64_in _ (by have := HLB.out; omega)
      have hl0 : (0 : Int) ≤ (l : Int) := by omega
      have hll : (l : Int) < (l : Int) + 1 := by omega
      have hlc : (l : Int) ≤ (cc : Int) := by omega
      have HB1 := Lib.hid hB
      have HST := Lib.hid hstep
      have HP1' := Lib.hid hpt1
      have HP2' := Lib.hid hpt2
      have HN1 := Lib.hid hnr1
      have HN2 := Lib.hid hnr2
      have HD1 := Lib.hid hnd1
      have HD2 := Lib.hid hnd2
      have HC5 : Hid (cntL (ts' ++ t'.kids) + 1 ≤ cntL (ts' ++ [t'])) := Lib.hid (by
        rw [cntL_app, cntL_app, cntL_one]
        have := kids_cnt t'
        omega)
      clear hqs hpt1 hpt2 hlq hcell0 hgl hgn hcm hnr1 hnr2 hnd1 hnd2 hlts hstep hB hcn hpl hcl hl hps
      go_wp2_with fail
      go_quiet (fail)
      go_wp2_with fail
      have HBQ := Lib.hid (fun k => below_drewNv HB.out k)
      have HBQ2 := Lib.hid (fun k => below_drewNv (Below.refl wr.heap.size wr) k)
      with_reducible refine (HAL.out _ (HBQ.out _)).mono ?_
      rintro e w2 ⟨rfl, hb2⟩
      have HB2 := Lib.hid ((HBQ.out _).trans (hb2.mono (HBQ.out _).size))
      have HR3 := Lib.hid (HR2.out.below ((HBQ2.out _).trans hb2))
      clear hb2 HBQ HBQ2 HAL HR2
      cases B with
      | false =>
        have HF : Hid (Q = false) := Lib.hid (by rw [← HST.out]; rfl)
        go_wp2_with fail
        go_ret
        exact ⟨by rw [HF.out]; rfl, HB0.out.trans (HB2.out.mono HB0.out.size)⟩
      | true =>
        have HST2 : Hid (eqL (ts' ++ t'.kids) (us' ++ u'.kids) = Q) := Lib.hid (by rw [← HST.out, Bool.true_and])
        have hkl := alikeB_kids HB1.out
        obtain ⟨_, _, _, _, rows1, hri1, hni1⟩ := HD1.out.kids
        obtain ⟨_, _, _, _, rows2, hri2, hni2⟩ := HD2.out.kids
        obtain ⟨ka, kc, hkv, hkc, hkm, hkp⟩ := kids_form hri1 hni1
        obtain ⟨ja, jc, hjv, hjc, hjm, hjp⟩ := kids_form hri2 hni2
        rw [← hkl] at hjv hjp hjc
        obtain ⟨nk, hnk⟩ : ∃ nk, t'.kids.length = nk := ⟨_, rfl⟩
        rw [hnk] at hkv hkp hkc hjv hjp hjc
        have HNK : Hid (nk ≤ 1000000) := Lib.hid (by
          have h5 := HC5.out
          have h6 := HCN.out
          have h7 := HGM.out
          have h8 := cntL_len t'.kids
          rw [cntL_app] at h5
          omega)
        have HK1 : Hid (∃ b2 o2, (nk = 0 ∨ ka = some ⟨b2, o2, none⟩) ∧ PtrsIn w0 Any (kidPs b2 o2 nk) t'.kids) := Lib.hid (by
          rcases hkp with h0 | ⟨b2, o2, h1, h2⟩
          · exact ⟨0, 0, .inl (by rw [← hnk, h0]; rfl), by rw [h0] at hnk ⊢; rw [← hnk]; exact trivial⟩
          · exact ⟨b2, o2, .inr h1, h2⟩)
        have HK2 : Hid (∃ b2 o2, (nk = 0 ∨ ja = some ⟨b2, o2, none⟩) ∧ PtrsIn w0 Any (kidPs b2 o2 nk) u'.kids) := Lib.hid (by
          rcases hjp with h0 | ⟨b2, o2, h1, h2⟩
          · have h9 : nk = 0 := by rw [← hnk, hkl, h0]; rfl
            exact ⟨0, 0, .inl h9, by rw [h0, h9]; exact trivial⟩
          · exact ⟨b2, o2, .inr h1, h2⟩)
        obtain ⟨b2, o2, hk1, hk2⟩ := HK1.out
        obtain ⟨b5, o5, hj1, hj2⟩ := HK2.out
        have HKA := Lib.hid hk1
        have HKB := Lib.hid hk2
        have HJA := Lib.hid hj1
        have HJB := Lib.hid hj2
        have HKV := Lib.hid hkv
        have HJV := Lib.hid hjv
        obtain ⟨_, _, _, _, y4⟩ := HN1.out.keep (keeps_below HB2.out Non) (fun h => h)
        rw [hkv] at y4
        clear hkl hri1 hni1 hri2 hni2 hkv hkc hkm hkp hjv hjc hjm hjp hnk HK1 HK2 hk1 hk2 hj1 hj2
        go_wp2_with fail
        go_loopg [5, 40] nk (fun g2 s5 s40 wz => ∃ i : Nat, i + g2 = nk ∧ s40 = .int .i64 (i : Int) ∧ QRow wz w0.heap.size s5 (ps' ++ kidPs b2 o2 i) (qs' ++ kidPs b5 o5 i) ∧ Below w0.heap.size w0 wz)
        case atStart => exact ⟨0, by omega, rfl, by rw [kidPs, kidPs, List.append_nil, List.append_nil]; exact HR3.out, HB2.out⟩
        case round =>
          obtain ⟨i, hig, rfl, hr, hbz⟩ := hrel
          have HRZ := Lib.hid hr
          have HBZ := Lib.hid hbz
          clear hr hbz
          cases gk with
          | zero =>
            obtain rfl : nk = i := by omega
            have hge : ¬ (nk < nk) := by omega
            go_wp2_with fail
            go_roundg (cntL (ts' ++ t'.kids))
            case measure => have h5 := HC5.out; have h6 := HCN.out; omega
            case rel => exact ⟨_, _, ts' ++ t'.kids, us' ++ u'.kids, HRZ.out, HP1'.out.app HKB.out, HP2'.out.app HJB.out, HST2.out, rfl, by have h5 := HC5.out; have h6 := HCN.out; have h7 := HGM.out; omega, HBZ.out⟩
          | succ g2 =>
            have hlt : i < nk := by omega
            have hltI : (i : Int) < (nk : Int) := by omega
            have hi0 : (0 : Int) ≤ (i : Int) := by omega
            have hadd : IntKind.i64.wrap ((i : Int) + 1) = (i : Int) + 1 := IntWalk.i64_in _ (by have := HNK.out; omega)
            obtain rfl : ka = some ⟨b2, o2, none⟩ := by
              rcases HKA.out with h1 | h1
              · omega
              · exact h1
            obtain rfl : ja = some ⟨b5, o5, none⟩ := by
              rcases HJA.out with h1 | h1
              · omega
              · exact h1
            go_upto_region 11 with (fail)
            obtain ⟨x0, hx0⟩ : ∃ W, wr.drew = W := ⟨_, rfl⟩
            have hbx : Below wr.heap.size wr x0 := by rw [← hx0]; exact ⟨rfl, rfl, rfl, Nat.le_refl _, fun _ _ => rfl⟩
            have hb0x : Below w0.heap.size w0 x0 := HBZ.out.trans (hbx.mono HBZ.out.size)
            obtain ⟨_, _, _, _, c4⟩ := HN1.out.keep (keeps_below hb0x Non) (fun h => h)
            obtain ⟨_, _, _, _, d4⟩ := HN2.out.keep (keeps_below hb0x Non) (fun h => h)
            rw [HKV.out] at c4
            rw [HJV.out] at d4
            obtain ⟨x1, hx1⟩ : ∃ W, x0.alloc (.cells #[.pointer (some ⟨b2, o2 + i * 5, none⟩), .pointer (some ⟨b5, o5 + i * 5, none⟩)] 75) = W := ⟨_, rfl⟩
            have hb1 : Below x0.heap.size x0 x1 := by rw [← hx1]; exact (Below.refl _ _).alloc (Nat.le_refl _) _
            have hp1 : x1.heap[x0.heap.size]? = some (.cells #[.pointer (some ⟨b2, o2 + i * 5, none⟩), .pointer (some ⟨b5, o5 + i * 5, none⟩)] 75 (0, 0)) := by rw [← hx1]; exact heap_alloc_new x0 _
            have hkl : (kidPs b2 o2 i).length = i := kidPs_len _ _ _
            obtain ⟨v3, w5, hrun, hq3, hk3⟩ := ((HRZ.out.below hbx).below hb1).append (Nat.le_trans hb0x.size hb1.size) (b := x0.heap.size) (c := 1) (p := ⟨b2, o2 + i * 5, none⟩) (q := ⟨b5, o5 + i * 5, none⟩) ((cell_of_block hp1 0).trans rfl) ((cell_of_block hp1 1).trans rfl) (by rw [List.length_append, hkl]; have h5 := HLB.out; have h6 := HNK.out; omega)
            have hb05 : Below w0.heap.size w0 w5 := (hb0x.trans (hb1.mono hb0x.size)).trans (hk3.toBelow (Nat.le_trans hb0x.size hb1.size) (fun k e => HRZ.out.new k e))
            have HRUN := Lib.hid hrun
            have HQ3 : Hid (QRow w5 w0.heap.size v3 (ps' ++ kidPs b2 o2 (i + 1)) (qs' ++ kidPs b5 o5 (i + 1))) := Lib.hid (by rw [kidPs_snoc, kidPs_snoc, ← List.append_assoc, ← List.append_assoc]; exact hq3)
            have HB05 := Lib.hid hb05
            have HH1 := Lib.hid (show _ ∧ _ from ⟨(hb1.cell (lt_of_cell c4)).trans c4, (hb1.cell (lt_of_cell d4)).trans d4⟩)
            have HH5 : Hid (w5.cell? ⟨b, o + 4, none⟩ = some (.slice (some ⟨b2, o2, none⟩) nk kc) ∧ w5.cell? ⟨b', o' + 4, none⟩ = some (.slice (some ⟨b5, o5, none⟩) nk jc)) := Lib.hid (by
              obtain ⟨_, _, _, _, e4⟩ := HN1.out.keep (keeps_below hb05 Non) (fun h => h)
              obtain ⟨_, _, _, _, f4⟩ := HN2.out.keep (keeps_below hb05 Non) (fun h => h)
              rw [HKV.out] at e4
              rw [HJV.out] at f4
              exact ⟨e4, f4⟩)
            clear hbx hb0x hb1 hp1 hkl hrun hq3 hk3 hb05
            refine wp_region_held_drew (S := fun W => W.cell? ⟨b, o + 4, none⟩ = some (.slice (some ⟨b2, o2, none⟩) nk kc) ∧ W.cell? ⟨b', o' + 4, none⟩ = some (.slice (some ⟨b5, o5, none⟩) nk jc)) (by kernel_rfl) (by rw [hx0]; exact ⟨c4, d4⟩) (fun hHeld => ?_)
            rw [hx0] at hHeld ⊢
            clear hx0 c4 d4
            refine wpAnyH_take (i := 0) (v := ?_) rfl (by kernel_rfl) (by kernel_rfl) (by kernel_rfl) (fun _ _ _ h => h) (Or.inl ⟨by rfl, ?_⟩) (by assumption) ?_
            rotate_left
            · intro W hS; (try dsimp only at hS); obtain ⟨hs0, hs1⟩ := hS; go_simp; try with_reducible rfl
            simp only [List.getElem_toArray, List.getElem_cons_zero, Act.put, List.setIfInBounds_toArray, List.set_cons_zero, List.set_cons_succ]
            refine wpAnyH_take (i := 1) (v := ?_) rfl (by kernel_rfl) (by kernel_rfl) (by kernel_rfl) (fun _ _ _ h => h) (Or.inl ⟨by rfl, ?_⟩) (by assumption) ?_
            rotate_left
            · intro W hS; (try dsimp only at hS); obtain ⟨hs0, hs1⟩ := hS; go_simp; try with_reducible rfl
            simp only [getElem_toArray, getElem_cons_succ, getElem_cons_zero, Act.put, setIfInBounds_toArray, set_cons_zero, set_cons_succ]
            refine wpAnyH_take (i := 2) (v := ?_) rfl (by kernel_rfl) (by kernel_rfl) (by kernel_rfl) (fun _ _ _ h => h) (Or.inl ⟨by rfl, ?_⟩) (by assumption) ?_
            rotate_left
            · intro W hS; (try dsimp only at hS); obtain ⟨hs0, hs1⟩ := hS; go_simp; try with_reducible rfl
            simp only [getElem_toArray, getElem_cons_succ, getElem_cons_zero, Act.put, setIfInBounds_toArray, set_cons_zero, set_cons_succ]
            refine wpAnyH_take (i := 3) (v := ?_) rfl (by kernel_rfl) (by kernel_rfl) (by kernel_rfl) (fun _ _ _ h => h) (Or.inl ⟨by rfl, ?_⟩) (by assumption) ?_
            rotate_left
            · intro W hS; (try dsimp only at hS); obtain ⟨hs0, hs1⟩ := hS; go_simp; try with_reducible rfl
            simp only [getElem_toArray, getElem_cons_succ, getElem_cons_zero, Act.put, setIfInBounds_toArray, set_cons_zero, set_cons_succ]
            refine wpAnyH_take (i := 4) (v := ?_) rfl (by kernel_rfl) (by kernel_rfl) (by kernel_rfl) (fun _ _ _ h => h) (Or.inl ⟨by rfl, ?_⟩) (by assumption) ?_
            rotate_left
            · intro W hS; (try dsimp only at hS); obtain ⟨hs0, hs1⟩ := hS; go_simp; try with_reducible rfl
            simp only [getElem_toArray, getElem_cons_succ, getElem_cons_zero, Act.put, setIfInBounds_toArray, set_cons_zero, set_cons_succ]
            refine wpAnyH_take (i := 5) (v := ?_) rfl (by kernel_rfl) (by kernel_rfl) (by kernel_rfl) (fun _ _ _ h => h) (Or.inl ⟨by rfl, ?_⟩) (by assumption) ?_
            rotate_left
            · intro W hS; (try dsimp only at hS); obtain ⟨hs0, hs1⟩ := hS; go_simp; try with_reducible rfl
            simp only [getElem_toArray, getElem_cons_succ, getElem_cons_zero, Act.put, setIfInBounds_toArray, set_cons_zero, set_cons_succ]
            refine wpAnyH_take (i := 6) (v := ?_) rfl (by kernel_rfl) (by kernel_rfl) (by kernel_rfl) (fun _ _ _ h => h) (Or.inl ⟨by rfl, ?_⟩) (by assumption) ?_
            rotate_left
            · intro W hS; (try dsimp only at hS); obtain ⟨hs0, hs1⟩ := hS; go_simp; try with_reducible rfl
            simp only [getElem_toArray, getElem_cons_succ, getElem_cons_zero, Act.put, setIfInBounds_toArray, set_cons_zero, set_cons_succ]
            refine wpAnyH_take (i := 7) (v := ?_) rfl (by kernel_rfl) (by kernel_rfl) (by kernel_rfl) (fun _ _ _ h => h) (Or.inl ⟨by rfl, ?_⟩) (by assumption) ?_
            rotate_left
            · intro W hS; (try dsimp only at hS); obtain ⟨hs0, hs1⟩ := hS; go_simp; try with_reducible rfl
            simp only [getElem_toArray, getElem_cons_succ, getElem_cons_zero, Act.put, setIfInBounds_toArray, set_cons_zero, set_cons_succ]
            refine wpAnyH_take (i := 8) (v := ?_) rfl (by kernel_rfl) (by kernel_rfl) (by kernel_rfl) (fun _ _ _ h => h) (Or.inl ⟨by rfl, ?_⟩) (by assumption) ?_
            rotate_left
            · intro W hS; (try dsimp only at hS); obtain ⟨hs0, hs1⟩ := hS; go_simp; try with_reducible rfl
            simp only [getElem_toArray, getElem_cons_succ, getElem_cons_zero, Act.put, setIfInBounds_toArray, set_cons_zero, set_cons_succ]
            refine wpAnyH_take (i := 9) (v := ?_) rfl (by kernel_rfl) (by kernel_rfl) (by kernel_rfl) (fun _ _ _ h => h) (Or.inl ⟨by rfl, ?_⟩) (by assumption) ?_
            rotate_left
            · intro W hS; (try dsimp only at hS); obtain ⟨hs0, hs1⟩ := hS; go_simp; try with_reducible rfl
            simp only [getElem_toArray, getElem_cons_succ, getElem_cons_zero, Act.put, setIfInBounds_toArray, set_cons_zero, set_cons_succ]
            refine wpAnyH_take (i := 10) (v := ?_) rfl (by kernel_rfl) (by kernel_rfl) (by kernel_rfl) (fun _ _ _ h => h) (Or.inl ⟨by rfl, ?_⟩) (by assumption) ?_
            rotate_left
            · intro W hS; (try dsimp only at hS); obtain ⟨hs0, hs1⟩ := hS; go_simp; try with_reducible rfl
            simp only [getElem_toArray, getElem_cons_succ, getElem_cons_zero, Act.put, setIfInBounds_toArray, set_cons_zero, set_cons_succ]
            refine wpAnyH_take (i := 11) (v := ?_) rfl (by kernel_rfl) (by kernel_rfl) (by kernel_rfl) (fun _ _ _ h => h) (Or.inl ⟨by rfl, ?_⟩) (by assumption) ?_
            rotate_left
            · intro W hS; (try dsimp only at hS); obtain ⟨hs0, hs1⟩ := hS; go_simp; try with_reducible rfl
            simp only [getElem_toArray, getElem_cons_succ, getElem_cons_zero, Act.put, setIfInBounds_toArray, set_cons_zero, set_cons_succ]
            refine wpAnyH_take (i := 12) (v := ?_) rfl (by kernel_rfl) (by kernel_rfl) (by kernel_rfl) (fun _ _ _ h => h) (Or.inl ⟨by rfl, ?_⟩) (by assumption) ?_
            rotate_left
            · intro W hS; (try dsimp only at hS); obtain ⟨hs0, hs1⟩ := hS; go_simp; try with_reducible rfl
            simp only [getElem_toArray, getElem_cons_succ, getElem_cons_zero, Act.put, setIfInBounds_toArray, set_cons_zero, set_cons_succ]
            refine wpAnyH_take (i := 13) (v := ?_) rfl (by kernel_rfl) (by kernel_rfl) (by kernel_rfl) (fun _ _ _ h => h) (Or.inl ⟨by rfl, ?_⟩) (by assumption) ?_
            rotate_left
            · intro W hS; (try dsimp only at hS); obtain ⟨hs0, hs1⟩ := hS; go_simp; try with_reducible rfl
            simp only [getElem_toArray, getElem_cons_succ, getElem_cons_zero, Act.put, setIfInBounds_toArray, set_cons_zero, set_cons_succ]
            refine wpAnyH_ready (rs := [14]) (by kernel_rfl) (by simp) ?_
            refine AllReadyH.cons rfl (fun K hK => ?_) AllReadyH.nil
            go_simp
            (try rw [hx1])
            refine hK.out _ _ HH1.out (fun hHeld => ?_)
            clear hK K
            try simp only [getElem_toArray, getElem_cons_succ, getElem_cons_zero, Act.put, setIfInBounds_toArray, set_cons_zero, set_cons_succ]
            refine wpAnyH_ready (rs := [15]) (by kernel_rfl) (by simp) ?_
            refine AllReadyH.cons rfl (fun K hK => ?_) AllReadyH.nil
            refine step_append rfl (.tmp 43) (.tmp 57) _ _ rfl _ _ _ rfl rfl HRUN.out ?_
            refine hK.out _ _ HH5.out (fun hHeld => ?_)
            clear hK K
            try simp only [getElem_toArray, getElem_cons_succ, getElem_cons_zero, Act.put, setIfInBounds_toArray, set_cons_zero, set_cons_succ]
            refine wpAnyH_take (i := 16) (v := ?_) rfl (by kernel_rfl) (by kernel_rfl) (by kernel_rfl) (fun _ _ _ h => h) (Or.inl ⟨by rfl, ?_⟩) (by assumption) ?_
            rotate_left
            · intro W hS; (try dsimp only at hS); obtain ⟨hs0, hs1⟩ := hS; go_simp; try with_reducible rfl
            simp only [getElem_toArray, getElem_cons_succ, getElem_cons_zero, Act.put, setIfInBounds_toArray, set_cons_zero, set_cons_succ]
            refine wpAnyH_done (by kernel_rfl) ?_ _
            go_wp2_with fail
            go_roundg g2
            case measure => omega
            case rel => exact ⟨i + 1, by omega, rfl, HQ3.out, HB05.out⟩

end Go.Proofs.YtfonflbpkbibbaaGreatDoor
