/-
 The reference's May. Conditions: the document lies in memory; what is written of it is no longer than 2 to the 30; each of its parts has no more than 2 to the 19 nodes and characters.
-/
import Derived.Test.YtocnedpclllbhaaGreatDoorVD
import Derived.Test.YtocnedpclllbhaaGreatDoorVG
namespace Go.Proofs.YtocnedpclllbhaaGreatDoor
open Go.RowKit Go.Lib Go.Joins

theorem aside_snoc {l : List Tr} {i : Nat} {t : Tr} (h : l[i]? = some t) : asideB (l.take (i + 1)) = (asideB (l.take i) && ((t.kind == 3 || t.kind == 4) && fairT t)) := by
  have e : l.take (i + 1) = l.take i ++ [t] := by rw [List.take_add_one, h]; rfl
  unfold asideB
  rw [e, List.all_append, List.all_cons, List.all_nil, Bool.and_true]
set_option maxRecDepth 100000 in
set_option maxHeartbeats 16000000 in
theorem rmay11_calls {w : World} {dv : Value} {q : List Tr × Tr × List Tr} {bv av : Value} {r : Nr} {rb ra : List Nr} (h : DcIn w dv q bv av r rb ra) (hs : (wrD q.1 q.2.1 q.2.2).length ≤ 1073741824) (hzB : szL q.1 ≤ 1000000) (hzR : q.2.1.sz ≤ 1000000) (hzA : szL q.2.2 ≤ 1000000) (hcB : q.1.length ≤ 1000000) (hcR : q.2.1.count ≤ 1000000) (hcA : q.2.2.length ≤ 1000000) :
    Calls Tryz.prog 8 #[dv] w (Leaves (.bool (mayB q.1 q.2.1 q.2.2)) w) := by
  have e1 := h.val
  unfold docV at e1
  have HDC : Hid (∀ W, Below w.heap.size w W → Calls Tryz.prog 16 #[dv] W (Leaves (.string (strB (wrD q.1 q.2.1 q.2.2))) W)) := Lib.hid (fun W hW => rwritten_calls (h.keep hW) hs)
  have hwz : (strB (wrD q.1 q.2.1 q.2.2)).size = (wrD q.1 q.2.1 q.2.2).length := strB_size _
  obtain ⟨before, root, after⟩ := q
  dsimp only at hs hzB hzR hzA hcB hcR hcA HDC hwz ⊢
  obtain ⟨k, n, x, rav, rkv⟩ := r
  obtain ⟨s1, hs1⟩ : ∃ s, strB n = s := ⟨_, rfl⟩
  obtain ⟨t1, ht1⟩ : ∃ s, strB x = s := ⟨_, rfl⟩
  dsimp only at e1
  rw [hs1, ht1] at e1
  obtain ⟨g1, g2, g3, h4, rows, h5, _⟩ := h.root.kids
  obtain ⟨u1, u2, u3, hu⟩ := h4.slice
  obtain ⟨u4, u5, u6, hu2⟩ := h5.slice
  dsimp only at hu hu2
  subst hu
  subst hu2
  have hrB := h.rowB
  have hiB := h.inB
  have hrA := h.rowA
  have hiA := h.inA
  have hro := h.root
  dsimp only at hiB hiA hro g1
  obtain ⟨x1, x3, rfl, hxc, hxm, hxp⟩ := kids_form hrB hiB
  obtain ⟨x4, x6, rfl, hyc, hym, hyp⟩ := kids_form hrA hiA
  obtain ⟨x2, hx2⟩ : ∃ z, before.length = z := ⟨_, rfl⟩
  obtain ⟨x5, hx5⟩ : ∃ z, after.length = z := ⟨_, rfl⟩
  rw [hx2] at hxp hxc hcB e1
  rw [hx5] at hyp hyc hcA e1
  obtain ⟨b2, o2, hk1, hk2⟩ : ∃ b2 o2, (x2 = 0 ∨ x1 = some ⟨b2, o2, none⟩) ∧ PtrsIn w Any (kidPs b2 o2 x2) before := by
    rcases hxp with h0 | ⟨b2, o2, h1, h2⟩
    · exact ⟨0, 0, .inl (by rw [← hx2, h0]; rfl), by rw [h0] at hx2 ⊢; rw [← hx2]; exact trivial⟩
    · exact ⟨b2, o2, .inr h1, h2⟩
  obtain ⟨b4, o4, hk3, hk4⟩ : ∃ b2 o2, (x5 = 0 ∨ x4 = some ⟨b2, o2, none⟩) ∧ PtrsIn w Any (kidPs b2 o2 x5) after := by
    rcases hyp with h0 | ⟨b2, o2, h1, h2⟩
    · exact ⟨0, 0, .inl (by rw [← hx5, h0]; rfl), by rw [h0] at hx5 ⊢; rw [← hx5]; exact trivial⟩
    · exact ⟨b2, o2, .inr h1, h2⟩
  unfold maxLen at hxm hym
  obtain ⟨wA, hwA⟩ : ∃ W, w.alloc (.cells #[.slice x1 x2 x3, .int .i64 k, .string s1, .string t1, .slice u1 u2 u3, .slice u4 u5 u6, .slice x4 x5 x6] 27) = W := ⟨_, rfl⟩
  have hbA : Below w.heap.size w wA := by rw [← hwA]; exact (Below.refl _ _).alloc (Nat.le_refl _) _
  have hA : wA.heap[w.heap.size]? = some (.cells #[.slice x1 x2 x3, .int .i64 k, .string s1, .string t1, .slice u1 u2 u3, .slice u4 u5 u6, .slice x4 x5 x6] 27 (0, 0)) := by rw [← hwA]; exact heap_alloc_new w _
  have HCELL : Hid (∀ W, Below wA.heap.size wA W → W.cell? ⟨w.heap.size, 0, none⟩ = some (.slice x1 x2 x3) ∧ W.cell? ⟨w.heap.size, 1, none⟩ = some (.int .i64 k) ∧ W.cell? ⟨w.heap.size, 2, none⟩ = some (.string s1) ∧ W.cell? ⟨w.heap.size, 3, none⟩ = some (.string t1) ∧ W.cell? ⟨w.heap.size, 4, none⟩ = some (.slice u1 u2 u3) ∧ W.cell? ⟨w.heap.size, 5, none⟩ = some (.slice u4 u5 u6) ∧ W.cell? ⟨w.heap.size, 6, none⟩ = some (.slice x4 x5 x6)) := Lib.hid (fun W hW => by
    have h1 := block_below hW hA
    exact ⟨(cell_of_block h1 0).trans rfl, (cell_of_block h1 1).trans rfl, (cell_of_block h1 2).trans rfl, (cell_of_block h1 3).trans rfl, (cell_of_block h1 4).trans rfl, (cell_of_block h1 5).trans rfl, (cell_of_block h1 6).trans rfl⟩)
  have hkeep : ∀ W, Below wA.heap.size wA W → NodeIn W Any ⟨k, n, x, .slice u1 u2 u3, .slice u4 u5 u6⟩ root := fun W hW => hro.keep (keeps_below (below_then hbA hW) Non) (fun _ _ h => h) (fun _ h => h)
  have HRC := fun W hW => rcount_calls _ (hkeep W hW) (Nat.le_refl _) hcR
  have HRF := fun W hW => rfair_calls _ (hkeep W hW) (Nat.le_refl _) hzR
  have HRD := fun W hW => rdepth_calls _ (hkeep W hW) (Nat.le_refl _) hcR
  have HIH := Lib.hid (fun (W : World) (r2 : Nr) (t2 : Tr) (h2 : NodeIn W Any r2 t2) (hz : t2.sz ≤ 1000000) => rfair_calls _ h2 (Nat.le_refl _) hz)
  unfold nodeV at HRC HRF HRD
  dsimp only at HRC HRF HRD
  rw [hs1, ht1] at HRC HRF HRD
  have hdep := depth_le_count root
  obtain ⟨cn, hcn⟩ : ∃ z, root.count = z := ⟨_, rfl⟩
  obtain ⟨dn, hdn⟩ : ∃ z, root.depth = z := ⟨_, rfl⟩
  obtain ⟨fr, hfr⟩ : ∃ z, fairT root = z := ⟨_, rfl⟩
  rw [hcn] at HRC hcR hdep
  rw [hdn] at HRD hdep
  rw [hfr] at HRF
  have HRC := Lib.hid HRC
  have HRF := Lib.hid HRF
  have HRD := Lib.hid HRD
  obtain ⟨WZ, hWZ⟩ : ∃ z, strB (wrD before root after) = z := ⟨_, rfl⟩
  obtain ⟨ln, hln⟩ : ∃ z, (wrD before root after).length = z := ⟨_, rfl⟩
  rw [hWZ] at HDC hwz
  rw [hln] at hwz hs
  rw [e1] at HDC ⊢
  obtain ⟨Q, hQ⟩ : ∃ z, mayB before root after = z := ⟨_, rfl⟩
  rw [hQ]
  have HQ : Hid (Q = (((k == 1) && fr && decide (dn ≤ 32)) && asideB before && asideB after && decide (x2 + cn + x5 ≤ 4096) && decide (ln ≤ 65536))) := Lib.hid (by
    rw [← hQ, mayB, hcn, hdn, hfr, hln, hx2, hx5, ← g1]
    cases asideB before <;> cases asideB after <;> cases (k == 1) <;> cases fr <;> cases decide (x2 + cn + x5 ≤ 4096) <;> cases decide (dn ≤ 32) <;> cases decide (ln ≤ 65536) <;> rfl)
  have HKB := Lib.hid hk2
  have HKA := Lib.hid hk4
  have HK1 := Lib.hid hk1
  have HK3 := Lib.hid hk3
  have HX2 := Lib.hid hx2
  have HX5 := Lib.hid hx5
  have HZB := Lib.hid hzB
  have HZA := Lib.hid hzA
  have HBA := Lib.hid hbA
  have HWA := Lib.hid hwA
  have HWZ := Lib.hid hwz
  obtain ⟨z0, z1, z2, z3, z4, z5, z6⟩ := HCELL.out wA (Below.refl _ _)
  rw [← HWA.out] at z0 z1 z2 z3 z4 z5 z6
  clear h hs hzB hzR hzA e1 hs1 ht1 g1 g2 g3 h4 h5 hrB hiB hrA hiA hro hxp hyp hx2 hx5 hk1 hk2 hk3 hk4 hwA hbA hA hkeep hcn hdn hfr hWZ hln hQ hwz
  go_enter Tryz.func8, Tryz.ntmps8
  go_wp2_with fail
  rw [HWA.out]
  with_reducible refine (HRC.out wA (Below.refl _ _)).mono ?_
  rintro e w1 ⟨rfl, hb1⟩
  have HB1 := Lib.hid hb1
  clear hb1 z0 z1 z2 z3 z4 z5 z6
  obtain ⟨z0, z1, z2, z3, z4, z5, z6⟩ := HCELL.out w1 HB1.out
  by_cases hk : k = 1
  case neg =>
    have e1 : (k == 1) = false := beq_eq_false_iff_ne.2 hk
    obtain ⟨R, hR⟩ : ∃ b, b = false := ⟨_, rfl⟩
    have HRR : Hid (((k == 1) && fr && decide (dn ≤ 32)) = R) := Lib.hid (by rw [e1, hR]; rfl)
    have HR0 := Lib.hid hR
    clear hk hR
    go_wp2_with fail
    go_loopg [3, 4, 5] x2 (fun g s3 s4 s5 wz => ∃ (i : Nat), s3 = .int .i64 (((cn) + i : Nat) : Int) ∧ s4 = .bool (R && asideB (before.take i)) ∧ s5 = .int .i64 (i : Int) ∧ g + i = x2 ∧ Below wA.heap.size wA wz)
    case atStart => exact ⟨0, rfl, by rw [HR0.out]; rfl, rfl, rfl, HB1.out⟩
    case round =>
      obtain ⟨i, rfl, rfl, rfl, hg, hbz⟩ := hrel
      have HBR := Lib.hid hbz
      clear hbz
      clear z0 z1 z2 z3 z4 z5 z6
      obtain ⟨z0, z1, z2, z3, z4, z5, z6⟩ := HCELL.out wr HBR.out
      obtain ⟨c, hc⟩ : ∃ c, (R && asideB (before.take i)) = c := ⟨_, rfl⟩
      rw [hc]
      have HC := Lib.hid hc
      clear hc
      cases gk with
      | zero =>
        obtain rfl : i = x2 := by omega
        have hge : ¬ ((i : Int) < (i : Int)) := by omega
        obtain ⟨R2, hR2⟩ : ∃ b, b = c := ⟨_, rfl⟩
        have HR2 : Hid (R2 = (R && asideB before)) := Lib.hid (by rw [hR2, ← HC.out, List.take_of_length_le (by have := HX2.out; omega)])
        obtain ⟨c2, hc2⟩ : ∃ z, cn + i = z := ⟨_, rfl⟩
        rw [← hR2, hc2]
        have HC2 := Lib.hid hc2
        have hc2l : c2 ≤ 2000000 := by omega
        clear hR2 HC hc2
        go_wp2_with fail
        go_loopg [3, 4, 6] x5 (fun g s3 s4 s5 wz => ∃ (i : Nat), s3 = .int .i64 (((c2) + i : Nat) : Int) ∧ s4 = .bool (R2 && asideB (after.take i)) ∧ s5 = .int .i64 (i : Int) ∧ g + i = x5 ∧ Below wA.heap.size wA wz)
        case atStart => exact ⟨0, rfl, by rw [List.take_zero, show asideB [] = true from rfl, Bool.and_true], rfl, rfl, HBR.out⟩
        case round =>
          obtain ⟨i, rfl, rfl, rfl, hg, hbz⟩ := hrel
          have HBR := Lib.hid hbz
          clear hbz
          clear z0 z1 z2 z3 z4 z5 z6
          obtain ⟨z0, z1, z2, z3, z4, z5, z6⟩ := HCELL.out wr HBR.out
          obtain ⟨c, hc⟩ : ∃ c, (R2 && asideB (after.take i)) = c := ⟨_, rfl⟩
          rw [hc]
          have HC := Lib.hid hc
          clear hc
          cases gk with
          | zero =>
            obtain rfl : i = x5 := by omega
            have hge : ¬ ((i : Int) < (i : Int)) := by omega
            have HC3 : Hid (c = (R2 && asideB after)) := Lib.hid (by rw [← HC.out, List.take_of_length_le (by have := HX5.out; omega)])
            have HBW := Lib.hid (below_then HBA.out HBR.out)
            have HQ3 : Hid (Q = (c && decide (c2 + i ≤ 4096) && decide (ln ≤ 65536))) := Lib.hid (by
              rw [HQ.out, HC3.out, HR2.out, HRR.out, ← HC2.out]
              rw [show ∀ a b d : Nat, a + b + d = b + a + d from fun a b d => by omega])
            clear HQ
            cases c with
            | false =>
              have HF : Hid (Q = false) := Lib.hid (by rw [HQ3.out]; rfl)
              go_wp2_with fail
              go_ret
              exact ⟨by rw [HF.out]; rfl, HBW.out⟩
            | true =>
              obtain ⟨c4, hc4⟩ : ∃ z, c2 + i = z := ⟨_, rfl⟩
              rw [hc4] at HQ3 ⊢
              clear hc4
              by_cases hn : c4 ≤ 4096
              · have hnI : (c4 : Int) ≤ 4096 := by omega
                have HWR := Lib.hid (HDC.out wr HBW.out)
                go_wp2_with fail
                with_reducible refine HWR.out.mono ?_
                rintro e w9 ⟨rfl, hb9⟩
                have HB9 := Lib.hid (below_then HBW.out hb9)
                clear hb9 HWR z0 z1 z2 z3 z4 z5 z6
                by_cases hl : ln ≤ 65536
                · have HF : Hid (Q = true) := Lib.hid (by rw [HQ3.out, decide_eq_true hn, decide_eq_true hl]; rfl)
                  have hlI : (WZ.size : Int) ≤ 65536 := by have := HWZ.out; omega
                  have hlD : decide ((WZ.size : Int) ≤ 65536) = true := decide_eq_true hlI
                  go_wp2_with fail
                  go_ret
                  exact ⟨by rw [HF.out]; rfl, HB9.out⟩
                · have HF : Hid (Q = false) := Lib.hid (by rw [HQ3.out, decide_eq_true hn, decide_eq_false hl]; rfl)
                  have hlI : ¬ ((WZ.size : Int) ≤ 65536) := by have := HWZ.out; omega
                  have hlD : decide ((WZ.size : Int) ≤ 65536) = false := decide_eq_false hlI
                  go_wp2_with fail
                  go_ret
                  exact ⟨by rw [HF.out]; rfl, HB9.out⟩
              · have hnI : ¬ ((c4 : Int) ≤ 4096) := by omega
                have HF : Hid (Q = false) := Lib.hid (by rw [HQ3.out, decide_eq_false hn]; rfl)
                go_wp2_with fail
                go_ret
                exact ⟨by rw [HF.out]; rfl, HBW.out⟩
          | succ g =>
            have hlt : (i : Int) < (x5 : Int) := by omega
            have hi0 : (0 : Int) ≤ (i : Int) := by omega
            have hin : i < x5 := by omega
            have hadd : IntKind.i64.wrap ((i : Int) + 1) = ((i + 1 : Nat) : Int) := IntWalk.i64_in _ (by omega)
            have haddn : IntKind.i64.wrap (((c2 + i : Nat) : Int) + 1) = ((((c2 + i : Nat)) + 1 : Nat) : Int) := by rw [IntWalk.i64_in _ (by omega)]; omega
            obtain ⟨t2, ht2, b3, o3, r2, hp2, _, hnr2, hnd2⟩ := HKA.out.at (kidPs_at b4 o4 x5 i (by omega))
            obtain ⟨rfl, rfl⟩ : b4 = b3 ∧ o4 + i * 5 = o3 := by injection hp2 with h1 h2; exact ⟨h1, h2⟩
            have HSN : Hid ((R2 && asideB (after.take (i + 1))) = (c && ((t2.kind == 3 || t2.kind == 4) && fairT t2))) := Lib.hid (by rw [aside_snoc ht2, ← HC.out, Bool.and_assoc])
            cases c with
            | false =>
              have HNF : Hid ((R2 && asideB (after.take (i + 1))) = false) := Lib.hid (by rw [HSN.out]; rfl)
              clear hnr2 hnd2 hp2 ht2
              go_wp2_with fail
              go_roundg g
              case measure => omega
              case rel => exact ⟨i + 1, by go_num, by rw [HNF.out], by go_num, by omega, HBR.out⟩
            | true =>
              have HNR := Lib.hid hnr2
              obtain ⟨y0, y1, y2, y3, y4⟩ := hnr2.keep (keeps_below (below_then HBA.out HBR.out) Non) (fun h => h)
              have hnd3 := hnd2.keep (keeps_below (below_then HBA.out HBR.out) Non) (fun _ _ h => h) (fun _ h => h)
              have hkd := hnd2.kids.1
              obtain ⟨k2, n2, x2', av2, kv2⟩ := r2
              dsimp only at y0 y1 y2 y3 y4 hkd
              obtain rfl : x4 = some ⟨b4, o4, none⟩ := by
                rcases HK3.out with h1 | h1
                · omega
                · exact h1
              have HC2 := HIH.out _ _ _ hnd3 (by have h1 := sz_mem ht2; have h2 := HZA.out; omega)
              unfold nodeV at HC2
              dsimp only at HC2
              obtain ⟨sn2, hsn2⟩ : ∃ s, strB n2 = s := ⟨_, rfl⟩
              obtain ⟨st2, hst2⟩ : ∃ s, strB x2' = s := ⟨_, rfl⟩
              rw [hsn2] at y1 HC2
              rw [hst2] at y2 HC2
              obtain ⟨f2, hf2⟩ : ∃ f, fairT t2 = f := ⟨_, rfl⟩
              rw [hf2] at HC2 HSN
              rw [← hkd] at HSN
              have HC2 := Lib.hid HC2
              clear hnr2 hnd2 hnd3 hsn2 hst2 hf2 hp2 ht2 hkd
              go_wp2_with fail
              with_reducible refine HC2.out.mono ?_
              rintro e w5 ⟨rfl, hb5⟩
              have HB5 := Lib.hid (below_then HBR.out hb5)
              clear hb5 HC2 y0 y1 y2 y3 y4 z0 z1 z2 z3 z4 z5 z6
              obtain ⟨z0, z1, z2, z3, z4, z5, z6⟩ := HCELL.out w5 HB5.out
              obtain ⟨y0, y1, y2, y3, y4⟩ := HNR.out.keep (keeps_below (below_then HBA.out HB5.out) Non) (fun h => h)
              clear y1 y2 y3 y4
              cases f2 with
              | false =>
                have HNF : Hid ((R2 && asideB (after.take (i + 1))) = false) := Lib.hid (by rw [HSN.out, Bool.and_false, Bool.and_false])
                go_wp2_with fail
                go_roundg g
                case measure => omega
                case rel => exact ⟨i + 1, by go_num, by rw [HNF.out], by go_num, by omega, HB5.out⟩
              | true =>
                by_cases h3 : k2 = 3
                · have HNT : Hid ((R2 && asideB (after.take (i + 1))) = true) := Lib.hid (by rw [HSN.out, h3]; rfl)
                  subst h3
                  go_wp2_with fail
                  go_roundg g
                  case measure => omega
                  case rel => exact ⟨i + 1, by go_num, by rw [HNT.out], by go_num, by omega, HB5.out⟩
                · have e3 : (k2 == 3) = false := beq_eq_false_iff_ne.2 h3
                  by_cases h4 : k2 = 4
                  · have HNT : Hid ((R2 && asideB (after.take (i + 1))) = true) := Lib.hid (by rw [HSN.out, h4]; rfl)
                    subst h4
                    go_wp2_with fail
                    go_roundg g
                    case measure => omega
                    case rel => exact ⟨i + 1, by go_num, by rw [HNT.out], by go_num, by omega, HB5.out⟩
                  · have e4 : (k2 == 4) = false := beq_eq_false_iff_ne.2 h4
                    have HNF : Hid ((R2 && asideB (after.take (i + 1))) = false) := Lib.hid (by rw [HSN.out, e3, e4]; rfl)
                    go_wp2_with fail
                    go_roundg g
                    case measure => omega
                    case rel => exact ⟨i + 1, by go_num, by rw [HNF.out], by go_num, by omega, HB5.out⟩
      | succ g =>
        have hlt : (i : Int) < (x2 : Int) := by omega
        have hi0 : (0 : Int) ≤ (i : Int) := by omega
        have hin : i < x2 := by omega
        have hadd : IntKind.i64.wrap ((i : Int) + 1) = ((i + 1 : Nat) : Int) := IntWalk.i64_in _ (by omega)
        have haddn : IntKind.i64.wrap (((cn + i : Nat) : Int) + 1) = ((((cn + i : Nat)) + 1 : Nat) : Int) := by rw [IntWalk.i64_in _ (by omega)]; omega
        obtain ⟨t2, ht2, b3, o3, r2, hp2, _, hnr2, hnd2⟩ := HKB.out.at (kidPs_at b2 o2 x2 i (by omega))
        obtain ⟨rfl, rfl⟩ : b2 = b3 ∧ o2 + i * 5 = o3 := by injection hp2 with h1 h2; exact ⟨h1, h2⟩
        have HSN : Hid ((R && asideB (before.take (i + 1))) = (c && ((t2.kind == 3 || t2.kind == 4) && fairT t2))) := Lib.hid (by rw [aside_snoc ht2, ← HC.out, Bool.and_assoc])
        cases c with
        | false =>
          have HNF : Hid ((R && asideB (before.take (i + 1))) = false) := Lib.hid (by rw [HSN.out]; rfl)
          clear hnr2 hnd2 hp2 ht2
          go_wp2_with fail
          go_roundg g
          case measure => omega
          case rel => exact ⟨i + 1, by go_num, by rw [HNF.out], by go_num, by omega, HBR.out⟩
        | true =>
          have HNR := Lib.hid hnr2
          obtain ⟨y0, y1, y2, y3, y4⟩ := hnr2.keep (keeps_below (below_then HBA.out HBR.out) Non) (fun h => h)
          have hnd3 := hnd2.keep (keeps_below (below_then HBA.out HBR.out) Non) (fun _ _ h => h) (fun _ h => h)
          have hkd := hnd2.kids.1
          obtain ⟨k2, n2, x2', av2, kv2⟩ := r2
          dsimp only at y0 y1 y2 y3 y4 hkd
          obtain rfl : x1 = some ⟨b2, o2, none⟩ := by
            rcases HK1.out with h1 | h1
            · omega
            · exact h1
          have HC2 := HIH.out _ _ _ hnd3 (by have h1 := sz_mem ht2; have h2 := HZB.out; omega)
          unfold nodeV at HC2
          dsimp only at HC2
          obtain ⟨sn2, hsn2⟩ : ∃ s, strB n2 = s := ⟨_, rfl⟩
          obtain ⟨st2, hst2⟩ : ∃ s, strB x2' = s := ⟨_, rfl⟩
          rw [hsn2] at y1 HC2
          rw [hst2] at y2 HC2
          obtain ⟨f2, hf2⟩ : ∃ f, fairT t2 = f := ⟨_, rfl⟩
          rw [hf2] at HC2 HSN
          rw [← hkd] at HSN
          have HC2 := Lib.hid HC2
          clear hnr2 hnd2 hnd3 hsn2 hst2 hf2 hp2 ht2 hkd
          go_wp2_with fail
          with_reducible refine HC2.out.mono ?_
          rintro e w5 ⟨rfl, hb5⟩
          have HB5 := Lib.hid (below_then HBR.out hb5)
          clear hb5 HC2 y0 y1 y2 y3 y4 z0 z1 z2 z3 z4 z5 z6
          obtain ⟨z0, z1, z2, z3, z4, z5, z6⟩ := HCELL.out w5 HB5.out
          obtain ⟨y0, y1, y2, y3, y4⟩ := HNR.out.keep (keeps_below (below_then HBA.out HB5.out) Non) (fun h => h)
          clear y1 y2 y3 y4
          cases f2 with
          | false =>
            have HNF : Hid ((R && asideB (before.take (i + 1))) = false) := Lib.hid (by rw [HSN.out, Bool.and_false, Bool.and_false])
            go_wp2_with fail
            go_roundg g
            case measure => omega
            case rel => exact ⟨i + 1, by go_num, by rw [HNF.out], by go_num, by omega, HB5.out⟩
          | true =>
            by_cases h3 : k2 = 3
            · have HNT : Hid ((R && asideB (before.take (i + 1))) = true) := Lib.hid (by rw [HSN.out, h3]; rfl)
              subst h3
              go_wp2_with fail
              go_roundg g
              case measure => omega
              case rel => exact ⟨i + 1, by go_num, by rw [HNT.out], by go_num, by omega, HB5.out⟩
            · have e3 : (k2 == 3) = false := beq_eq_false_iff_ne.2 h3
              by_cases h4 : k2 = 4
              · have HNT : Hid ((R && asideB (before.take (i + 1))) = true) := Lib.hid (by rw [HSN.out, h4]; rfl)
                subst h4
                go_wp2_with fail
                go_roundg g
                case measure => omega
                case rel => exact ⟨i + 1, by go_num, by rw [HNT.out], by go_num, by omega, HB5.out⟩
              · have e4 : (k2 == 4) = false := beq_eq_false_iff_ne.2 h4
                have HNF : Hid ((R && asideB (before.take (i + 1))) = false) := Lib.hid (by rw [HSN.out, e3, e4]; rfl)
                go_wp2_with fail
                go_roundg g
                case measure => omega
                case rel => exact ⟨i + 1, by go_num, by rw [HNF.out], by go_num, by omega, HB5.out⟩
  subst hk
  go_wp2_with fail
  with_reducible refine (HRF.out w1 HB1.out).mono ?_
  rintro e w2 ⟨rfl, hb2⟩
  have HB2 := Lib.hid (below_then HB1.out hb2)
  clear hb2 z0 z1 z2 z3 z4 z5 z6
  obtain ⟨z0, z1, z2, z3, z4, z5, z6⟩ := HCELL.out w2 HB2.out
  cases fr with
  | false =>
    obtain ⟨R, hR⟩ : ∃ b, b = false := ⟨_, rfl⟩
    have HRR : Hid ((((1 : Int) == 1) && false && decide (dn ≤ 32)) = R) := Lib.hid (by rw [hR]; rfl)
    have HR0 := Lib.hid hR
    clear hR
    go_wp2_with fail
    go_loopg [3, 4, 5] x2 (fun g s3 s4 s5 wz => ∃ (i : Nat), s3 = .int .i64 (((cn) + i : Nat) : Int) ∧ s4 = .bool (R && asideB (before.take i)) ∧ s5 = .int .i64 (i : Int) ∧ g + i = x2 ∧ Below wA.heap.size wA wz)
    case atStart => exact ⟨0, rfl, by rw [HR0.out]; rfl, rfl, rfl, HB2.out⟩
    case round =>
      obtain ⟨i, rfl, rfl, rfl, hg, hbz⟩ := hrel
      have HBR := Lib.hid hbz
      clear hbz
      clear z0 z1 z2 z3 z4 z5 z6
      obtain ⟨z0, z1, z2, z3, z4, z5, z6⟩ := HCELL.out wr HBR.out
      obtain ⟨c, hc⟩ : ∃ c, (R && asideB (before.take i)) = c := ⟨_, rfl⟩
      rw [hc]
      have HC := Lib.hid hc
      clear hc
      cases gk with
      | zero =>
        obtain rfl : i = x2 := by omega
        have hge : ¬ ((i : Int) < (i : Int)) := by omega
        obtain ⟨R2, hR2⟩ : ∃ b, b = c := ⟨_, rfl⟩
        have HR2 : Hid (R2 = (R && asideB before)) := Lib.hid (by rw [hR2, ← HC.out, List.take_of_length_le (by have := HX2.out; omega)])
        obtain ⟨c2, hc2⟩ : ∃ z, cn + i = z := ⟨_, rfl⟩
        rw [← hR2, hc2]
        have HC2 := Lib.hid hc2
        have hc2l : c2 ≤ 2000000 := by omega
        clear hR2 HC hc2
        go_wp2_with fail
        go_loopg [3, 4, 6] x5 (fun g s3 s4 s5 wz => ∃ (i : Nat), s3 = .int .i64 (((c2) + i : Nat) : Int) ∧ s4 = .bool (R2 && asideB (after.take i)) ∧ s5 = .int .i64 (i : Int) ∧ g + i = x5 ∧ Below wA.heap.size wA wz)
        case atStart => exact ⟨0, rfl, by rw [List.take_zero, show asideB [] = true from rfl, Bool.and_true], rfl, rfl, HBR.out⟩
        case round =>
          obtain ⟨i, rfl, rfl, rfl, hg, hbz⟩ := hrel
          have HBR := Lib.hid hbz
          clear hbz
          clear z0 z1 z2 z3 z4 z5 z6
          obtain ⟨z0, z1, z2, z3, z4, z5, z6⟩ := HCELL.out wr HBR.out
          obtain ⟨c, hc⟩ : ∃ c, (R2 && asideB (after.take i)) = c := ⟨_, rfl⟩
          rw [hc]
          have HC := Lib.hid hc
          clear hc
          cases gk with
          | zero =>
            obtain rfl : i = x5 := by omega
            have hge : ¬ ((i : Int) < (i : Int)) := by omega
            have HC3 : Hid (c = (R2 && asideB after)) := Lib.hid (by rw [← HC.out, List.take_of_length_le (by have := HX5.out; omega)])
            have HBW := Lib.hid (below_then HBA.out HBR.out)
            have HQ3 : Hid (Q = (c && decide (c2 + i ≤ 4096) && decide (ln ≤ 65536))) := Lib.hid (by
              rw [HQ.out, HC3.out, HR2.out, HRR.out, ← HC2.out]
              rw [show ∀ a b d : Nat, a + b + d = b + a + d from fun a b d => by omega])
            clear HQ
            cases c with
            | false =>
              have HF : Hid (Q = false) := Lib.hid (by rw [HQ3.out]; rfl)
              go_wp2_with fail
              go_ret
              exact ⟨by rw [HF.out]; rfl, HBW.out⟩
            | true =>
              obtain ⟨c4, hc4⟩ : ∃ z, c2 + i = z := ⟨_, rfl⟩
              rw [hc4] at HQ3 ⊢
              clear hc4
              by_cases hn : c4 ≤ 4096
              · have hnI : (c4 : Int) ≤ 4096 := by omega
                have HWR := Lib.hid (HDC.out wr HBW.out)
                go_wp2_with fail
                with_reducible refine HWR.out.mono ?_
                rintro e w9 ⟨rfl, hb9⟩
                have HB9 := Lib.hid (below_then HBW.out hb9)
                clear hb9 HWR z0 z1 z2 z3 z4 z5 z6
                by_cases hl : ln ≤ 65536
                · have HF : Hid (Q = true) := Lib.hid (by rw [HQ3.out, decide_eq_true hn, decide_eq_true hl]; rfl)
                  have hlI : (WZ.size : Int) ≤ 65536 := by have := HWZ.out; omega
                  have hlD : decide ((WZ.size : Int) ≤ 65536) = true := decide_eq_true hlI
                  go_wp2_with fail
                  go_ret
                  exact ⟨by rw [HF.out]; rfl, HB9.out⟩
                · have HF : Hid (Q = false) := Lib.hid (by rw [HQ3.out, decide_eq_true hn, decide_eq_false hl]; rfl)
                  have hlI : ¬ ((WZ.size : Int) ≤ 65536) := by have := HWZ.out; omega
                  have hlD : decide ((WZ.size : Int) ≤ 65536) = false := decide_eq_false hlI
                  go_wp2_with fail
                  go_ret
                  exact ⟨by rw [HF.out]; rfl, HB9.out⟩
              · have hnI : ¬ ((c4 : Int) ≤ 4096) := by omega
                have HF : Hid (Q = false) := Lib.hid (by rw [HQ3.out, decide_eq_false hn]; rfl)
                go_wp2_with fail
                go_ret
                exact ⟨by rw [HF.out]; rfl, HBW.out⟩
          | succ g =>
            have hlt : (i : Int) < (x5 : Int) := by omega
            have hi0 : (0 : Int) ≤ (i : Int) := by omega
            have hin : i < x5 := by omega
            have hadd : IntKind.i64.wrap ((i : Int) + 1) = ((i + 1 : Nat) : Int) := IntWalk.i64_in _ (by omega)
            have haddn : IntKind.i64.wrap (((c2 + i : Nat) : Int) + 1) = ((((c2 + i : Nat)) + 1 : Nat) : Int) := by rw [IntWalk.i64_in _ (by omega)]; omega
            obtain ⟨t2, ht2, b3, o3, r2, hp2, _, hnr2, hnd2⟩ := HKA.out.at (kidPs_at b4 o4 x5 i (by omega))
            obtain ⟨rfl, rfl⟩ : b4 = b3 ∧ o4 + i * 5 = o3 := by injection hp2 with h1 h2; exact ⟨h1, h2⟩
            have HSN : Hid ((R2 && asideB (after.take (i + 1))) = (c && ((t2.kind == 3 || t2.kind == 4) && fairT t2))) := Lib.hid (by rw [aside_snoc ht2, ← HC.out, Bool.and_assoc])
            cases c with
            | false =>
              have HNF : Hid ((R2 && asideB (after.take (i + 1))) = false) := Lib.hid (by rw [HSN.out]; rfl)
              clear hnr2 hnd2 hp2 ht2
              go_wp2_with fail
              go_roundg g
              case measure => omega
              case rel => exact ⟨i + 1, by go_num, by rw [HNF.out], by go_num, by omega, HBR.out⟩
            | true =>
              have HNR := Lib.hid hnr2
              obtain ⟨y0, y1, y2, y3, y4⟩ := hnr2.keep (keeps_below (below_then HBA.out HBR.out) Non) (fun h => h)
              have hnd3 := hnd2.keep (keeps_below (below_then HBA.out HBR.out) Non) (fun _ _ h => h) (fun _ h => h)
              have hkd := hnd2.kids.1
              obtain ⟨k2, n2, x2', av2, kv2⟩ := r2
              dsimp only at y0 y1 y2 y3 y4 hkd
              obtain rfl : x4 = some ⟨b4, o4, none⟩ := by
                rcases HK3.out with h1 | h1
                · omega
                · exact h1
              have HC2 := HIH.out _ _ _ hnd3 (by have h1 := sz_mem ht2; have h2 := HZA.out; omega)
              unfold nodeV at HC2
              dsimp only at HC2
              obtain ⟨sn2, hsn2⟩ : ∃ s, strB n2 = s := ⟨_, rfl⟩
              obtain ⟨st2, hst2⟩ : ∃ s, strB x2' = s := ⟨_, rfl⟩
              rw [hsn2] at y1 HC2
              rw [hst2] at y2 HC2
              obtain ⟨f2, hf2⟩ : ∃ f, fairT t2 = f := ⟨_, rfl⟩
              rw [hf2] at HC2 HSN
              rw [← hkd] at HSN
              have HC2 := Lib.hid HC2
              clear hnr2 hnd2 hnd3 hsn2 hst2 hf2 hp2 ht2 hkd
              go_wp2_with fail
              with_reducible refine HC2.out.mono ?_
              rintro e w5 ⟨rfl, hb5⟩
              have HB5 := Lib.hid (below_then HBR.out hb5)
              clear hb5 HC2 y0 y1 y2 y3 y4 z0 z1 z2 z3 z4 z5 z6
              obtain ⟨z0, z1, z2, z3, z4, z5, z6⟩ := HCELL.out w5 HB5.out
              obtain ⟨y0, y1, y2, y3, y4⟩ := HNR.out.keep (keeps_below (below_then HBA.out HB5.out) Non) (fun h => h)
              clear y1 y2 y3 y4
              cases f2 with
              | false =>
                have HNF : Hid ((R2 && asideB (after.take (i + 1))) = false) := Lib.hid (by rw [HSN.out, Bool.and_false, Bool.and_false])
                go_wp2_with fail
                go_roundg g
                case measure => omega
                case rel => exact ⟨i + 1, by go_num, by rw [HNF.out], by go_num, by omega, HB5.out⟩
              | true =>
                by_cases h3 : k2 = 3
                · have HNT : Hid ((R2 && asideB (after.take (i + 1))) = true) := Lib.hid (by rw [HSN.out, h3]; rfl)
                  subst h3
                  go_wp2_with fail
                  go_roundg g
                  case measure => omega
                  case rel => exact ⟨i + 1, by go_num, by rw [HNT.out], by go_num, by omega, HB5.out⟩
                · have e3 : (k2 == 3) = false := beq_eq_false_iff_ne.2 h3
                  by_cases h4 : k2 = 4
                  · have HNT : Hid ((R2 && asideB (after.take (i + 1))) = true) := Lib.hid (by rw [HSN.out, h4]; rfl)
                    subst h4
                    go_wp2_with fail
                    go_roundg g
                    case measure => omega
                    case rel => exact ⟨i + 1, by go_num, by rw [HNT.out], by go_num, by omega, HB5.out⟩
                  · have e4 : (k2 == 4) = false := beq_eq_false_iff_ne.2 h4
                    have HNF : Hid ((R2 && asideB (after.take (i + 1))) = false) := Lib.hid (by rw [HSN.out, e3, e4]; rfl)
                    go_wp2_with fail
                    go_roundg g
                    case measure => omega
                    case rel => exact ⟨i + 1, by go_num, by rw [HNF.out], by go_num, by omega, HB5.out⟩
      | succ g =>
        have hlt : (i : Int) < (x2 : Int) := by omega
        have hi0 : (0 : Int) ≤ (i : Int) := by omega
        have hin : i < x2 := by omega
        have hadd : IntKind.i64.wrap ((i : Int) + 1) = ((i + 1 : Nat) : Int) := IntWalk.i64_in _ (by omega)
        have haddn : IntKind.i64.wrap (((cn + i : Nat) : Int) + 1) = ((((cn + i : Nat)) + 1 : Nat) : Int) := by rw [IntWalk.i64_in _ (by omega)]; omega
        obtain ⟨t2, ht2, b3, o3, r2, hp2, _, hnr2, hnd2⟩ := HKB.out.at (kidPs_at b2 o2 x2 i (by omega))
        obtain ⟨rfl, rfl⟩ : b2 = b3 ∧ o2 + i * 5 = o3 := by injection hp2 with h1 h2; exact ⟨h1, h2⟩
        have HSN : Hid ((R && asideB (before.take (i + 1))) = (c && ((t2.kind == 3 || t2.kind == 4) && fairT t2))) := Lib.hid (by rw [aside_snoc ht2, ← HC.out, Bool.and_assoc])
        cases c with
        | false =>
          have HNF : Hid ((R && asideB (before.take (i + 1))) = false) := Lib.hid (by rw [HSN.out]; rfl)
          clear hnr2 hnd2 hp2 ht2
          go_wp2_with fail
          go_roundg g
          case measure => omega
          case rel => exact ⟨i + 1, by go_num, by rw [HNF.out], by go_num, by omega, HBR.out⟩
        | true =>
          have HNR := Lib.hid hnr2
          obtain ⟨y0, y1, y2, y3, y4⟩ := hnr2.keep (keeps_below (below_then HBA.out HBR.out) Non) (fun h => h)
          have hnd3 := hnd2.keep (keeps_below (below_then HBA.out HBR.out) Non) (fun _ _ h => h) (fun _ h => h)
          have hkd := hnd2.kids.1
          obtain ⟨k2, n2, x2', av2, kv2⟩ := r2
          dsimp only at y0 y1 y2 y3 y4 hkd
          obtain rfl : x1 = some ⟨b2, o2, none⟩ := by
            rcases HK1.out with h1 | h1
            · omega
            · exact h1
          have HC2 := HIH.out _ _ _ hnd3 (by have h1 := sz_mem ht2; have h2 := HZB.out; omega)
          unfold nodeV at HC2
          dsimp only at HC2
          obtain ⟨sn2, hsn2⟩ : ∃ s, strB n2 = s := ⟨_, rfl⟩
          obtain ⟨st2, hst2⟩ : ∃ s, strB x2' = s := ⟨_, rfl⟩
          rw [hsn2] at y1 HC2
          rw [hst2] at y2 HC2
          obtain ⟨f2, hf2⟩ : ∃ f, fairT t2 = f := ⟨_, rfl⟩
          rw [hf2] at HC2 HSN
          rw [← hkd] at HSN
          have HC2 := Lib.hid HC2
          clear hnr2 hnd2 hnd3 hsn2 hst2 hf2 hp2 ht2 hkd
          go_wp2_with fail
          with_reducible refine HC2.out.mono ?_
          rintro e w5 ⟨rfl, hb5⟩
          have HB5 := Lib.hid (below_then HBR.out hb5)
          clear hb5 HC2 y0 y1 y2 y3 y4 z0 z1 z2 z3 z4 z5 z6
          obtain ⟨z0, z1, z2, z3, z4, z5, z6⟩ := HCELL.out w5 HB5.out
          obtain ⟨y0, y1, y2, y3, y4⟩ := HNR.out.keep (keeps_below (below_then HBA.out HB5.out) Non) (fun h => h)
          clear y1 y2 y3 y4
          cases f2 with
          | false =>
            have HNF : Hid ((R && asideB (before.take (i + 1))) = false) := Lib.hid (by rw [HSN.out, Bool.and_false, Bool.and_false])
            go_wp2_with fail
            go_roundg g
            case measure => omega
            case rel => exact ⟨i + 1, by go_num, by rw [HNF.out], by go_num, by omega, HB5.out⟩
          | true =>
            by_cases h3 : k2 = 3
            · have HNT : Hid ((R && asideB (before.take (i + 1))) = true) := Lib.hid (by rw [HSN.out, h3]; rfl)
              subst h3
              go_wp2_with fail
              go_roundg g
              case measure => omega
              case rel => exact ⟨i + 1, by go_num, by rw [HNT.out], by go_num, by omega, HB5.out⟩
            · have e3 : (k2 == 3) = false := beq_eq_false_iff_ne.2 h3
              by_cases h4 : k2 = 4
              · have HNT : Hid ((R && asideB (before.take (i + 1))) = true) := Lib.hid (by rw [HSN.out, h4]; rfl)
                subst h4
                go_wp2_with fail
                go_roundg g
                case measure => omega
                case rel => exact ⟨i + 1, by go_num, by rw [HNT.out], by go_num, by omega, HB5.out⟩
              · have e4 : (k2 == 4) = false := beq_eq_false_iff_ne.2 h4
                have HNF : Hid ((R && asideB (before.take (i + 1))) = false) := Lib.hid (by rw [HSN.out, e3, e4]; rfl)
                go_wp2_with fail
                go_roundg g
                case measure => omega
                case rel => exact ⟨i + 1, by go_num, by rw [HNF.out], by go_num, by omega, HB5.out⟩
  | true =>
    go_wp2_with fail
    with_reducible refine (HRD.out w2 HB2.out).mono ?_
    rintro e w3 ⟨rfl, hb3⟩
    have HB3 := Lib.hid (below_then HB2.out hb3)
    clear hb3 z0 z1 z2 z3 z4 z5 z6
    obtain ⟨z0, z1, z2, z3, z4, z5, z6⟩ := HCELL.out w3 HB3.out
    obtain ⟨R, hR⟩ : ∃ b, b = decide (dn ≤ 32) := ⟨_, rfl⟩
    have hdd : decide ((dn : Int) ≤ 32) = R := by rw [hR]; exact decide_eq_decide.2 (by omega)
    have HRR : Hid ((((1 : Int) == 1) && true && decide (dn ≤ 32)) = R) := Lib.hid (by rw [hR]; rfl)
    clear hR
    go_wp2_with fail
    go_loopg [3, 4, 5] x2 (fun g s3 s4 s5 wz => ∃ (i : Nat), s3 = .int .i64 (((cn) + i : Nat) : Int) ∧ s4 = .bool (R && asideB (before.take i)) ∧ s5 = .int .i64 (i : Int) ∧ g + i = x2 ∧ Below wA.heap.size wA wz)
    case atStart => exact ⟨0, rfl, by rw [List.take_zero, show asideB [] = true from rfl, Bool.and_true], rfl, rfl, HB3.out⟩
    case round =>
      obtain ⟨i, rfl, rfl, rfl, hg, hbz⟩ := hrel
      have HBR := Lib.hid hbz
      clear hbz
      clear z0 z1 z2 z3 z4 z5 z6
      obtain ⟨z0, z1, z2, z3, z4, z5, z6⟩ := HCELL.out wr HBR.out
      obtain ⟨c, hc⟩ : ∃ c, (R && asideB (before.take i)) = c := ⟨_, rfl⟩
      rw [hc]
      have HC := Lib.hid hc
      clear hc
      cases gk with
      | zero =>
        obtain rfl : i = x2 := by omega
        have hge : ¬ ((i : Int) < (i : Int)) := by omega
        obtain ⟨R2, hR2⟩ : ∃ b, b = c := ⟨_, rfl⟩
        have HR2 : Hid (R2 = (R && asideB before)) := Lib.hid (by rw [hR2, ← HC.out, List.take_of_length_le (by have := HX2.out; omega)])
        obtain ⟨c2, hc2⟩ : ∃ z, cn + i = z := ⟨_, rfl⟩
        rw [← hR2, hc2]
        have HC2 := Lib.hid hc2
        have hc2l : c2 ≤ 2000000 := by omega
        clear hR2 HC hc2
        go_wp2_with fail
        go_loopg [3, 4, 6] x5 (fun g s3 s4 s5 wz => ∃ (i : Nat), s3 = .int .i64 (((c2) + i : Nat) : Int) ∧ s4 = .bool (R2 && asideB (after.take i)) ∧ s5 = .int .i64 (i : Int) ∧ g + i = x5 ∧ Below wA.heap.size wA wz)
        case atStart => exact ⟨0, rfl, by rw [List.take_zero, show asideB [] = true from rfl, Bool.and_true], rfl, rfl, HBR.out⟩
        case round =>
          obtain ⟨i, rfl, rfl, rfl, hg, hbz⟩ := hrel
          have HBR := Lib.hid hbz
          clear hbz
          clear z0 z1 z2 z3 z4 z5 z6
          obtain ⟨z0, z1, z2, z3, z4, z5, z6⟩ := HCELL.out wr HBR.out
          obtain ⟨c, hc⟩ : ∃ c, (R2 && asideB (after.take i)) = c := ⟨_, rfl⟩
          rw [hc]
          have HC := Lib.hid hc
          clear hc
          cases gk with
          | zero =>
            obtain rfl : i = x5 := by omega
            have hge : ¬ ((i : Int) < (i : Int)) := by omega
            have HC3 : Hid (c = (R2 && asideB after)) := Lib.hid (by rw [← HC.out, List.take_of_length_le (by have := HX5.out; omega)])
            have HBW := Lib.hid (below_then HBA.out HBR.out)
            have HQ3 : Hid (Q = (c && decide (c2 + i ≤ 4096) && decide (ln ≤ 65536))) := Lib.hid (by
              rw [HQ.out, HC3.out, HR2.out, HRR.out, ← HC2.out]
              rw [show ∀ a b d : Nat, a + b + d = b + a + d from fun a b d => by omega])
            clear HQ
            cases c with
            | false =>
              have HF : Hid (Q = false) := Lib.hid (by rw [HQ3.out]; rfl)
              go_wp2_with fail
              go_ret
              exact ⟨by rw [HF.out]; rfl, HBW.out⟩
            | true =>
              obtain ⟨c4, hc4⟩ : ∃ z, c2 + i = z := ⟨_, rfl⟩
              rw [hc4] at HQ3 ⊢
              clear hc4
              by_cases hn : c4 ≤ 4096
              · have hnI : (c4 : Int) ≤ 4096 := by omega
                have HWR := Lib.hid (HDC.out wr HBW.out)
                go_wp2_with fail
                with_reducible refine HWR.out.mono ?_
                rintro e w9 ⟨rfl, hb9⟩
                have HB9 := Lib.hid (below_then HBW.out hb9)
                clear hb9 HWR z0 z1 z2 z3 z4 z5 z6
                by_cases hl : ln ≤ 65536
                · have HF : Hid (Q = true) := Lib.hid (by rw [HQ3.out, decide_eq_true hn, decide_eq_true hl]; rfl)
                  have hlI : (WZ.size : Int) ≤ 65536 := by have := HWZ.out; omega
                  have hlD : decide ((WZ.size : Int) ≤ 65536) = true := decide_eq_true hlI
                  go_wp2_with fail
                  go_ret
                  exact ⟨by rw [HF.out]; rfl, HB9.out⟩
                · have HF : Hid (Q = false) := Lib.hid (by rw [HQ3.out, decide_eq_true hn, decide_eq_false hl]; rfl)
                  have hlI : ¬ ((WZ.size : Int) ≤ 65536) := by have := HWZ.out; omega
                  have hlD : decide ((WZ.size : Int) ≤ 65536) = false := decide_eq_false hlI
                  go_wp2_with fail
                  go_ret
                  exact ⟨by rw [HF.out]; rfl, HB9.out⟩
              · have hnI : ¬ ((c4 : Int) ≤ 4096) := by omega
                have HF : Hid (Q = false) := Lib.hid (by rw [HQ3.out, decide_eq_false hn]; rfl)
                go_wp2_with fail
                go_ret
                exact ⟨by rw [HF.out]; rfl, HBW.out⟩
          | succ g =>
            have hlt : (i : Int) < (x5 : Int) := by omega
            have hi0 : (0 : Int) ≤ (i : Int) := by omega
            have hin : i < x5 := by omega
            have hadd : IntKind.i64.wrap ((i : Int) + 1) = ((i + 1 : Nat) : Int) := IntWalk.i64_in _ (by omega)
            have haddn : IntKind.i64.wrap (((c2 + i : Nat) : Int) + 1) = ((((c2 + i : Nat)) + 1 : Nat) : Int) := by rw [IntWalk.i64_in _ (by omega)]; omega
            obtain ⟨t2, ht2, b3, o3, r2, hp2, _, hnr2, hnd2⟩ := HKA.out.at (kidPs_at b4 o4 x5 i (by omega))
            obtain ⟨rfl, rfl⟩ : b4 = b3 ∧ o4 + i * 5 = o3 := by injection hp2 with h1 h2; exact ⟨h1, h2⟩
            have HSN : Hid ((R2 && asideB (after.take (i + 1))) = (c && ((t2.kind == 3 || t2.kind == 4) && fairT t2))) := Lib.hid (by rw [aside_snoc ht2, ← HC.out, Bool.and_assoc])
            cases c with
            | false =>
              have HNF : Hid ((R2 && asideB (after.take (i + 1))) = false) := Lib.hid (by rw [HSN.out]; rfl)
              clear hnr2 hnd2 hp2 ht2
              go_wp2_with fail
              go_roundg g
              case measure => omega
              case rel => exact ⟨i + 1, by go_num, by rw [HNF.out], by go_num, by omega, HBR.out⟩
            | true =>
              have HNR := Lib.hid hnr2
              obtain ⟨y0, y1, y2, y3, y4⟩ := hnr2.keep (keeps_below (below_then HBA.out HBR.out) Non) (fun h => h)
              have hnd3 := hnd2.keep (keeps_below (below_then HBA.out HBR.out) Non) (fun _ _ h => h) (fun _ h => h)
              have hkd := hnd2.kids.1
              obtain ⟨k2, n2, x2', av2, kv2⟩ := r2
              dsimp only at y0 y1 y2 y3 y4 hkd
              obtain rfl : x4 = some ⟨b4, o4, none⟩ := by
                rcases HK3.out with h1 | h1
                · omega
                · exact h1
              have HC2 := HIH.out _ _ _ hnd3 (by have h1 := sz_mem ht2; have h2 := HZA.out; omega)
              unfold nodeV at HC2
              dsimp only at HC2
              obtain ⟨sn2, hsn2⟩ : ∃ s, strB n2 = s := ⟨_, rfl⟩
              obtain ⟨st2, hst2⟩ : ∃ s, strB x2' = s := ⟨_, rfl⟩
              rw [hsn2] at y1 HC2
              rw [hst2] at y2 HC2
              obtain ⟨f2, hf2⟩ : ∃ f, fairT t2 = f := ⟨_, rfl⟩
              rw [hf2] at HC2 HSN
              rw [← hkd] at HSN
              have HC2 := Lib.hid HC2
              clear hnr2 hnd2 hnd3 hsn2 hst2 hf2 hp2 ht2 hkd
              go_wp2_with fail
              with_reducible refine HC2.out.mono ?_
              rintro e w5 ⟨rfl, hb5⟩
              have HB5 := Lib.hid (below_then HBR.out hb5)
              clear hb5 HC2 y0 y1 y2 y3 y4 z0 z1 z2 z3 z4 z5 z6
              obtain ⟨z0, z1, z2, z3, z4, z5, z6⟩ := HCELL.out w5 HB5.out
              obtain ⟨y0, y1, y2, y3, y4⟩ := HNR.out.keep (keeps_below (below_then HBA.out HB5.out) Non) (fun h => h)
              clear y1 y2 y3 y4
              cases f2 with
              | false =>
                have HNF : Hid ((R2 && asideB (after.take (i + 1))) = false) := Lib.hid (by rw [HSN.out, Bool.and_false, Bool.and_false])
                go_wp2_with fail
                go_roundg g
                case measure => omega
                case rel => exact ⟨i + 1, by go_num, by rw [HNF.out], by go_num, by omega, HB5.out⟩
              | true =>
                by_cases h3 : k2 = 3
                · have HNT : Hid ((R2 && asideB (after.take (i + 1))) = true) := Lib.hid (by rw [HSN.out, h3]; rfl)
                  subst h3
                  go_wp2_with fail
                  go_roundg g
                  case measure => omega
                  case rel => exact ⟨i + 1, by go_num, by rw [HNT.out], by go_num, by omega, HB5.out⟩
                · have e3 : (k2 == 3) = false := beq_eq_false_iff_ne.2 h3
                  by_cases h4 : k2 = 4
                  · have HNT : Hid ((R2 && asideB (after.take (i + 1))) = true) := Lib.hid (by rw [HSN.out, h4]; rfl)
                    subst h4
                    go_wp2_with fail
                    go_roundg g
                    case measure => omega
                    case rel => exact ⟨i + 1, by go_num, by rw [HNT.out], by go_num, by omega, HB5.out⟩
                  · have e4 : (k2 == 4) = false := beq_eq_false_iff_ne.2 h4
                    have HNF : Hid ((R2 && asideB (after.take (i + 1))) = false) := Lib.hid (by rw [HSN.out, e3, e4]; rfl)
                    go_wp2_with fail
                    go_roundg g
                    case measure => omega
                    case rel => exact ⟨i + 1, by go_num, by rw [HNF.out], by go_num, by omega, HB5.out⟩
      | succ g =>
        have hlt : (i : Int) < (x2 : Int) := by omega
        have hi0 : (0 : Int) ≤ (i : Int) := by omega
        have hin : i < x2 := by omega
        have hadd : IntKind.i64.wrap ((i : Int) + 1) = ((i + 1 : Nat) : Int) := IntWalk.i64_in _ (by omega)
        have haddn : IntKind.i64.wrap (((cn + i : Nat) : Int) + 1) = ((((cn + i : Nat)) + 1 : Nat) : Int) := by rw [IntWalk.i64_in _ (by omega)]; omega
        obtain ⟨t2, ht2, b3, o3, r2, hp2, _, hnr2, hnd2⟩ := HKB.out.at (kidPs_at b2 o2 x2 i (by omega))
        obtain ⟨rfl, rfl⟩ : b2 = b3 ∧ o2 + i * 5 = o3 := by injection hp2 with h1 h2; exact ⟨h1, h2⟩
        have HSN : Hid ((R && asideB (before.take (i + 1))) = (c && ((t2.kind == 3 || t2.kind == 4) && fairT t2))) := Lib.hid (by rw [aside_snoc ht2, ← HC.out, Bool.and_assoc])
        cases c with
        | false =>
          have HNF : Hid ((R && asideB (before.take (i + 1))) = false) := Lib.hid (by rw [HSN.out]; rfl)
          clear hnr2 hnd2 hp2 ht2
          go_wp2_with fail
          go_roundg g
          case measure => omega
          case rel => exact ⟨i + 1, by go_num, by rw [HNF.out], by go_num, by omega, HBR.out⟩
        | true =>
          have HNR := Lib.hid hnr2
          obtain ⟨y0, y1, y2, y3, y4⟩ := hnr2.keep (keeps_below (below_then HBA.out HBR.out) Non) (fun h => h)
          have hnd3 := hnd2.keep (keeps_below (below_then HBA.out HBR.out) Non) (fun _ _ h => h) (fun _ h => h)
          have hkd := hnd2.kids.1
          obtain ⟨k2, n2, x2', av2, kv2⟩ := r2
          dsimp only at y0 y1 y2 y3 y4 hkd
          obtain rfl : x1 = some ⟨b2, o2, none⟩ := by
            rcases HK1.out with h1 | h1
            · omega
            · exact h1
          have HC2 := HIH.out _ _ _ hnd3 (by have h1 := sz_mem ht2; have h2 := HZB.out; omega)
          unfold nodeV at HC2
          dsimp only at HC2
          obtain ⟨sn2, hsn2⟩ : ∃ s, strB n2 = s := ⟨_, rfl⟩
          obtain ⟨st2, hst2⟩ : ∃ s, strB x2' = s := ⟨_, rfl⟩
          rw [hsn2] at y1 HC2
          rw [hst2] at y2 HC2
          obtain ⟨f2, hf2⟩ : ∃ f, fairT t2 = f := ⟨_, rfl⟩
          rw [hf2] at HC2 HSN
          rw [← hkd] at HSN
          have HC2 := Lib.hid HC2
          clear hnr2 hnd2 hnd3 hsn2 hst2 hf2 hp2 ht2 hkd
          go_wp2_with fail
          with_reducible refine HC2.out.mono ?_
          rintro e w5 ⟨rfl, hb5⟩
          have HB5 := Lib.hid (below_then HBR.out hb5)
          clear hb5 HC2 y0 y1 y2 y3 y4 z0 z1 z2 z3 z4 z5 z6
          obtain ⟨z0, z1, z2, z3, z4, z5, z6⟩ := HCELL.out w5 HB5.out
          obtain ⟨y0, y1, y2, y3, y4⟩ := HNR.out.keep (keeps_below (below_then HBA.out HB5.out) Non) (fun h => h)
          clear y1 y2 y3 y4
          cases f2 with
          | false =>
            have HNF : Hid ((R && asideB (before.take (i + 1))) = false) := Lib.hid (by rw [HSN.out, Bool.and_false, Bool.and_false])
            go_wp2_with fail
            go_roundg g
            case measure => omega
            case rel => exact ⟨i + 1, by go_num, by rw [HNF.out], by go_num, by omega, HB5.out⟩
          | true =>
            by_cases h3 : k2 = 3
            · have HNT : Hid ((R && asideB (before.take (i + 1))) = true) := Lib.hid (by rw [HSN.out, h3]; rfl)
              subst h3
              go_wp2_with fail
              go_roundg g
              case measure => omega
              case rel => exact ⟨i + 1, by go_num, by rw [HNT.out], by go_num, by omega, HB5.out⟩
            · have e3 : (k2 == 3) = false := beq_eq_false_iff_ne.2 h3
              by_cases h4 : k2 = 4
              · have HNT : Hid ((R && asideB (before.take (i + 1))) = true) := Lib.hid (by rw [HSN.out, h4]; rfl)
                subst h4
                go_wp2_with fail
                go_roundg g
                case measure => omega
                case rel => exact ⟨i + 1, by go_num, by rw [HNT.out], by go_num, by omega, HB5.out⟩
              · have e4 : (k2 == 4) = false := beq_eq_false_iff_ne.2 h4
                have HNF : Hid ((R && asideB (before.take (i + 1))) = false) := Lib.hid (by rw [HSN.out, e3, e4]; rfl)
                go_wp2_with fail
                go_roundg g
                case measure => omega
                case rel => exact ⟨i + 1, by go_num, by rw [HNF.out], by go_num, by omega, HB5.out⟩
end Go.Proofs.YtocnedpclllbhaaGreatDoor
