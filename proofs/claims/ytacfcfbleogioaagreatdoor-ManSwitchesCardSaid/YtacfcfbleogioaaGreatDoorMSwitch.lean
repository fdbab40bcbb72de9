/-
  The walk of the law ManSwitches at every two manifests and all troubles. Conditions: the slices lead to what they are said to, no longer than 2 to the 40; the library's table of powers of ten and its two errors are laid; errors.errorType holds its handle.
-/
import Derived.Test.YtacfcfbleogioaaGreatDoorMGreat
namespace Go.Proofs.YtacfcfbleogioaaGreatDoor
open Go.RowKit Go.Lib Go.Joins

theorem i_at {i : Nat} (h : i < 2) : i = 0 ∨ i = 1 := by omega
def swA (i : Nat) : List Int := [(i : Int), 5, 9]

set_option maxRecDepth 100000 in
set_option maxHeartbeats 16000000 in
theorem law_switches (ag al : Int) (aa : Option Addr) (as1 : List Int) (na ca : Nat) (bg bl : Int) (ba : Option Addr) (bs1 : List Int) (nb cb : Nat) (fa : Option Addr) (fl : List Tro) (nf cf : Nat) (ga : Option Addr) (gl : List Tro) (ng cg : Nat) (w : World)
    (ht : Tab w) (he : Errs w) (hgd : Handle w) (hra : IRow w (Was0 w) aa as1) (hna : as1.length = na) (hba : na ≤ 140737488355328) (h0a : aa = none → ca = 0) (hrb : IRow w (Was0 w) ba bs1) (hnb : bs1.length = nb) (hbb : nb ≤ 140737488355328) (h0b : ba = none → cb = 0)
    (hrf : RowT w (Was0 w) fa fl) (hnf : fl.length = nf) (hbf : nf ≤ 140737488355328) (hwf : ∀ t ∈ fl, (Lit.int .i64 t.at_).wf = true) (hrg : RowT w (Was0 w) ga gl) (hng : gl.length = ng) (hbg : ng ≤ 140737488355328) (hwg : ∀ t ∈ gl, (Lit.int .i64 t.at_).wf = true) :
    Calls Tryz.prog 4 #[.agg #[.int .i64 ag, .int .i64 al, .slice aa na ca], .agg #[.int .i64 bg, .int .i64 bl, .slice ba nb cb], .agg #[.slice fa nf cf, .slice ga ng cg]] w (Leaves (.bool true) w) := by
  obtain ⟨Wa, hWa⟩ : ∃ W, w.alloc (.cells #[.int .i64 ag, .int .i64 al, .slice aa na ca] 25) = W := ⟨_, rfl⟩
  obtain ⟨Wb, hWb⟩ : ∃ W, Wa.alloc (.cells #[.int .i64 bg, .int .i64 bl, .slice ba nb cb] 25) = W := ⟨_, rfl⟩
  obtain ⟨W0, hW0⟩ : ∃ W, Wb.alloc (.cells #[.slice fa nf cf, .slice ga ng cg] 56) = W := ⟨_, rfl⟩
  have hba1 : Below w.heap.size w Wa := by rw [← hWa]; exact (Below.refl _ _).alloc (Nat.le_refl _) _
  have hbb1 : Below Wa.heap.size Wa Wb := by rw [← hWb]; exact (Below.refl _ _).alloc (Nat.le_refl _) _
  have hbf1 : Below Wb.heap.size Wb W0 := by rw [← hW0]; exact (Below.refl _ _).alloc (Nat.le_refl _) _
  have hxa := block_below (below_then hbb1 hbf1) (show Wa.heap[w.heap.size]? = some (.cells #[.int .i64 ag, .int .i64 al, .slice aa na ca] 25 (0, 0)) by rw [← hWa]; exact heap_alloc_new _ _)
  have hxb := block_below hbf1 (show Wb.heap[Wa.heap.size]? = some (.cells #[.int .i64 bg, .int .i64 bl, .slice ba nb cb] 25 (0, 0)) by rw [← hWb]; exact heap_alloc_new _ _)
  have hxf : W0.heap[Wb.heap.size]? = some (.cells #[.slice fa nf cf, .slice ga ng cg] 56 (0, 0)) := by rw [← hW0]; exact heap_alloc_new _ _
  have hb0 := below_then hba1 (below_then hbb1 hbf1)
  have sA : Wa.heap.size = w.heap.size + 1 := by rw [← hWa]; exact alloc_sz _ _
  have sB : Wb.heap.size = w.heap.size + 1 + 1 := by rw [← hWb, alloc_sz, sA]
  rw [sA] at hxb
  rw [sB] at hxf
  have hWW : ((w.alloc (.cells #[.int .i64 ag, .int .i64 al, .slice aa na ca] 25)).alloc (.cells #[.int .i64 bg, .int .i64 bl, .slice ba nb cb] 25)).alloc (.cells #[.slice fa nf cf, .slice ga ng cg] 56) = W0 := by rw [hWa, hWb, hW0]
  have HW0 := Lib.hid hWW
  have HXA := Lib.hid hxa
  have HXB := Lib.hid hxb
  have HXF := Lib.hid hxf
  have HB0 := Lib.hid hb0
  have HTAB := Lib.hid (ht.below hb0)
  have HER := Lib.hid (he.below hb0)
  have HGD := Lib.hid (hgd.below hb0)
  have HRA := Lib.hid (hra.below hb0)
  have HRB := Lib.hid (hrb.below hb0)
  have HRF := Lib.hid (hrf.keep (keeps_below hb0 Non) (fun _ _ h => h))
  have HRG := Lib.hid (hrg.keep (keeps_below hb0 Non) (fun _ _ h => h))
  have HNA := Lib.hid hna
  have HNB := Lib.hid hnb
  have HNF := Lib.hid hnf
  have HNG := Lib.hid hng
  have HWF := Lib.hid hwf
  have HWG := Lib.hid hwg
  have HCA : Hid (∀ W, Below W0.heap.size W0 W → W.cell? ⟨w.heap.size, 0, none⟩ = some (.int .i64 ag) ∧ W.cell? ⟨w.heap.size, 1, none⟩ = some (.int .i64 al) ∧ W.cell? ⟨w.heap.size, 2, none⟩ = some (.slice aa na ca)) := Lib.hid (fun W hb => by
    have h := block_below hb HXA.out
    exact ⟨(cell_of_block h 0).trans rfl, (cell_of_block h 1).trans rfl, (cell_of_block h 2).trans rfl⟩)
  have HCB : Hid (∀ W, Below W0.heap.size W0 W → W.cell? ⟨w.heap.size + 1, 0, none⟩ = some (.int .i64 bg) ∧ W.cell? ⟨w.heap.size + 1, 1, none⟩ = some (.int .i64 bl) ∧ W.cell? ⟨w.heap.size + 1, 2, none⟩ = some (.slice ba nb cb)) := Lib.hid (fun W hb => by
    have h := block_below hb HXB.out
    exact ⟨(cell_of_block h 0).trans rfl, (cell_of_block h 1).trans rfl, (cell_of_block h 2).trans rfl⟩)
  have HCF : Hid (∀ W, Below W0.heap.size W0 W → W.cell? ⟨w.heap.size + 1 + 1, 0, none⟩ = some (.slice fa nf cf) ∧ W.cell? ⟨w.heap.size + 1 + 1, 1, none⟩ = some (.slice ga ng cg)) := Lib.hid (fun W hb => by
    have h := block_below hb HXF.out
    exact ⟨(cell_of_block h 0).trans rfl, (cell_of_block h 1).trans rfl⟩)
  have HMA : Hid (∀ W, Below W0.heap.size W0 W → Calls Tryz.prog 27 #[.agg #[.int .i64 ag, .int .i64 al, .slice aa na ca]] W (Leaves (.bool (mayM ⟨ag, al, as1⟩)) W)) := Lib.hid (fun W hb => rmay8_calls ag al aa as1 na ca W (HRA.out.below hb) HNA.out (by omega))
  have HMB : Hid (∀ W, Below W0.heap.size W0 W → Calls Tryz.prog 27 #[.agg #[.int .i64 bg, .int .i64 bl, .slice ba nb cb]] W (Leaves (.bool (mayM ⟨bg, bl, bs1⟩)) W)) := Lib.hid (fun W hb => rmay8_calls bg bl ba bs1 nb cb W (HRB.out.below hb) HNB.out (by omega))
  clear hWa hWb hW0 hWW hba1 hbb1 hbf1 hxa hxb hxf hb0 sA sB ht he hgd hra hrb hrf hrg hna hnb hnf hng hwf hwg
  go_enter Tryz.func4, Tryz.ntmps4
  go_wp2_with fail
  rw [HW0.out]
  with_reducible refine (awake8_calls W0 HTAB.out).mono ?_
  rintro e w1 ⟨rfl, hb1⟩
  have HB1 := Lib.hid hb1
  obtain ⟨a0, a1, a2⟩ := HCA.out _ hb1
  have hm1 := HMA.out _ hb1
  have HM1 := Lib.hid hm1
  clear hb1 hm1
  obtain ⟨qa, hqa⟩ : ∃ q, mayM ⟨ag, al, as1⟩ = q := ⟨_, rfl⟩
  obtain ⟨qb, hqb⟩ : ∃ q, mayM ⟨bg, bl, bs1⟩ = q := ⟨_, rfl⟩
  rw [hqa] at HM1
  rw [hqb] at HMB
  have HQA := Lib.hid hqa
  have HQB := Lib.hid hqb
  clear hqa hqb
  go_wp2_with fail
  with_reducible refine HM1.out.mono ?_
  rintro e w2 ⟨rfl, hb2⟩
  have HB2 := Lib.hid (below_then HB1.out hb2)
  have HB02 := Lib.hid (below_then HB0.out HB2.out)
  clear hb2 a0 a1 a2 HM1
  obtain ⟨b0, b1, b2⟩ := HCB.out _ HB2.out
  cases qa with
  | false =>
    go_wp2
    go_ret
    exact ⟨rfl, HB02.out⟩
  | true =>
  have HNA64 : Hid (na ≤ 1099511627776) := Lib.hid (by have h1 := (mayM_is.1 HQA.out).len1; have h2 : as1.length = na := HNA.out; dsimp only at h1; omega)
  have HM2 := Lib.hid (HMB.out _ HB2.out)
  go_wp2_with fail
  with_reducible refine HM2.out.mono ?_
  rintro e w3 ⟨rfl, hb3⟩
  have HB3 := Lib.hid (below_then HB2.out hb3)
  have HB03 := Lib.hid (below_then HB0.out HB3.out)
  clear hb3 b0 b1 b2 HM2 HB02
  obtain ⟨a0, a1, a2⟩ := HCA.out _ HB3.out
  obtain ⟨b0, b1, b2⟩ := HCB.out _ HB3.out
  obtain ⟨f0, f1⟩ := HCF.out _ HB3.out
  cases qb with
  | false =>
    go_wp2
    go_ret
    exact ⟨rfl, HB03.out⟩
  | true =>
  have HNB64 : Hid (nb ≤ 1099511627776) := Lib.hid (by have h1 := (mayM_is.1 HQB.out).len1; have h2 : bs1.length = nb := HNB.out; dsimp only at h1; omega)
  by_cases hlt : ag < bg
  case neg =>
    have d1 : decide (ag ≥ bg) = true := by simp; omega
    have d2 : decide (bg ≤ ag) = true := by simp; omega
    go_wp2
    go_ret
    exact ⟨rfl, HB03.out⟩
  have d1 : decide (ag ≥ bg) = false := by simp; omega
  have d2 : decide (bg ≤ ag) = false := by simp; omega
  by_cases hf1 : 100 < nf
  · have d3 : decide ((nf : Int) > 100) = true := by simp; omega
    go_wp2
    go_ret
    exact ⟨rfl, HB03.out⟩
  have d3 : decide ((nf : Int) > 100) = false := by simp; omega
  by_cases hf2 : 100 < ng
  · have d4 : decide ((ng : Int) > 100) = true := by simp; omega
    go_wp2
    go_ret
    exact ⟨rfl, HB03.out⟩
  have d4 : decide ((ng : Int) > 100) = false := by simp; omega
  go_wp2_with fail
  with_reducible refine (new_calls 32768 _ (by decide)).mono ?_
  rintro e w4 ⟨B, S1, rfl, hd4, hf4, hb4⟩
  have HL4 : Hid (Live W0 w4 S1 B (dsk0 32768)) := Lib.hid (Live.born HB3.out hd4 hf4 hb4)
  have HFEW : Hid (Few (dsk0 32768) 0 0) := Lib.hid (few_dsk0 (by decide))
  obtain ⟨hw1, hsw1⟩ := Sw.first (d := dsk0 32768) (a := ⟨ag, al, as1⟩) (b := ⟨bg, bl, bs1⟩) rfl HFEW.out HQA.out rfl rfl (by decide)
  have HMW := Lib.hid (mwrite_calls ag al aa as1 na ca HL4.out HTAB.out (HRA.out.below HL4.out.bel) HNA.out HNA64.out h0a HFEW.out (by omega) (by omega))
  have hfw1 := HFEW.out.write8 ⟨ag, al, as1⟩
  rw [hw1] at HMW
  obtain ⟨d5, hd5⟩ : ∃ d5, (wrM (dsk0 32768) ⟨ag, al, as1⟩).2 = d5 := ⟨_, rfl⟩
  rw [hd5] at HMW hsw1 hfw1
  clear hw1 hd5 hd4 hf4 hb4 a0 a1 a2 b0 b1 b2 f0 f1 HB1 HB2 HB03 HB3
  have HSW1 := Lib.hid hsw1
  have HFW1 := Lib.hid hfw1
  obtain ⟨a0, a1, a2⟩ := HCA.out _ HL4.out.bel
  clear hsw1 hfw1
  go_wp2_with fail
  with_reducible refine HMW.out.mono ?_
  rintro e w5 ⟨ev, rfl, herr, S5, hl5, hf5, hk5, _⟩
  have HL5 := Lib.hid hl5
  have HC := Lib.hid (code_calls 0 ag ev w5 herr (HGD.out.below hl5.bel))
  clear herr hl5 hf5 hk5 HMW a0 a1 a2 HL4
  go_wp2_with fail
  with_reducible refine HC.out.mono ?_
  rintro e w6 ⟨rfl, hb6⟩
  have HL6 := Lib.hid (HL5.out.quiet hb6)
  clear hb6 HC HL5
  go_wp2_with fail
  go_loopg [8] 2 (fun gk idx wr => ∃ (i : Nat) (S : Nat → Prop) (d : Dsk), idx = .int .i64 (i : Int) ∧ gk + i = 2 ∧ Live W0 wr S B d ∧ Sw d.L ⟨ag, al, as1⟩ ⟨bg, bl, bs1⟩ ∧ Few d (280 * (i + 1)) (5 * (i + 1)))
  case atStart => exact ⟨0, S5, d5, rfl, rfl, HL6.out, HSW1.out, HFW1.out⟩
  case round =>
    obtain ⟨i, S, d, rfl, hg, hl, hsw, hfw⟩ := hrel
    have HG := Lib.hid hg
    have HL := Lib.hid hl
    have HSW := Lib.hid hsw
    have HFW := Lib.hid hfw
    clear hg hl hsw hfw HL6 HSW1 HFW1
    by_cases h2 : i < 2
    case neg =>
      have hdd : decide ((i : Int) < 2) = false := by simp; omega
      have HBE := Lib.hid (below_then HB0.out HL.out.bel)
      go_wp2
      go_ret
      exact ⟨rfl, HBE.out⟩
    obtain ⟨g', rfl⟩ : ∃ g', gk = g' + 1 := ⟨gk - 1, by have := HG.out; omega⟩
    have hdd : decide ((i : Int) < 2) = true := by simp; omega
    obtain ⟨xa, xl, xn, xc, hxf, hxr, hxn, hxm, hxw⟩ : ∃ (xa : Option Addr) (xl : List Tro) (xn xc : Nat), wr.cell? ⟨w.heap.size + 1 + 1, i, none⟩ = some (.slice xa xn xc) ∧ RowT wr (Was0 w) xa xl ∧ xl.length = xn ∧ xn ≤ 100 ∧ ∀ t ∈ xl, (Lit.int .i64 t.at_).wf = true := by
      obtain ⟨f0, f1⟩ := HCF.out _ HL.out.bel
      rcases i_at h2 with rfl | rfl
      · exact ⟨fa, fl, nf, cf, f0, HRF.out.keep (keeps_below HL.out.bel Non) (fun _ _ h => h), HNF.out, by omega, HWF.out⟩
      · exact ⟨ga, gl, ng, cg, f1, HRG.out.keep (keeps_below HL.out.bel Non) (fun _ _ h => h), HNG.out, by omega, HWG.out⟩
    have HARM := Lib.hid (arm_calls xa xl xc xn wr HL.out.disk hxr hxn (fun k hk => ⟨fun hs => by have h1 := HL.out.own k hs; have h2 : k < w.heap.size := hk; have := HB0.out.size; omega, by have h2 : k < w.heap.size := hk; have := HB0.out.size; have := HL.out.bel.size; omega⟩) (by omega) hxw)
    have hrd := HSW.out.round HFW.out HQA.out HQB.out hlt xl (swA i)
    have hf7 := HFW.out.arm xl
    obtain ⟨d7, hd7⟩ : ∃ d7, arm xl d = d7 := ⟨_, rfl⟩
    rw [hd7] at HARM hrd hf7
    have HRD := Lib.hid hrd
    have HF7 := Lib.hid hf7
    have HI2 := Lib.hid h2
    clear hd7 hxr hxn hxw hrd hf7
    go_wp2_with fail
    with_reducible refine HARM.out.mono ?_
    rintro e w7 ⟨rfl, ht7⟩
    obtain ⟨S7, hl7, hf7, hk7⟩ := HL.out.turns ht7
    have HL7 := Lib.hid hl7
    obtain ⟨b0, b1, b2⟩ := HCB.out _ hl7.bel
    have HMW := Lib.hid (mwrite_calls bg bl ba bs1 nb cb hl7 HTAB.out (HRB.out.below hl7.bel) HNB.out HNB64.out h0b HF7.out (by omega) (by omega))
    have hf8 := HF7.out.write8 ⟨bg, bl, bs1⟩
    obtain ⟨⟨ec, d8⟩, hd8⟩ : ∃ r, wrM d7 ⟨bg, bl, bs1⟩ = r := ⟨_, rfl⟩
    rw [hd8] at HMW HRD hf8
    dsimp only at HMW HRD hf8
    have HF8 := Lib.hid hf8
    clear ht7 hl7 hf7 hk7 hf8 hd8 HARM HL hxf
    go_wp2_with fail
    with_reducible refine HMW.out.mono ?_
    rintro e w8 ⟨ev, rfl, _, S8, hl8, hf8, hk8, n0, herr, hn0⟩
    have HL8 := Lib.hid hl8
    have HERR := Lib.hid herr
    have HN0 := Lib.hid hn0
    obtain ⟨W9, hW9⟩ : ∃ W, w8.alloc (.cells #[.int .i64 (i : Int), .int .i64 5, .int .i64 9] 3) = W := ⟨_, rfl⟩
    have hb89 : Below w8.heap.size w8 W9 := by rw [← hW9]; exact (Below.refl _ _).alloc (Nat.le_refl _) _
    have hl9 := hl8.quiet hb89
    have hri : RowI W9 (One w8.heap.size) (some ⟨w8.heap.size, 0, none⟩) (swA i) := by rw [← hW9]; exact irow_new w8 (swA i) (0, 0)
    have HL9 := Lib.hid hl9
    have HB89 := Lib.hid hb89
    have HCR := Lib.hid (crash_calls (some ⟨w8.heap.size, 0, none⟩) (swA i) 3 3 W9 hl9.disk (Nat.le_trans HF8.out.used (by have := HI2.out; omega)) hri rfl (fun k hk hs => by have h1 := hl8.disk.2.1 k hs; have h2 : k = w8.heap.size := hk; omega) (Nat.le_refl _) (by decide))
    clear herr hn0 hl8 hf8 hk8 hb89 hl9 hri HMW b0 b1 b2 HL7
    go_wp2_with fail
    clear hW9
    with_reducible refine HCR.out.mono ?_
    rintro e w10 ⟨rfl, ht10⟩
    obtain ⟨S10, hl10, hf10, hk10⟩ := HL9.out.turns ht10
    have HL10 := Lib.hid hl10
    have HER10 : Hid (ErrAt n0 w10 ec bg ev) := Lib.hid ((HERR.out.below HB89.out).off hk10 HN0.out)
    have HF10 := Lib.hid (HF8.out.crash (swA i))
    obtain ⟨d10, hd10⟩ : ∃ d10, crash (swA i) d8 = d10 := ⟨_, rfl⟩
    rw [hd10] at HL10 HF10 HRD
    obtain ⟨hsw10, m, hnm, hm⟩ := HRD.out
    have HSW10 := Lib.hid hsw10
    have HNM := Lib.hid hnm
    have HM := Lib.hid hm
    have HNW := Lib.hid (newest_calls w10 HL10.out.disk (Nat.le_trans HF10.out.used (by have := HI2.out; omega)) (HTAB.out.below HL10.out.bel) (HER.out.below HL10.out.bel))
    unfold NewOut at HNW
    rw [HNM.out] at HNW
    clear ht10 hl10 hf10 hk10 hd10 hsw10 hnm hm HCR HRD HL9 HERR HL8 HB89
    go_wp2_with fail
    with_reducible refine HNW.out.mono ?_
    rintro e w11 ⟨v, rfl, hmv, hb11⟩
    rcases HM.out with rfl | ⟨hec, rfl⟩
    · obtain ⟨a11, c11, S11, hv, hir11, _, _, _, _⟩ := hmv
      have hv2 : v = .agg #[.int .i64 bg, .int .i64 bl, .slice a11 nb c11] := by rw [hv, ← HNB.out]; rfl
      clear hv
      subst hv2
      obtain ⟨W12, hW12⟩ : ∃ W, w11.alloc (.cells #[.int .i64 bg, .int .i64 bl, .slice a11 nb c11] 25) = W := ⟨_, rfl⟩
      have hbm : Below w11.heap.size w11 W12 := by rw [← hW12]; exact (Below.refl _ _).alloc (Nat.le_refl _) _
      have hxm : W12.heap[w11.heap.size]? = some (.cells #[.int .i64 bg, .int .i64 bl, .slice a11 nb c11] 25 (0, 0)) := by rw [← hW12]; exact heap_alloc_new _ _
      have hbe := below_then hb11 hbm
      have m0 : W12.cell? ⟨w11.heap.size, 0, none⟩ = some (.int .i64 bg) := (cell_of_block hxm 0).trans rfl
      have m1 : W12.cell? ⟨w11.heap.size, 1, none⟩ = some (.int .i64 bl) := (cell_of_block hxm 1).trans rfl
      have m2 : W12.cell? ⟨w11.heap.size, 2, none⟩ = some (.slice a11 nb c11) := (cell_of_block hxm 2).trans rfl
      have hbw := below_then HL10.out.bel hbe
      obtain ⟨b0, b1, b2⟩ := HCB.out _ hbw
      have hsm := rsame8_calls bg bl bg bl a11 ba bs1 bs1 nb c11 nb cb W12 (hir11.below hbm) HNB.out HNB64.out (HRB.out.below hbw) HNB.out HNB64.out
      rw [sameM_self] at hsm
      have HSM := Lib.hid hsm
      have HBE := Lib.hid hbe
      clear hb11 hbm hxm hbe hbw hsm hir11 HNW
      go_wp2_with fail
      clear hW12
      with_reducible refine HSM.out.mono ?_
      rintro e w13 ⟨rfl, hb13⟩
      have HL13 := Lib.hid (HL10.out.quiet (below_then HBE.out hb13))
      clear hb13 HSM
      go_wp2_with fail
      go_roundg g'
      case measure => omega
      case rel => exact ⟨i + 1, S10, d10, by go_num, by have := HG.out; omega, HL13.out, HSW10.out, HF10.out.mono (by omega) (by omega)⟩
    · obtain ⟨a11, c11, S11, hv, hir11, _, _, _, _⟩ := hmv
      have hv2 : v = .agg #[.int .i64 ag, .int .i64 al, .slice a11 na c11] := by rw [hv, ← HNA.out]; rfl
      clear hv
      subst hv2
      obtain ⟨W12, hW12⟩ : ∃ W, w11.alloc (.cells #[.int .i64 ag, .int .i64 al, .slice a11 na c11] 25) = W := ⟨_, rfl⟩
      have hbm : Below w11.heap.size w11 W12 := by rw [← hW12]; exact (Below.refl _ _).alloc (Nat.le_refl _) _
      have hxm : W12.heap[w11.heap.size]? = some (.cells #[.int .i64 ag, .int .i64 al, .slice a11 na c11] 25 (0, 0)) := by rw [← hW12]; exact heap_alloc_new _ _
      have hbe := below_then hb11 hbm
      have m0 : W12.cell? ⟨w11.heap.size, 0, none⟩ = some (.int .i64 ag) := (cell_of_block hxm 0).trans rfl
      have m1 : W12.cell? ⟨w11.heap.size, 1, none⟩ = some (.int .i64 al) := (cell_of_block hxm 1).trans rfl
      have m2 : W12.cell? ⟨w11.heap.size, 2, none⟩ = some (.slice a11 na c11) := (cell_of_block hxm 2).trans rfl
      have hbw := below_then HL10.out.bel hbe
      obtain ⟨b0, b1, b2⟩ := HCB.out _ hbw
      have hsm := rsame8_calls ag al bg bl a11 ba as1 bs1 na c11 nb cb W12 (hir11.below hbm) HNA.out HNA64.out (HRB.out.below hbw) HNB.out HNB64.out
      rw [show sameM ⟨ag, al, as1⟩ ⟨bg, bl, bs1⟩ = false by unfold sameM; rw [decide_eq_false (show ¬ ag = bg by omega)]; rfl] at hsm
      have HSM := Lib.hid hsm
      have HBE := Lib.hid hbe
      have HXM := Lib.hid hxm
      have HIR := Lib.hid (hir11.below hbm)
      have hez : (ec == 0) = false := by simpa using hec
      clear hb11 hbm hxm hbe hbw hsm hir11 HNW hec
      go_wp2_with fail
      clear hW12
      with_reducible refine HSM.out.mono ?_
      rintro e w13 ⟨rfl, hb13⟩
      have HB13 := Lib.hid hb13
      have HL13 := Lib.hid (HL10.out.quiet (below_then HBE.out hb13))
      have HC := Lib.hid (code_calls ec bg ev w13 (HER10.out.below (below_then HBE.out hb13)) (HGD.out.below HL13.out.bel))
      clear hb13 HSM m0 m1 m2 b0 b1 b2
      go_wp2_with fail
      with_reducible refine HC.out.mono ?_
      rintro e w14 ⟨rfl, hb14⟩
      have HL14 := Lib.hid (HL13.out.quiet hb14)
      have hxm := block_below (below_then HB13.out hb14) HXM.out
      have m0 : w14.cell? ⟨w11.heap.size, 0, none⟩ = some (.int .i64 ag) := (cell_of_block hxm 0).trans rfl
      have m1 : w14.cell? ⟨w11.heap.size, 1, none⟩ = some (.int .i64 al) := (cell_of_block hxm 1).trans rfl
      have m2 : w14.cell? ⟨w11.heap.size, 2, none⟩ = some (.slice a11 na c11) := (cell_of_block hxm 2).trans rfl
      obtain ⟨a0, a1, a2⟩ := HCA.out _ HL14.out.bel
      have hsm := rsame8_calls ag al ag al a11 aa as1 as1 na c11 na ca w14 (HIR.out.below (below_then HB13.out hb14)) HNA.out HNA64.out (HRA.out.below HL14.out.bel) HNA.out HNA64.out
      rw [sameM_self] at hsm
      have HSM := Lib.hid hsm
      clear hb14 hxm hsm HC
      go_wp2_with fail
      with_reducible refine HSM.out.mono ?_
      rintro e w15 ⟨rfl, hb15⟩
      have HL15 := Lib.hid (HL14.out.quiet hb15)
      clear hb15 HSM
      go_wp2_with fail
      go_roundg g'
      case measure => omega
      case rel => exact ⟨i + 1, S10, d10, by go_num, by have := HG.out; omega, HL15.out, HSW10.out, HF10.out.mono (by omega) (by omega)⟩

end Go.Proofs.YtacfcfbleogioaaGreatDoor
