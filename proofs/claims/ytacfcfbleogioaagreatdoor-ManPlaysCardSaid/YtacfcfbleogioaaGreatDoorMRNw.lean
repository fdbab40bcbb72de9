/-
  The reference's Newest. Conditions: the disk lies in memory; few bytes.
-/
import Derived.Test.YtacfcfbleogioaaGreatDoorMRName
import Derived.Test.YtacfcfbleogioaaGreatDoorMRDec
import Derived.Test.YtacfcfbleogioaaGreatDoorMPureA
import Derived.Test.YtacfcfbleogioaaGreatDoorMNew
namespace Go.Proofs.YtacfcfbleogioaaGreatDoor
open Go.RowKit Go.Lib Go.Joins

/-- The two boxes of the loop: the answer's, which is empty yet, and the greatest so far. -/
structure NB (w wr : World) (B2 B4 : Nat) (m : Mfs) : Prop where
  b2 : wr.heap[B2]? = some (.cells #[.int .i64 0, .int .i64 0, .slice none 0 0] 25 (0, 0))
  b4 : ∃ a c S, wr.heap[B4]? = some (.cells #[.int .i64 m.gen, .int .i64 m.last, .slice a m.segs.length c] 25 (0, 0)) ∧ IRow wr S a m.segs ∧ (∀ k, S k → w.heap.size ≤ k ∧ k < wr.heap.size ∧ k ≠ B2 ∧ k ≠ B4) ∧ (a = none → c = 0) ∧ m.segs.length ≤ c ∧ c ≤ maxLen
  bel : Below w.heap.size w wr
theorem NB.below {w wr w' : World} {B2 B4 : Nat} {m : Mfs} (h : NB w wr B2 B4 m) (hb : Below wr.heap.size wr w') : NB w w' B2 B4 m := by
  obtain ⟨h1, ⟨a, c, S, h2, h3, h4, h5⟩, h6⟩ := h
  exact ⟨block_below hb h1, ⟨a, c, S, block_below hb h2, h3.below hb, fun k e => ⟨(h4 k e).1, Nat.lt_of_lt_of_le (h4 k e).2.1 hb.size, (h4 k e).2.2⟩, h5⟩, below_then h6 hb⟩
/-- A greater one comes into its box. -/
theorem NB.lay {w wr : World} {B2 B4 : Nat} {m x : Mfs} (h : NB w wr B2 B4 m) (hne : B2 ≠ B4) (hw : w.heap.size ≤ B4) {a : Option Addr} {c n : Nat} {S : Nat → Prop} (hr : IRow wr S a x.segs) (hS : ∀ k, S k → w.heap.size ≤ k ∧ k < wr.heap.size ∧ k ≠ B2 ∧ k ≠ B4) (h0 : a = none → c = 0) (hn : x.segs.length = n) (hl : n ≤ c) (hm : c ≤ maxLen) :
    NB w (((wr.setCell ⟨B4, 0, none⟩ (.int .i64 x.gen)).setCell ⟨B4, 1, none⟩ (.int .i64 x.last)).setCell ⟨B4, 2, none⟩ (.slice a n c)) B2 B4 x := by
  obtain ⟨h1, ⟨a0, c0, S0, h2, _⟩, h6⟩ := h
  obtain ⟨q1, q2, q3⟩ := box3_set h2 hw h6 (.int .i64 x.gen) (.int .i64 x.last) (.slice a n c)
  subst hn
  exact ⟨block_keep h1 q3 (fun e => hne e), ⟨a, c, S, q1, hr.keep q3 (fun k e1 e2 => (hS k e1).2.2.2 e2), fun k e => ⟨(hS k e).1, Nat.lt_of_lt_of_le (hS k e).2.1 q3.size, (hS k e).2.2⟩, h0, hl, hm⟩, q2⟩

set_option maxRecDepth 100000 in
set_option maxHeartbeats 16000000 in
theorem rnewest8_calls {S : Nat → Prop} {B : Nat} {d : Dsk} (w : World) (hd : RefD w S B d) (hu : used d.L ≤ 1073741824) :
    Calls Tryz.prog 12 #[.pointer (some ⟨B, 0, none⟩)] w (NewOut d.L w) := by
  obtain ⟨hi, hS, lv, ta, tn, tc, Sd, St, hat⟩ := hd
  obtain ⟨la, lc, rfl, hfl, _, _, _⟩ := hat.fils
  obtain ⟨LF, hLF⟩ : ∃ x, d.L.map toI = x := ⟨_, rfl⟩
  obtain ⟨nf, hnf⟩ : ∃ x, d.L.length = x := ⟨_, rfl⟩
  rw [hLF] at hfl
  have hblk := hat.blk
  rw [hnf] at hblk
  have HD : Hid (∀ W, Below w.heap.size w W → W.cell? ⟨B, 1, none⟩ = some (.slice la nf lc)) := Lib.hid (fun W hb => (cell_of_block (block_below hb hblk) 1).trans rfl)
  have HF1 : Hid (Fils w S la LF) := Lib.hid hfl
  have HNF : Hid (d.L.length = nf) := Lib.hid hnf
  have HSRT : Hid (Srt d.L) := Lib.hid hi.srt
  have hnf64 : nf ≤ 64 := by rw [← hnf]; exact hi.most
  have HAT : Hid (∀ (i : Nat), i < nf → ∃ f, d.L[i]? = some f ∧ LF[i]? = some (toI f) ∧ f.data.length ≤ 1073741824) := Lib.hid (fun i hlt => by
    have h1 : d.L[i]? = some (d.L[i]'(by rw [hnf]; exact hlt)) := List.getElem?_eq_getElem _
    exact ⟨_, h1, by rw [← hLF, List.getElem?_map, h1]; rfl, Nat.le_trans (used_mem (List.getElem_mem _)) hu⟩)
  obtain ⟨W2, hW2⟩ : ∃ W, (w.alloc (.cells #[.int .i64 0, .int .i64 0, .slice none 0 0] 25)).alloc (.cells #[.int .i64 0, .int .i64 0, .slice none 0 0] 25) = W := ⟨_, rfl⟩
  have hs1 : (w.alloc (.cells #[.int .i64 0, .int .i64 0, .slice none 0 0] 25)).heap.size = w.heap.size + 1 := by simp
  have HNB0 : Hid (NB w W2 w.heap.size (w.heap.size + 1) ⟨0, 0, []⟩) := Lib.hid (by
    have h1 : Below w.heap.size w (w.alloc (.cells #[.int .i64 0, .int .i64 0, .slice none 0 0] 25)) := (Below.refl _ _).alloc (Nat.le_refl _) _
    have h2 : Below (w.alloc (.cells #[.int .i64 0, .int .i64 0, .slice none 0 0] 25)).heap.size (w.alloc (.cells #[.int .i64 0, .int .i64 0, .slice none 0 0] 25)) W2 := by rw [← hW2]; exact (Below.refl _ _).alloc (Nat.le_refl _) _
    refine ⟨block_below h2 (heap_alloc_new w _), ⟨none, 0, Non, ?_, .inl rfl, fun k e => e.elim, fun _ => rfl, Nat.le_refl _, Nat.zero_le _⟩, below_then h1 h2⟩
    rw [← hW2, ← hs1]
    exact heap_alloc_new _ _)
  obtain ⟨B2, hB2⟩ : ∃ x, w.heap.size = x := ⟨_, rfl⟩
  obtain ⟨B4, hB4⟩ : ∃ x, w.heap.size + 1 = x := ⟨_, rfl⟩
  have HBB : Hid (B2 ≠ B4 ∧ w.heap.size ≤ B2 ∧ w.heap.size ≤ B4 ∧ w.heap.size = B2 ∧ w.heap.size + 1 = B4) := Lib.hid ⟨by omega, by omega, by omega, hB2, hB4⟩
  have hz : NB w W2 B2 B4 ⟨0, 0, []⟩ := by have h := HNB0.out; rwa [hB4, hB2] at h
  have HNB := Lib.hid hz
  have HW2 := Lib.hid hW2
  have HOUT : Hid (∀ (m : Mfs) (b : Bool), newM d.L = m → (newB d.L).isSome = b → ∀ a c S0 W, IRow W S0 a m.segs → (∀ k, S0 k → w.heap.size ≤ k ∧ k < W.heap.size) → (a = none → c = 0) → m.segs.length ≤ c → c ≤ maxLen → Below w.heap.size w W → NewOut d.L w (.returned (.tuple #[.agg #[.int .i64 m.gen, .int .i64 m.last, .slice a m.segs.length c], .bool b])) W) := Lib.hid (fun m b hm hb a c S0 W h1 h2 h3 h4 h5 h6 => by
    refine ⟨_, by rw [← hb], ?_, h6⟩
    show ManV w W _ (newM d.L)
    rw [hm]
    exact ⟨a, c, S0, rfl, h1, h2, h3, h4, h5⟩)
  obtain ⟨PST, hP⟩ : ∃ P, NewOut d.L w = P := ⟨_, rfl⟩
  rw [hP] at HOUT ⊢
  have c0 : W2.cell? ⟨B, 1, none⟩ = some (.slice la nf lc) := HD.out _ HNB.out.bel
  clear hi hS hat hfl hLF hnf hblk hW2 hs1 HNB0 hB2 hB4 hz hu hP
  go_enter Tryz.func12, Tryz.ntmps12
  go_wp2_with fail
  try rw [HW2.out]
  try rw [HBB.out.2.2.2.2]
  try rw [HBB.out.2.2.2.1]
  go_loopg [5] nf (fun gk idx wr => ∃ (i : Nat), idx = .int .i64 (i : Int) ∧ gk + i = nf ∧ NB w wr B2 B4 (newM (d.L.take i)))
  case atStart => exact ⟨0, rfl, rfl, HNB.out⟩
  case round =>
    obtain ⟨i, rfl, hg, hnb⟩ := hrel
    have HG := Lib.hid hg
    have HNW := Lib.hid hnb
    clear hg hnb HNB c0
    have c0 := HD.out _ HNW.out.bel
    by_cases hlt : i < nf
    · obtain ⟨g', rfl⟩ : ∃ g', gk = g' + 1 := ⟨gk - 1, by have := HG.out; omega⟩
      have hdd : decide ((i : Int) < (nf : Int)) = true := by simp; omega
      obtain ⟨f, hfx, hfl, hfs⟩ := HAT.out i hlt
      obtain ⟨fb, fo, da, dc, rfl, hSf, e00, e01, _, hrow, _, hdl, hdm⟩ := fils_at HF1.out hfl
      have HFX := Lib.hid hfx
      have e0 := (HNW.out.bel.cell (p := ⟨fb, fo + i * 3, none⟩) (lt_of_cell e00)).trans e00
      have HE1 : Hid (∀ W, Below w.heap.size w W → W.cell? ⟨fb, fo + i * 3 + 1, none⟩ = some (.slice da f.data.length dc)) := Lib.hid (fun W hb => (hb.cell (p := ⟨fb, fo + i * 3 + 1, none⟩) (lt_of_cell e01)).trans e01)
      have HRO : Hid (∀ W, Below w.heap.size w W → Row W S da f.data) := Lib.hid (fun W hb => hrow.below hb)
      have HDL : Hid (f.data.length ≤ dc ∧ dc ≤ maxLen ∧ f.data.length ≤ 1073741824) := Lib.hid ⟨hdl, hdm, hfs⟩
      obtain ⟨nm, hnm⟩ : ∃ x, f.name = x := ⟨_, rfl⟩
      have hto : (toI f).name = f.name := rfl
      rw [hto, hnm] at e0
      have HNMF := Lib.hid hnm
      have HGEN := Lib.hid (rgen8_calls nm wr)
      unfold GenOut at HGEN
      obtain ⟨gn, hgn⟩ : ∃ x, genB nm = x := ⟨_, rfl⟩
      obtain ⟨okb, hok⟩ : ∃ x, decide (0 < gn) = x := ⟨_, rfl⟩
      rw [hgn, hok] at HGEN
      have HGN := Lib.hid (And.intro hgn hok)
      clear hfx hfl hfs e00 e01 hto hnm hSf hrow hdl hdm hgn hok
      go_wp2_with fail
      with_reducible refine HGEN.out.mono ?_
      rintro e w2 ⟨rfl, hb2⟩
      have HNW2 := Lib.hid (HNW.out.below hb2)
      clear hb2 c0 e0 HGEN HNW
      have c0 := HD.out _ HNW2.out.bel
      have e1 := HE1.out _ HNW2.out.bel
      obtain ⟨dl, hdl⟩ : ∃ x, f.data.length = x := ⟨_, rfl⟩
      have HDN := Lib.hid hdl
      rw [hdl] at HDL e1 HE1
      have HDEC := Lib.hid (rdecode8_calls da f.data dl dc w2 (HRO.out _ HNW2.out.bel) hdl HDL.out.2.2 HDL.out.1 HDL.out.2.1)
      unfold DecOut at HDEC
      obtain ⟨od, hod⟩ : ∃ x, decM f.data = x := ⟨_, rfl⟩
      rw [hod] at HDEC
      have HOD := Lib.hid hod
      obtain ⟨⟨mg, ml, ms⟩, hMM⟩ : ∃ x, od.getD noM = x := ⟨_, rfl⟩
      obtain ⟨isb, hib⟩ : ∃ x, od.isSome = x := ⟨_, rfl⟩
      rw [hMM, hib] at HDEC
      have HMI := Lib.hid (And.intro hMM hib)
      obtain ⟨k, hk⟩ : ∃ k, ms.length = k := ⟨_, rfl⟩
      have HK := Lib.hid hk
      clear hdl hod hMM hib hk HRO HE1
      go_wp2_with fail
      with_reducible refine HDEC.out.mono ?_
      rintro e w3 ⟨v3, rfl, hmv3, hb3⟩
      obtain ⟨a3, c3, S3, hv3, hir3, hS3, h03, hl3, hm3⟩ := hmv3
      have hv3' : v3 = .agg #[.int .i64 mg, .int .i64 ml, .slice a3 k c3] := by rw [hv3, ← HK.out]; rfl
      clear hv3
      subst hv3'
      obtain ⟨W4, hW4⟩ : ∃ W, w3.alloc (.cells #[.int .i64 mg, .int .i64 ml, .slice a3 k c3] 25) = W := ⟨_, rfl⟩
      have hb34 : Below w3.heap.size w3 W4 := by rw [← hW4]; exact (Below.refl _ _).alloc (Nat.le_refl _) _
      have hk4 : W4.heap[w3.heap.size]? = some (.cells #[.int .i64 mg, .int .i64 ml, .slice a3 k c3] 25 (0, 0)) := by rw [← hW4]; exact heap_alloc_new _ _
      have HNW4 := Lib.hid (HNW2.out.below (below_then hb3 hb34))
      have HIR4 := Lib.hid (hir3.below hb34)
      have HS4 : Hid (∀ k, S3 k → w.heap.size ≤ k ∧ k < W4.heap.size ∧ k ≠ B2 ∧ k ≠ B4) := Lib.hid (fun j hj => by
        have h1 := hS3 j hj
        have h2 := HNW2.out.bel.size
        have h3 := hb34.size
        have h4 := lt_of_block HNW2.out.b2
        obtain ⟨_, _, _, h5, _⟩ := HNW2.out.b4
        have h5 := lt_of_block h5
        refine ⟨by omega, by omega, by omega, by omega⟩)
      have HV3 : Hid ((a3 = none → c3 = 0) ∧ k ≤ c3 ∧ c3 ≤ maxLen) := Lib.hid ⟨h03, by rw [← HK.out]; exact hl3, hm3⟩
      have x0 := (cell_of_block hk4 0).trans rfl
      have x1 := (cell_of_block hk4 1).trans rfl
      have x2 := (cell_of_block hk4 2).trans rfl
      have HX : Hid (W4.cell? ⟨w3.heap.size, 0, none⟩ = some (.int .i64 mg) ∧ W4.cell? ⟨w3.heap.size, 1, none⟩ = some (.int .i64 ml) ∧ W4.cell? ⟨w3.heap.size, 2, none⟩ = some (.slice a3 k c3)) := Lib.hid ⟨x0, x1, x2⟩
      have HW4 := Lib.hid hW4
      clear hb3 hb34 hir3 hS3 h03 hl3 hm3 hk4 hW4 HDEC c0 e1 x0 x1 x2 HNW2
      obtain ⟨ab, cb, Sb, hb4, _, _, _, _, _⟩ := HNW4.out.b4
      obtain ⟨bm, hbm⟩ : ∃ x, newM (d.L.take i) = x := ⟨_, rfl⟩
      have HBM := Lib.hid hbm
      rw [hbm] at hb4 HNW4
      obtain ⟨bg, hbg⟩ : ∃ x, bm.gen = x := ⟨_, rfl⟩
      obtain ⟨bl, hbl⟩ : ∃ x, bm.last = x := ⟨_, rfl⟩
      obtain ⟨bk, hbk⟩ : ∃ x, bm.segs.length = x := ⟨_, rfl⟩
      rw [hbg, hbl, hbk] at hb4
      have HBG := Lib.hid hbg
      have HB4 := Lib.hid hb4
      clear hbm hbg hbl hbk hb4
      have HSKIP : Hid (ofFile f = none → NB w W4 B2 B4 (newM (d.L.take (i + 1)))) := Lib.hid (fun h => by rw [newM_skip HFX.out h, HBM.out]; exact HNW4.out)
      go_upto_region 7 with (fail)
      rw [HW4.out]
      obtain ⟨x0, x1, x2⟩ := HX.out
      have d0 := (cell_of_block HB4.out 0).trans rfl
      have d1 := (cell_of_block HB4.out 1).trans rfl
      have d2 := (cell_of_block HB4.out 2).trans rfl
      have z0 := unfrozen_of_block HB4.out 0
      have z1 := unfrozen_of_block HB4.out 1
      have z2 := unfrozen_of_block HB4.out 2
      cases okb with
      | false =>
        have HN1 := Lib.hid (HSKIP.out (by
          have h0 : gn = 0 := by have := of_decide_eq_false HGN.out.2; omega
          cases hd : decM f.data with
          | none => exact ofFile_none hd
          | some y => exact ofFile_gen hd (by have := decM_gen hd; rw [HNMF.out, HGN.out.1, h0]; exact fun e => by rw [e] at this; exact absurd this (by decide))))
        clear HSKIP
        go_wp2
        go_roundg g'
        case measure => omega
        case rel => exact ⟨i + 1, by go_num, by have := HG.out; omega, HN1.out⟩
      | true =>
      cases isb with
      | false =>
        have HN1 := Lib.hid (HSKIP.out (by
          cases hd : decM f.data with
          | none => exact ofFile_none hd
          | some y => rw [HOD.out] at hd; have h := HMI.out.2; rw [hd] at h; cases h))
        clear HSKIP
        go_wp2
        go_roundg g'
        case measure => omega
        case rel => exact ⟨i + 1, by go_num, by have := HG.out; omega, HN1.out⟩
      | true =>
      have hdm : decM f.data = some ⟨mg, ml, ms⟩ := by
        have h := HMI.out
        rw [HOD.out]
        cases od with
        | none => cases h.2
        | some y => exact congrArg some h.1
      by_cases hgg : mg = (gn : Int)
      · have eg : ((mg : Int) == (gn : Int)) = true := by simp [hgg]
        have hof : ofFile f = some ⟨mg, ml, ms⟩ := ofFile_some hdm (by rw [HNMF.out, HGN.out.1]; exact hgg)
        have hnt := newM_take HSRT.out HFX.out hof
        rw [HBM.out, HBG.out] at hnt
        have hgt : decide ((gn : Int) > bg) = true := by
          have h := hnt.2
          dsimp only at h
          simp
          omega
        have HN1 : Hid (NB w (((W4.setCell ⟨B4, 0, none⟩ (.int .i64 mg)).setCell ⟨B4, 1, none⟩ (.int .i64 ml)).setCell ⟨B4, 2, none⟩ (.slice a3 k c3)) B2 B4 (newM (d.L.take (i + 1)))) := Lib.hid (by
          rw [hnt.1]
          exact HNW4.out.lay (x := ⟨mg, ml, ms⟩) HBB.out.1 HBB.out.2.2.1 HIR4.out HS4.out HV3.out.1 HK.out HV3.out.2.1 HV3.out.2.2)
        clear hnt hof hdm hgg HSKIP
        go_wp2
        go_roundg g'
        case measure => omega
        case rel => exact ⟨i + 1, by go_num, by have := HG.out; omega, HN1.out⟩
      · have eg : ((mg : Int) == (gn : Int)) = false := by simp [hgg]
        have HN1 := Lib.hid (HSKIP.out (ofFile_gen hdm (by rw [HNMF.out, HGN.out.1]; exact hgg)))
        clear hdm hgg HSKIP
        go_wp2
        go_roundg g'
        case measure => omega
        case rel => exact ⟨i + 1, by go_num, by have := HG.out; omega, HN1.out⟩
    · have hdd : decide ((i : Int) < (nf : Int)) = false := by simp; omega
      have hnw := HNW.out
      rw [List.take_of_length_le (by rw [HNF.out]; omega)] at hnw
      obtain ⟨h1, ⟨ab, cb, Sb, h2, h3, h4, h5, h6, h7⟩, h8⟩ := hnw
      obtain ⟨bm, hbm⟩ : ∃ x, newM d.L = x := ⟨_, rfl⟩
      rw [hbm] at h2 h3 h6
      obtain ⟨qb, hqb⟩ : ∃ x, (newB d.L).isSome = x := ⟨_, rfl⟩
      have hgt : decide (bm.gen > 0) = qb := by rw [← hqb, newM_may, hbm]
      obtain ⟨x0, hx0⟩ : ∃ W, wr.drew = W := ⟨_, rfl⟩
      have hbx : Below wr.heap.size wr x0 := by rw [← hx0]; exact below_drewN wr 1
      have k2 := block_below hbx h1
      have k4 := block_below hbx h2
      obtain ⟨q1, q2, q3⟩ := box3_set k2 HBB.out.2.1 (below_then h8 hbx) (.int .i64 bm.gen) (.int .i64 bm.last) (.slice ab bm.segs.length cb)
      have HFIN := Lib.hid (HOUT.out bm qb hbm hqb ab cb Sb _ ((h3.below hbx).keep q3 (fun k e1 e2 => (h4 k e1).2.2.1 e2)) (fun k e => ⟨(h4 k e).1, Nat.lt_of_lt_of_le (h4 k e).2.1 (Nat.le_trans hbx.size q3.size)⟩) h5 h6 h7 q2)
      have k4' := block_keep k4 q3 (fun e => HBB.out.1 (show B4 = B2 from e).symm)
      obtain ⟨bg, hbg⟩ : ∃ x, bm.gen = x := ⟨_, rfl⟩
      obtain ⟨bl, hbl⟩ : ∃ x, bm.last = x := ⟨_, rfl⟩
      obtain ⟨bk, hbk⟩ : ∃ x, bm.segs.length = x := ⟨_, rfl⟩
      rw [hbg, hbl, hbk] at k4 q1 k4' HFIN
      rw [hbg] at hgt
      have m0 := (cell_of_block k2 0).trans rfl
      have m1 := (cell_of_block k2 1).trans rfl
      have m2 := (cell_of_block k2 2).trans rfl
      have z0 := unfrozen_of_block k2 0
      have z1 := unfrozen_of_block k2 1
      have z2 := unfrozen_of_block k2 2
      have e0 := (cell_of_block k4 0).trans rfl
      have e1 := (cell_of_block k4 1).trans rfl
      have e2 := (cell_of_block k4 2).trans rfl
      have HCE : Hid (x0.cell? ⟨B4, 0, none⟩ = some (.int .i64 bg) ∧ x0.cell? ⟨B4, 1, none⟩ = some (.int .i64 bl) ∧ x0.cell? ⟨B4, 2, none⟩ = some (.slice ab bk cb)) := Lib.hid ⟨e0, e1, e2⟩
      have HQS : Hid ((((x0.setCell ⟨B2, 0, none⟩ (.int .i64 bg)).setCell ⟨B2, 1, none⟩ (.int .i64 bl)).setCell ⟨B2, 2, none⟩ (.slice ab bk cb)).cell? ⟨B4, 0, none⟩ = some (.int .i64 bg) ∧ (((x0.setCell ⟨B2, 0, none⟩ (.int .i64 bg)).setCell ⟨B2, 1, none⟩ (.int .i64 bl)).setCell ⟨B2, 2, none⟩ (.slice ab bk cb)).cell? ⟨B4, 1, none⟩ = some (.int .i64 bl) ∧ (((x0.setCell ⟨B2, 0, none⟩ (.int .i64 bg)).setCell ⟨B2, 1, none⟩ (.int .i64 bl)).setCell ⟨B2, 2, none⟩ (.slice ab bk cb)).cell? ⟨B4, 2, none⟩ = some (.slice ab bk cb)) := Lib.hid (by
        rw [hbg, hbl, hbk] at q3
        have h := block_keep k4 (by exact q3) (fun e => HBB.out.1 (show B4 = B2 from e).symm)
        exact ⟨(cell_of_block h 0).trans rfl, (cell_of_block h 1).trans rfl, (cell_of_block h 2).trans rfl⟩)
      have q01 := (cell_of_block q1 0).trans rfl
      have q02 := (cell_of_block q1 1).trans rfl
      have q03 := (cell_of_block q1 2).trans rfl
      have HQ0 := Lib.hid (And.intro q01 (And.intro q02 q03))
      have HX0 := Lib.hid hx0
      clear h1 h2 h3 h4 h5 h6 h7 h8 hbm hqb hbx k2 k4 k4' q1 q2 q3 hbg hbl hbk e0 e1 e2 HNW hx0 q01 q02 q03
      go_upto_region 9 with (fail)
      refine wp_region_held_drew (S := fun W => W.cell? ⟨B4, 0, none⟩ = some (.int .i64 bg) ∧ W.cell? ⟨B4, 1, none⟩ = some (.int .i64 bl) ∧ W.cell? ⟨B4, 2, none⟩ = some (.slice ab bk cb)) (by kernel_rfl) (by rw [HX0.out]; exact HCE.out) (fun hHeld => ?_)
      rw [HX0.out] at hHeld ⊢
      refine wpAnyH_take (i := 0) (v := ?_) rfl (by kernel_rfl) (by kernel_rfl) (by kernel_rfl) (fun _ _ _ h => h) (Or.inl ⟨by rfl, ?_⟩) (by assumption) ?_
      rotate_left
      · intro W hS
        try dsimp only at hS
        go_simp
        try with_reducible rfl
      simp only [List.getElem_toArray, List.getElem_cons_zero, Act.put, List.setIfInBounds_toArray, List.set_cons_zero, List.set_cons_succ]
      refine wpAnyH_take (i := 1) (v := ?_) rfl (by kernel_rfl) (by kernel_rfl) (by kernel_rfl) (fun _ _ _ h => h) (Or.inl ⟨by rfl, ?_⟩) (by assumption) ?_
      rotate_left
      · intro W hS
        try dsimp only at hS
        go_simp
        try with_reducible rfl
      simp only [List.getElem_toArray, List.getElem_cons_succ, List.getElem_cons_zero, Act.put, List.setIfInBounds_toArray, List.set_cons_zero, List.set_cons_succ]
      refine wpAnyH_take (i := 2) (v := ?_) rfl (by kernel_rfl) (by kernel_rfl) (by kernel_rfl) (fun _ _ _ h => h) (Or.inl ⟨by rfl, ?_⟩) (by assumption) ?_
      rotate_left
      · intro W hS
        try dsimp only at hS
        go_simp
        try with_reducible rfl
      simp only [List.getElem_toArray, List.getElem_cons_succ, List.getElem_cons_zero, Act.put, List.setIfInBounds_toArray, List.set_cons_zero, List.set_cons_succ]
      refine wpAnyH_take (i := 3) (v := ?_) rfl (by kernel_rfl) (by kernel_rfl) (by kernel_rfl) (fun _ _ _ h => h) (Or.inl ⟨by rfl, ?_⟩) (by assumption) ?_
      rotate_left
      · intro W hS
        try dsimp only at hS
        go_simp
        try with_reducible rfl
      simp only [List.getElem_toArray, List.getElem_cons_succ, List.getElem_cons_zero, Act.put, List.setIfInBounds_toArray, List.set_cons_zero, List.set_cons_succ]
      refine wpAnyH_ready (rs := [4]) (by kernel_rfl) (by simp) ?_
      refine AllReadyH.cons rfl (fun K hK => ?_) AllReadyH.nil
      go_simp
      refine hK.out _ _ HQS.out (fun hHeld => ?_)
      clear hK K
      try simp only [List.getElem_toArray, List.getElem_cons_succ, List.getElem_cons_zero, Act.put, List.setIfInBounds_toArray, List.set_cons_zero, List.set_cons_succ]
      refine wpAnyH_take (i := 5) (v := ?_) rfl (by kernel_rfl) (by kernel_rfl) (by kernel_rfl) (fun _ _ _ h => h) (Or.inl ⟨by rfl, ?_⟩) (by assumption) ?_
      rotate_left
      · intro W hS
        try dsimp only at hS
        go_simp
        try with_reducible rfl
      simp only [List.getElem_toArray, List.getElem_cons_succ, List.getElem_cons_zero, Act.put, List.setIfInBounds_toArray, List.set_cons_zero, List.set_cons_succ]
      refine wpAnyH_done (by kernel_rfl) ?_ _
      obtain ⟨q01, q02, q03⟩ := HQ0.out
      go_wp2
      refine bodyPost_ret (v := .tuple #[.agg #[.int .i64 bg, .int .i64 bl, .slice ab bk cb], .bool qb]) (by simp [results, Tryz.results12, go_sem, q01, q02, q03]) rfl HFIN.out

end Go.Proofs.YtacfcfbleogioaaGreatDoor
