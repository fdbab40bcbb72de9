/-
  The walk of the law ManPlays at every files, manifest and troubles. Conditions: the slices lead to what they are said to, no longer than 2 to the 47; the library's table of powers of ten and its two errors are laid; errors.errorType holds its handle.
-/
import Derived.Test.YtacfcfbleogioaaGreatDoorMRNw
import Derived.Test.YtacfcfbleogioaaGreatDoorMROr
import Derived.Test.YtacfcfbleogioaaGreatDoorRLoadA
import Derived.Test.YtacfcfbleogioaaGreatDoorMContA
import Derived.Test.YtacfcfbleogioaaGreatDoorFCodeA
import Derived.Test.YtacfcfbleogioaaGreatDoorMRefA
import Derived.Test.YtacfcfbleogioaaGreatDoorMAwake
import Derived.Test.YtacfcfbleogioaaGreatDoorMOpenA
import Derived.Test.YtacfcfbleogioaaGreatDoorMClean
namespace Go.Proofs.YtacfcfbleogioaaGreatDoor
open Go.RowKit Go.Lib Go.Joins
open List (getElem_toArray getElem_cons_succ getElem_cons_zero setIfInBounds_toArray set_cons_zero set_cons_succ)

/-- A stronger condition serves. -/
theorem wpAnyH_more8 {P : Program} {md : Region.Mode} {ops : Array Oper} {Q : Exit → Act → World → Prop} {S S2 : World → Prop} (h2 : ∀ w, S2 w → S w) : ∀ (fuel : Nat) (listed : Array Bool) (a : Act) (w : World), wpAnyH P md ops Q S2 fuel listed a w → wpAnyH P md ops Q S fuel listed a w
  | 0, _, _, _, h => h
  | fuel + 1, _, _, _, h => ⟨h.1, fun i hi => wpOp_mono (fun a' w' h' => ⟨h2 w' h'.1, wpAnyH_more8 h2 fuel _ a' w' h'.2⟩) (h.2 i hi)⟩
theorem Both.go1 {w0 w w' : World} {S1 S2 S1' : Nat → Prop} {B1 B2 : Nat} {d d' e : Dsk} (h : Both w0 w S1 B1 d S2 B2 e) (hl : Live w0 w' S1' B1 d') (hf : Fresh S1 w.heap.size S1') (hk : Keeps S1 w w') : Both w0 w' S1' B1 d' S2 B2 e :=
  ⟨hl, h.ref.keep hk (fun k e1 e2 => h.dis k e2 e1), h.own, fun k e1 e2 => by
    rcases hf k e1 with h1 | h1
    · exact h.dis k h1 e2
    · have := h.ref.2.1 k e2; omega⟩
theorem ref_row {w : World} {S : Nat → Prop} {B : Nat} {d : Dsk} (h : RefD w S B d) : ∃ la lc, (∀ W, Below w.heap.size w W → W.cell? ⟨B, 1, none⟩ = some (.slice la d.L.length lc)) ∧ Fils w S la (d.L.map toI) := by
  obtain ⟨hi, hS, lv, ta, tn, tc, Sd, St, hat⟩ := h
  obtain ⟨la, lc, rfl, hfl, _, _, _⟩ := hat.fils
  exact ⟨la, lc, fun W hb => (cell_of_block (block_below hb hat.blk) 1).trans rfl, hfl⟩
theorem tr_run8 : ∀ (l : List Opn) (d : Dsk), (runB d l).2.tr = d.tr
  | [], _ => rfl
  | o :: l, d => by
    rw [runB]
    split
    · rw [tr_run8 l]; exact tr_step8 d o
    · exact tr_step8 d o
theorem tr_write8 (d : Dsk) (m : Mfs) : (wrM d m).2.tr = d.tr := by
  unfold wrM
  split
  · rfl
  · exact tr_run8 _ _
theorem loadS_calm8 : ∀ {L : List FilI} {d d' : Dsk}, loadS L d = some d' → d'.tr = d.tr ∧ d'.ops = d.ops ∧ d'.room = d.room
  | [], d, d', h => by
    obtain rfl : d = d' := by simpa [loadS] using h
    exact ⟨rfl, rfl, rfl⟩
  | f :: L, d, d', h => by
    unfold loadS at h
    split at h
    · obtain ⟨h1, h2, h3⟩ := loadS_calm8 h
      exact ⟨h1, h2, h3⟩
    · cases h
theorem used_data {d : Dsk} {M : Nat} (h : used d.L ≤ M) : ∀ f ∈ d.L.map toI, f.data.length ≤ M := fun f hf => by
  obtain ⟨x, hx, rfl⟩ := List.mem_map.1 hf
  exact Nat.le_trans (used_mem hx) h

set_option maxRecDepth 100000 in
set_option maxHeartbeats 32000000 in
theorem law_plays8 (fa : Option Addr) (L : List FilI) (nf cf : Nat) (g l : Int) (a : Option Addr) (segs : List Int) (n c : Nat) (ta : Option Addr) (tl : List Tro) (nt ct : Nat) (w : World) (ht : Tab w) (he : Errs w) (hgd : Handle w) (hf : Fils w (Was0 w) fa L) (hnf : L.length = nf) (hbf : nf ≤ 140737488355328) (hdf : ∀ f ∈ L, f.data.length ≤ 140737488355328)
    (hr : IRow w (Was0 w) a segs) (hn : segs.length = n) (hm : n ≤ 140737488355328) (h0 : a = none → c = 0) (hrt : RowT w (Was0 w) ta tl) (hnt : tl.length = nt) (_hbt : nt ≤ 140737488355328) (hwt : ∀ t ∈ tl, (Lit.int .i64 t.at_).wf = true) :
    Calls Tryz.prog 3 #[.slice fa nf cf, .agg #[.int .i64 g, .int .i64 l, .slice a n c], .slice ta nt ct] w (Leaves (.bool true) w) := by
  obtain ⟨W1, hW1⟩ : ∃ W, w.alloc (.cells #[.int .i64 g, .int .i64 l, .slice a n c] 25) = W := ⟨_, rfl⟩
  have hb1 : Below w.heap.size w W1 := by rw [← hW1]; exact (Below.refl _ _).alloc (Nat.le_refl _) _
  have hk1 : W1.heap[w.heap.size]? = some (.cells #[.int .i64 g, .int .i64 l, .slice a n c] 25 (0, 0)) := by rw [← hW1]; exact heap_alloc_new _ _
  have HW1 := Lib.hid hW1
  have HB1 := Lib.hid hb1
  have HTAB := Lib.hid (ht.below hb1)
  have HER := Lib.hid (he.below hb1)
  have HGD := Lib.hid (hgd.below hb1)
  have HR := Lib.hid (hr.below hb1)
  have HRT := Lib.hid (hrt.keep (keeps_below hb1 Non) (fun _ _ h => h))
  have HFL := Lib.hid (hf.keep (keeps_below hb1 Non) (fun _ _ h => h))
  have HN := Lib.hid hn
  have HNF := Lib.hid hnf
  have HNT := Lib.hid hnt
  have HDF := Lib.hid hdf
  have HWT := Lib.hid hwt
  have HA0 := Lib.hid h0
  have HWS : Hid (∀ k, Was0 w k → k < W1.heap.size) := Lib.hid (fun k hk => Nat.lt_of_lt_of_le hk hb1.size)
  have HC : Hid (∀ W, Below W1.heap.size W1 W → W.cell? ⟨w.heap.size, 0, none⟩ = some (.int .i64 g) ∧ W.cell? ⟨w.heap.size, 1, none⟩ = some (.int .i64 l) ∧ W.cell? ⟨w.heap.size, 2, none⟩ = some (.slice a n c)) := Lib.hid (fun W hb => by
    have h := block_below hb hk1
    exact ⟨(cell_of_block h 0).trans rfl, (cell_of_block h 1).trans rfl, (cell_of_block h 2).trans rfl⟩)
  clear hW1 hb1 hk1 ht he hgd hf hr hn hnf hdf hrt hnt hwt h0
  go_enter Tryz.func3, Tryz.ntmps3
  go_wp2_with fail
  rw [HW1.out]
  with_reducible refine (awake8_calls W1 HTAB.out).mono ?_
  rintro e w2 ⟨rfl, hb2⟩
  have HB2 := Lib.hid hb2
  have HSM := Lib.hid (small_calls fa L cf nf w2 (HFL.out.keep (keeps_below hb2 Non) (fun _ _ h => h)) HNF.out (by omega) (fun f hf => Nat.le_trans (HDF.out f hf) (by decide)))
  obtain ⟨q, hq⟩ : ∃ q, smallF L 0 0 = q := ⟨_, rfl⟩
  rw [hq] at HSM
  have HQ := Lib.hid hq
  clear hb2 hq
  go_wp2_with fail
  with_reducible refine HSM.out.mono ?_
  rintro e w3 ⟨rfl, k3, hk3⟩
  have hb23 : Below w2.heap.size w2 w3 := by rw [hk3]; exact below_drewN _ _
  have HB3 := Lib.hid (below_then HB2.out hb23)
  have HB03 := Lib.hid (below_then HB1.out HB3.out)
  clear hk3 hb23 HSM HB2
  obtain ⟨c0, c1, c2⟩ := HC.out _ HB3.out
  cases q with
  | false =>
    go_wp2
    go_ret
    exact ⟨rfl, HB03.out⟩
  | true =>
  by_cases hs1 : 1000 < n
  · have d1 : decide ((n : Int) > 1000) = true := by simp; omega
    go_wp2
    go_ret
    exact ⟨rfl, HB03.out⟩
  have d1 : decide ((n : Int) > 1000) = false := by simp; omega
  by_cases hs2 : 100 < nt
  · have d2 : decide ((nt : Int) > 100) = true := by simp; omega
    go_wp2
    go_ret
    exact ⟨rfl, HB03.out⟩
  have d2 : decide ((nt : Int) > 100) = false := by simp; omega
  obtain ⟨hs3, hs4, hs5⟩ := smallF_total L 0 0 HQ.out
  have hnf100 : nf ≤ 100 := by
    rcases hs5 with h | h
    · rw [HNF.out] at h; omega
    · rw [h] at HNF; have := HNF.out; simp at this; omega
  have HLD := Lib.hid (load_calls fa L cf nf 32768 w3 (HFL.out.keep (keeps_below HB3.out Non) (fun _ _ h => h)) HNF.out (by omega) (fun f hf => Nat.le_trans (hs4 f hf) (by decide)) (by omega) (by decide))
  have HRLD := Lib.hid (fun W (hb : Below w3.heap.size w3 W) => rload_calls fa L cf nf 32768 W ((HFL.out.keep (keeps_below HB3.out Non) (fun _ _ h => h)).keep (keeps_below hb Non) (fun _ _ h => h)) HNF.out (by omega) (fun f hf => Nat.le_trans (hs4 f hf) (by decide)) (by omega) (by decide))
  obtain ⟨qd, hqd⟩ : ∃ q, loadS L (dsk0 32768) = q := ⟨_, rfl⟩
  rw [hqd] at HLD HRLD
  have HQD := Lib.hid hqd
  clear hs3 hs4 hs5 hqd c0 c1 c2
  have c2 := (HC.out _ HB3.out).2.2
  go_wp2_with fail
  clear d1 d2 c2
  with_reducible refine HLD.out.mono ?_
  rintro e w5 hld
  cases qd with
  | none =>
    obtain ⟨rfl, hb5⟩ := hld
    go_wp2_with fail
    with_reducible refine (HRLD.out _ hb5).mono ?_
    rintro e w6 ⟨rfl, hb6⟩
    have HB6 := Lib.hid (below_then HB03.out (below_then hb5 hb6))
    clear hb5 hb6
    go_wp2
    go_ret
    exact ⟨rfl, HB6.out⟩
  | some d =>
  obtain ⟨B1, S1, rfl, hd5, hf5, hb5⟩ := hld
  have HL5 : Hid (Live W1 w5 S1 B1 d) := Lib.hid (Live.born HB3.out hd5 hf5 hb5)
  have HB35 := Lib.hid hb5
  obtain ⟨htr, hop, hrm⟩ := loadS_calm8 HQD.out
  have HFEW : Hid (Few d 32768 0) := Lib.hid ⟨hd5.1, by have h1 := hd5.1.fit; rw [hrm] at h1; have h2 : (dsk0 32768).room = 32768 := rfl; omega, by rw [hop]; exact Int.le_refl _, by rw [hop]; exact Int.le_refl _⟩
  clear hd5 hf5 hb5 htr hop hrm HLD
  go_wp2_with fail
  with_reducible refine (HRLD.out _ HB35.out).mono ?_
  rintro e w6 ⟨B2, S2, rfl, hd6, hf6, hb6⟩
  have HBO6 : Hid (Both W1 w6 S1 B1 d S2 B2 d) := Lib.hid ⟨HL5.out.quiet hb6, hd6, fun k e => by
    rcases hf6 k e with h | h
    · exact h.elim
    · exact Nat.le_trans HL5.out.bel.size h, fun k e hk => by
    rcases hf6 k hk with h | h
    · exact h.elim
    · have := HL5.out.disk.2.1 k e; omega⟩
  clear hd6 hf6 hb6 HRLD HQD HQ HB3 HB03 HB35 HL5 HDF HNF HFL
  -- the newest manifest, twice
  have HU : Hid (used d.L ≤ 1073741824) := Lib.hid (Nat.le_trans HFEW.out.used (by decide))
  have HNW := Lib.hid (newest_calls w6 HBO6.out.live.disk HU.out (HTAB.out.below HBO6.out.live.bel) (HER.out.below HBO6.out.live.bel))
  unfold NewOut at HNW
  obtain ⟨⟨mg, ml, ms⟩, hMM⟩ : ∃ x, (newB d.L).getD noM = x := ⟨_, rfl⟩
  obtain ⟨isb, hib⟩ : ∃ x, (newB d.L).isSome = x := ⟨_, rfl⟩
  rw [hMM, hib] at HNW
  obtain ⟨k, hk⟩ : ∃ k, ms.length = k := ⟨_, rfl⟩
  have HK := Lib.hid hk
  have hk64 : k ≤ 64 := by
    have h := newM_segs d.L
    unfold newM at h
    have h2 : ((newB d.L).getD ⟨0, 0, []⟩) = ⟨mg, ml, ms⟩ := hMM
    rw [h2] at h
    rw [← hk]
    exact h
  have HMI := Lib.hid (And.intro hMM hib)
  clear hMM hib hk
  go_wp2_with fail
  with_reducible refine HNW.out.mono ?_
  rintro e w7 ⟨v7, rfl, hmv7, hb7⟩
  obtain ⟨a7, c7, S7, hv7, hir7, _, _, _, _⟩ := hmv7
  have hv7' : v7 = .agg #[.int .i64 mg, .int .i64 ml, .slice a7 k c7] := by rw [hv7, ← HK.out]; rfl
  clear hv7
  subst hv7'
  obtain ⟨W8, hW8⟩ : ∃ W, w7.alloc (.cells #[.int .i64 mg, .int .i64 ml, .slice a7 k c7] 25) = W := ⟨_, rfl⟩
  have hb78 : Below w7.heap.size w7 W8 := by rw [← hW8]; exact (Below.refl _ _).alloc (Nat.le_refl _) _
  have HK8 : Hid (W8.heap[w7.heap.size]? = some (.cells #[.int .i64 mg, .int .i64 ml, .slice a7 k c7] 25 (0, 0))) := Lib.hid (by rw [← hW8]; exact heap_alloc_new _ _)
  have HBO8 := Lib.hid (HBO6.out.quiet (below_then hb7 hb78))
  have HIR8 := Lib.hid (hir7.below hb78)
  have HNW2 := Lib.hid (rnewest8_calls W8 HBO8.out.ref HU.out)
  unfold NewOut at HNW2
  rw [HMI.out.1, HMI.out.2] at HNW2
  clear hb7 hb78 hir7 HNW
  go_wp2_with fail
  try rw [hW8]
  clear hW8
  with_reducible refine HNW2.out.mono ?_
  rintro e w9 ⟨v9, rfl, hmv9, hb9⟩
  obtain ⟨a9, c9, S9, hv9, hir9, _, _, _, _⟩ := hmv9
  have hv9' : v9 = .agg #[.int .i64 mg, .int .i64 ml, .slice a9 k c9] := by rw [hv9, ← HK.out]; rfl
  clear hv9
  subst hv9'
  obtain ⟨W10, hW10⟩ : ∃ W, w9.alloc (.cells #[.int .i64 mg, .int .i64 ml, .slice a9 k c9] 25) = W := ⟨_, rfl⟩
  have hb910 : Below w9.heap.size w9 W10 := by rw [← hW10]; exact (Below.refl _ _).alloc (Nat.le_refl _) _
  have HK10 : Hid (W10.heap[w9.heap.size]? = some (.cells #[.int .i64 mg, .int .i64 ml, .slice a9 k c9] 25 (0, 0))) := Lib.hid (by rw [← hW10]; exact heap_alloc_new _ _)
  have HB810 := Lib.hid (below_then hb9 hb910)
  have HBO10 := Lib.hid (HBO8.out.quiet HB810.out)
  have HIR10 := Lib.hid (hir9.below hb910)
  have HW10 := Lib.hid hW10
  have HCELL : Hid (∀ W, Below W10.heap.size W10 W → W.cell? ⟨w7.heap.size, 0, none⟩ = some (.int .i64 mg) ∧ W.cell? ⟨w7.heap.size, 1, none⟩ = some (.int .i64 ml) ∧ W.cell? ⟨w7.heap.size, 2, none⟩ = some (.slice a7 k c7) ∧ W.cell? ⟨w9.heap.size, 0, none⟩ = some (.int .i64 mg) ∧ W.cell? ⟨w9.heap.size, 1, none⟩ = some (.int .i64 ml) ∧ W.cell? ⟨w9.heap.size, 2, none⟩ = some (.slice a9 k c9) ∧ W.cell? ⟨w.heap.size, 0, none⟩ = some (.int .i64 g) ∧ W.cell? ⟨w.heap.size, 1, none⟩ = some (.int .i64 l) ∧ W.cell? ⟨w.heap.size, 2, none⟩ = some (.slice a n c)) := Lib.hid (fun W hb => by
    obtain ⟨e0, e1, e2⟩ := HC.out _ (HBO10.out.quiet hb).live.bel
    have h8 := block_below (below_then HB810.out hb) HK8.out
    have h10 := block_below hb HK10.out
    exact ⟨(cell_of_block h8 0).trans rfl, (cell_of_block h8 1).trans rfl, (cell_of_block h8 2).trans rfl, (cell_of_block h10 0).trans rfl, (cell_of_block h10 1).trans rfl, (cell_of_block h10 2).trans rfl, e0, e1, e2⟩)
  have HSA : Hid (∀ W, Below W10.heap.size W10 W → Calls Tryz.prog 13 #[.agg #[.int .i64 mg, .int .i64 ml, .slice a7 k c7], .agg #[.int .i64 mg, .int .i64 ml, .slice a9 k c9]] W (Leaves (.bool true) W)) := Lib.hid (fun W hb => by
    have := rsame8_calls mg ml mg ml a7 a9 ms ms k c7 k c9 W (HIR8.out.below (below_then HB810.out hb)) HK.out (by omega) (HIR10.out.below hb) HK.out (by omega)
    rwa [sameM_self] at this)
  obtain ⟨m, hmm⟩ : ∃ m : Mfs, ⟨g, l, segs⟩ = m := ⟨_, rfl⟩
  obtain ⟨OS, hOS⟩ : ∃ x, orphM d m = x := ⟨_, rfl⟩
  obtain ⟨no, hno⟩ : ∃ x, OS.length = x := ⟨_, rfl⟩
  have HO1 : Hid (∀ W, Below W10.heap.size W10 W → Calls Tryz.prog 15 #[.pointer (some ⟨B1, 0, none⟩), .agg #[.int .i64 g, .int .i64 l, .slice a n c]] W (OrphOut d m W)) := Lib.hid (fun W hb => by
    have h := (HBO10.out.quiet hb).live
    rw [← hmm]
    exact orphans_calls g l a segs n c W h.disk (HR.out.below h.bel) HN.out (by omega) (HTAB.out.below h.bel) (HER.out.below h.bel))
  have HO2 : Hid (∀ W, Below W10.heap.size W10 W → Calls Tryz.prog 16 #[.pointer (some ⟨B2, 0, none⟩), .agg #[.int .i64 g, .int .i64 l, .slice a n c]] W (OrphOut d m W)) := Lib.hid (fun W hb => by
    have h := HBO10.out.quiet hb
    rw [← hmm]
    exact rorph8_calls g l a segs n c W h.ref (HR.out.below h.live.bel) HN.out (by omega))
  unfold OrphOut at HO1 HO2
  rw [hOS, hno] at HO1 HO2
  have hno9 : no ≤ 1099511627776 := by
    rw [← hno, ← hOS, ← orphL_all]
    exact Nat.le_trans (orphL_len _ _) (Nat.le_trans HFEW.out.inv.most (by decide))
  have HNO := Lib.hid hno
  have HMM := Lib.hid hmm
  have hqq : (isb != isb) = false := by simp
  have HEND : Hid (∀ W, Below W10.heap.size W10 W → Below w.heap.size w W) := Lib.hid (fun W hb => below_then HB1.out (HBO10.out.quiet hb).live.bel)
  clear hb9 hb910 hir9 HNW2 HBO6 HBO8 HK8 HK10 HIR8 HIR10 HMI HK HB810 hOS hno hmm hW10
  go_upto_region 13 with (fail)
  try rw [HW10.out]
  obtain ⟨x0, hx0⟩ : ∃ W, W10.drew = W := ⟨_, rfl⟩
  have hbx0 : Below W10.heap.size W10 x0 := by rw [← hx0]; exact below_drewN W10 1
  have HBx0 := Lib.hid hbx0
  refine wp_region_held_drew (S := fun W => W.cell? ⟨w7.heap.size, 0, none⟩ = some (.int .i64 mg) ∧ W.cell? ⟨w7.heap.size, 1, none⟩ = some (.int .i64 ml) ∧ W.cell? ⟨w7.heap.size, 2, none⟩ = some (.slice a7 k c7) ∧ W.cell? ⟨w9.heap.size, 0, none⟩ = some (.int .i64 mg) ∧ W.cell? ⟨w9.heap.size, 1, none⟩ = some (.int .i64 ml) ∧ W.cell? ⟨w9.heap.size, 2, none⟩ = some (.slice a9 k c9) ∧ W.cell? ⟨w.heap.size, 0, none⟩ = some (.int .i64 g) ∧ W.cell? ⟨w.heap.size, 1, none⟩ = some (.int .i64 l) ∧ W.cell? ⟨w.heap.size, 2, none⟩ = some (.slice a n c)) (by kernel_rfl) (by rw [hx0]; exact HCELL.out _ hbx0) (fun hHeld => ?_)
  rw [hx0] at hHeld ⊢
  clear hx0 hbx0
  refine tkH 0 (v := ?_) rfl ?_ ?_ (by kernel_rfl) (fun _ _ _ h => h) (by rfl) (by assumption)
  rotate_left
  · intro W hS; (try dsimp only at hS); go_simp; try with_reducible rfl
  simp only [getElem_toArray, getElem_cons_zero, Act.put, setIfInBounds_toArray, set_cons_zero, set_cons_succ]
  refine tkH 1 (v := ?_) rfl ?_ ?_ (by kernel_rfl) (fun _ _ _ h => h) (by rfl) (by assumption)
  rotate_left
  · intro W hS; (try dsimp only at hS); go_simp; try with_reducible rfl
  simp only [getElem_toArray, getElem_cons_succ, getElem_cons_zero, Act.put, setIfInBounds_toArray, set_cons_zero, set_cons_succ]
  refine tkH 2 (v := ?_) rfl ?_ ?_ (by kernel_rfl) (fun _ _ _ h => h) (by rfl) (by assumption)
  rotate_left
  · intro W hS; (try dsimp only at hS); go_simp; try with_reducible rfl
  simp only [getElem_toArray, getElem_cons_succ, getElem_cons_zero, Act.put, setIfInBounds_toArray, set_cons_zero, set_cons_succ]
  refine tkH 3 (v := ?_) rfl ?_ ?_ (by kernel_rfl) (fun _ _ _ h => h) (by rfl) (by assumption)
  rotate_left
  · intro W hS; (try dsimp only at hS); go_simp; try with_reducible rfl
  simp only [getElem_toArray, getElem_cons_succ, getElem_cons_zero, Act.put, setIfInBounds_toArray, set_cons_zero, set_cons_succ]
  refine tkH 4 (v := ?_) rfl ?_ ?_ (by kernel_rfl) (fun _ _ _ h => h) (by rfl) (by assumption)
  rotate_left
  · intro W hS; (try dsimp only at hS); go_simp; try with_reducible rfl
  simp only [getElem_toArray, getElem_cons_succ, getElem_cons_zero, Act.put, setIfInBounds_toArray, set_cons_zero, set_cons_succ]
  refine tkH 5 (v := ?_) rfl ?_ ?_ (by kernel_rfl) (fun _ _ _ h => h) (by rfl) (by assumption)
  rotate_left
  · intro W hS; (try dsimp only at hS); go_simp; try with_reducible rfl
  simp only [getElem_toArray, getElem_cons_succ, getElem_cons_zero, Act.put, setIfInBounds_toArray, set_cons_zero, set_cons_succ]
  refine wpAnyH_ready (rs := [6]) (by kernel_rfl) (by simp) ?_
  refine AllReadyH.cons rfl (fun K hK => ?_) AllReadyH.nil
  go_simp
  with_reducible refine (HSA.out _ HBx0.out).mono ?_
  rintro e x1 ⟨rfl, hb⟩
  have HBx1 := Lib.hid (below_then HBx0.out hb)
  clear hb
  refine hK.out _ _ (HCELL.out _ HBx1.out) (fun hHeld => ?_)
  clear hK K
  try simp only [getElem_toArray, getElem_cons_succ, getElem_cons_zero, Act.put, setIfInBounds_toArray, set_cons_zero, set_cons_succ]
  refine tkH 7 (v := ?_) rfl ?_ ?_ (by kernel_rfl) (fun _ _ _ h => h) (by rfl) (by assumption)
  rotate_left
  · intro W hS; (try dsimp only at hS); go_simp; try with_reducible rfl
  simp only [getElem_toArray, getElem_cons_succ, getElem_cons_zero, Act.put, setIfInBounds_toArray, set_cons_zero, set_cons_succ]
  refine tkH 8 (v := ?_) rfl ?_ ?_ (by kernel_rfl) (fun _ _ _ h => h) (by rfl) (by assumption)
  rotate_left
  · intro W hS; (try dsimp only at hS); go_simp; try with_reducible rfl
  simp only [getElem_toArray, getElem_cons_succ, getElem_cons_zero, Act.put, setIfInBounds_toArray, set_cons_zero, set_cons_succ]
  refine tkH 9 (v := ?_) rfl ?_ ?_ (by kernel_rfl) (fun _ _ _ h => h) (by rfl) (by assumption)
  rotate_left
  · intro W hS; (try dsimp only at hS); go_simp; try with_reducible rfl
  simp only [getElem_toArray, getElem_cons_succ, getElem_cons_zero, Act.put, setIfInBounds_toArray, set_cons_zero, set_cons_succ]
  refine tkH 10 (v := ?_) rfl ?_ ?_ (by kernel_rfl) (fun _ _ _ h => h) (by rfl) (by assumption)
  rotate_left
  · intro W hS; (try dsimp only at hS); go_simp; try with_reducible rfl
  simp only [getElem_toArray, getElem_cons_succ, getElem_cons_zero, Act.put, setIfInBounds_toArray, set_cons_zero, set_cons_succ]
  refine tkH 11 (v := ?_) rfl ?_ ?_ (by kernel_rfl) (fun _ _ _ h => h) (by rfl) (by assumption)
  rotate_left
  · intro W hS; (try dsimp only at hS); go_simp; try with_reducible rfl
  simp only [getElem_toArray, getElem_cons_succ, getElem_cons_zero, Act.put, setIfInBounds_toArray, set_cons_zero, set_cons_succ]
  refine tkH 13 (v := ?_) rfl ?_ ?_ (by kernel_rfl) (fun _ _ _ h => h) (by rfl) (by assumption)
  rotate_left
  · intro W hS; (try dsimp only at hS); go_simp; try with_reducible rfl
  simp only [getElem_toArray, getElem_cons_succ, getElem_cons_zero, Act.put, setIfInBounds_toArray, set_cons_zero, set_cons_succ]
  refine tkH 14 (v := ?_) rfl ?_ ?_ (by kernel_rfl) (fun _ _ _ h => h) (by rfl) (by assumption)
  rotate_left
  · intro W hS; (try dsimp only at hS); go_simp; try with_reducible rfl
  simp only [getElem_toArray, getElem_cons_succ, getElem_cons_zero, Act.put, setIfInBounds_toArray, set_cons_zero, set_cons_succ]
  refine wpAnyH_ready (rs := [12]) (by kernel_rfl) (by simp) ?_
  refine AllReadyH.cons rfl (fun K hK => ?_) AllReadyH.nil
  go_simp
  with_reducible refine (HO1.out _ HBx1.out).mono ?_
  rintro e x2 ⟨a12, c12, S12, rfl, hv12, _, hb⟩
  have HBx2 := Lib.hid (below_then HBx1.out hb)
  have HV12 := Lib.hid hv12
  clear hb hv12
  refine hK.out _ _ (HCELL.out _ HBx2.out) (fun hHeld => ?_)
  clear hK K
  try simp only [getElem_toArray, getElem_cons_succ, getElem_cons_zero, Act.put, setIfInBounds_toArray, set_cons_zero, set_cons_succ]
  refine wpAnyH_ready (rs := [15]) (by kernel_rfl) (by simp) ?_
  refine AllReadyH.cons rfl (fun K hK => ?_) AllReadyH.nil
  go_simp
  with_reducible refine (HO2.out _ HBx2.out).mono ?_
  rintro e x3 ⟨a15, c15, S15, rfl, hv15, _, hb⟩
  have HBx3 := Lib.hid (below_then HBx2.out hb)
  have HTX := Lib.hid (texts_calls a12 a15 OS OS no c12 no c15 x3 (HV12.out.below hb) HNO.out hno9 hv15 HNO.out hno9)
  rw [decide_eq_true (rfl : OS = OS)] at HTX
  clear hb hv15 HV12
  refine hK.out _ _ (HCELL.out _ HBx3.out) (fun hHeld => ?_)
  clear hK K
  try simp only [getElem_toArray, getElem_cons_succ, getElem_cons_zero, Act.put, setIfInBounds_toArray, set_cons_zero, set_cons_succ]
  refine wpAnyH_ready (rs := [16]) (by kernel_rfl) (by simp) ?_
  refine AllReadyH.cons rfl (fun K hK => ?_) AllReadyH.nil
  go_simp
  with_reducible refine (HTX.out).mono ?_
  rintro e x4 ⟨rfl, hb⟩
  have HBx4 := Lib.hid (below_then HBx3.out hb)
  clear hb
  refine hK.out _ _ (HCELL.out _ HBx4.out) (fun hHeld => ?_)
  clear hK K
  try simp only [getElem_toArray, getElem_cons_succ, getElem_cons_zero, Act.put, setIfInBounds_toArray, set_cons_zero, set_cons_succ]
  refine tkH 17 (v := ?_) rfl ?_ ?_ (by kernel_rfl) (fun _ _ _ h => h) (by rfl) (by assumption)
  rotate_left
  · intro W hS; (try dsimp only at hS); go_simp; try with_reducible rfl
  simp only [getElem_toArray, getElem_cons_succ, getElem_cons_zero, Act.put, setIfInBounds_toArray, set_cons_zero, set_cons_succ]
  refine tkH 18 (v := ?_) rfl ?_ ?_ (by kernel_rfl) (fun _ _ _ h => h) (by rfl) (by assumption)
  rotate_left
  · intro W hS; (try dsimp only at hS); go_simp; try with_reducible rfl
  simp only [getElem_toArray, getElem_cons_succ, getElem_cons_zero, Act.put, setIfInBounds_toArray, set_cons_zero, set_cons_succ]
  refine wpAnyH_done (by kernel_rfl) ?_ _
  have HBO11 := Lib.hid (HBO10.out.quiet HBx4.out)
  have HARM := Lib.hid (arm_calls ta tl ct nt x4 HBO11.out.live.disk (HRT.out.keep (keeps_below HBO11.out.live.bel Non) (fun _ _ h => h)) HNT.out (fun k hk => ⟨fun e => by have h1 := HWS.out k hk; have h2 := HBO11.out.live.own k e; omega, by have h1 := HWS.out k hk; have h2 := HBO11.out.live.bel.size; omega⟩) (by omega) HWT.out)
  have HRARM : Hid (∀ W S B, RefD W S B d → RowT W (Was0 w) ta tl → Calls Tryz.prog 18 #[.pointer (some ⟨B, 0, none⟩), .slice ta nt ct] W (RArmOut W S B (arm tl d))) := Lib.hid (fun W S B h1 h2 => by
    have h := rarm_calls ta tl ct W h1 h2 (by rw [HNT.out]; omega)
    rwa [HNT.out] at h)
  obtain ⟨d1, hd1⟩ : ∃ x, arm tl d = x := ⟨_, rfl⟩
  rw [hd1] at HARM HRARM
  have HFEW1 : Hid (Few d1 32768 0) := Lib.hid (by rw [← hd1]; exact HFEW.out.arm tl)
  have HTR1 : Hid (d1.tr.length ≤ 100) := Lib.hid (by rw [← hd1]; show tl.length ≤ 100; rw [HNT.out]; omega)
  clear hd1 HCELL HSA HO1 HO2 HTX HBO10 HBx0 HBx1 HBx2 HBx3 HBx4 HEND HU HFEW HNO hqq hHeld hno9 hk64 HW10
  go_wp2_with fail
  with_reducible refine HARM.out.mono ?_
  rintro e w11 ⟨rfl, ht11⟩
  obtain ⟨S1b, hbo11⟩ := HBO11.out.turn1 ht11
  have HBO12 := Lib.hid hbo11
  have HRA := Lib.hid (HRARM.out w11 S2 B2 hbo11.ref (HRT.out.keep (keeps_below hbo11.live.bel Non) (fun _ _ h => h)))
  clear ht11 hbo11 HARM HRARM HBO11
  go_wp2_with fail
  with_reducible refine HRA.out.mono ?_
  rintro e w12 ⟨rfl, ht12⟩
  obtain ⟨S2b, hbo12⟩ := HBO12.out.turn2 ht12
  have HBO13 := Lib.hid hbo12
  have HMW := Lib.hid (mwrite_calls g l a segs n c hbo12.live HTAB.out (HR.out.below hbo12.live.bel) HN.out (by omega) HA0.out HFEW1.out (by decide) (by decide))
  have HRW : Hid (∀ W, RefD W S2b B2 d1 → Below W1.heap.size W1 W → Calls Tryz.prog 20 #[.pointer (some ⟨B2, 0, none⟩), .agg #[.int .i64 g, .int .i64 l, .slice a n c]] W (RDoes W S2b B2 (.int .i64 (wrM d1 ⟨g, l, segs⟩).1) (wrM d1 ⟨g, l, segs⟩).2)) := Lib.hid (fun W h hb => rwrite8_calls g l a segs n c h (HR.out.below hb) (fun k hk => ⟨HBO13.out.off2 k (HWS.out k hk), by have h1 := HWS.out k hk; have h2 := hb.size; omega⟩) HN.out (by omega) HFEW1.out (by decide) (by decide) (by have := HTR1.out; omega))
  rw [HMM.out] at HMW HRW
  obtain ⟨cw, hcw⟩ : ∃ x, (wrM d1 m).1 = x := ⟨_, rfl⟩
  obtain ⟨d2, hd2⟩ : ∃ x, (wrM d1 m).2 = x := ⟨_, rfl⟩
  rw [hcw, hd2] at HMW
  rw [hcw, hd2] at HRW
  have HFEW2 : Hid (Few d2 33048 5) := Lib.hid (by rw [← hd2]; exact (HFEW1.out.write8 m).mono (by decide) (by decide))
  have HTR2 : Hid (d2.tr.length ≤ 100) := Lib.hid (by rw [← hd2, tr_write8]; exact HTR1.out)
  clear ht12 hbo12 HRA HBO12 hcw hd2
  obtain ⟨c0, c1, c2⟩ := HC.out _ HBO13.out.live.bel
  unfold MSt at HMW
  go_wp2_with fail
  with_reducible refine HMW.out.mono ?_
  rintro e w13 ⟨ev, rfl, herr, S1c, hl13, hf13, hk13, _⟩
  have HBO14 := Lib.hid (HBO13.out.go1 hl13 hf13 hk13)
  have HERR := Lib.hid herr
  clear herr hl13 hf13 hk13 HMW c0 c1 c2
  obtain ⟨c0, c1, c2⟩ := HC.out _ HBO14.out.live.bel
  go_wp2_with fail
  with_reducible refine (HRW.out _ HBO14.out.ref HBO14.out.live.bel).mono ?_
  rintro e w14 ⟨rfl, ht14⟩
  have HERR2 : Hid (ErrAt w12.heap.size w14 cw g ev) := Lib.hid (by
    obtain ⟨S9, _, _, hk9⟩ := ht14
    exact HERR.out.off hk9 (fun k hk => HBO13.out.ref.2.1 k hk))
  obtain ⟨S2c, hbo14⟩ := HBO14.out.turn2 ht14
  have HBO15 := Lib.hid hbo14
  clear ht14 hbo14 HRW HERR HBO13 HBO14 HFEW1 HTR1 c0 c1 c2
  -- codes, places, files
  obtain ⟨la, lc, hla, hfl⟩ := ref_row HBO15.out.ref
  obtain ⟨LB, hLB⟩ : ∃ x, d2.L.map toI = x := ⟨_, rfl⟩
  obtain ⟨nb, hnb⟩ : ∃ x, d2.L.length = x := ⟨_, rfl⟩
  have HDB : Hid (∀ f ∈ LB, f.data.length ≤ 1073741824) := Lib.hid (by rw [← hLB]; exact used_data (Nat.le_trans HFEW2.out.used (by decide)))
  have HNB : Hid (LB.length = nb) := Lib.hid (by rw [← hLB, List.length_map]; exact hnb)
  have hnb64 : nb ≤ 64 := by rw [← hnb]; exact HFEW2.out.inv.most
  rw [hnb] at hla
  rw [hLB] at hfl
  have HFLB := Lib.hid hfl
  have HCE : Hid (∀ W, Below w14.heap.size w14 W → W.cell? ⟨w.heap.size, 0, none⟩ = some (.int .i64 g) ∧ W.cell? ⟨B2, 1, none⟩ = some (.slice la nb lc)) := Lib.hid (fun W hb => ⟨(HC.out _ (HBO15.out.quiet hb).live.bel).1, hla W hb⟩)
  have HCODE : Hid (∀ W, Below w14.heap.size w14 W → Calls Tryz.prog 21 #[ev] W (Leaves1 (.int .i64 cw) W)) := Lib.hid (fun W hb => code_calls cw g ev W (HERR2.out.below hb) (HGD.out.below (HBO15.out.quiet hb).live.bel))
  have HATC : Hid (∀ W, Below w14.heap.size w14 W → Calls Tryz.prog 22 #[ev] W (Leaves1 (.int .i64 (if cw = 0 then 0 else g)) W)) := Lib.hid (fun W hb => at_calls cw g ev W (HERR2.out.below hb) (HGD.out.below (HBO15.out.quiet hb).live.bel))
  have HFIL : Hid (∀ W, Below w14.heap.size w14 W → Calls Tryz.prog 24 #[.pointer (some ⟨B1, 0, none⟩)] W (FilesOut LB W)) := Lib.hid (fun W hb => by
    rw [← hLB]
    exact files_calls W (HBO15.out.quiet hb).live.disk (Nat.le_trans HFEW2.out.used (by decide)))
  unfold FilesOut at HFIL
  rw [HNB.out] at HFIL
  have HSAM : Hid (∀ W (S' : Nat → Prop) (a' : Option Addr) (c' : Nat), Below w14.heap.size w14 W → Fils W S' a' LB → Calls Tryz.prog 23 #[.slice a' nb c', .slice la nb lc] W (Tells (.bool true) W)) := Lib.hid (fun W S' a' c' hb h => by
    have h2 := same_calls a' la LB LB c' lc nb nb W h (HFLB.out.keep (keeps_below hb Non) (fun _ _ h => h)) HNB.out HNB.out (by omega) (by omega) HDB.out HDB.out
    rwa [sameB_eq.2 rfl] at h2)
  clear hla hfl hLB hnb
  go_upto_region 19 with (fail)
  go_cut [113] (fun bv wx => bv = .bool false ∧ Below w14.heap.size w14 wx)
  case first =>
    have hcc : (cw != cw) = false := by simp
    by_cases hc : cw = 0
    · subst hc
      rw [if_pos rfl] at HATC
      have hz : ((0 : Int) != 0) = false := rfl
      by_cases hg0 : g = 0
      · have hgz : ((0 : Int) != g) = false := by simp [hg0]
        clear hg0
        obtain ⟨x0, hx0⟩ : ∃ W, w14.drew = W := ⟨_, rfl⟩
        have hbx0 : Below w14.heap.size w14 x0 := by rw [← hx0]; exact below_drewN w14 1
        have HBx0 := Lib.hid hbx0
        refine wp_region_held_drew (S := fun W => W.cell? ⟨w.heap.size, 0, none⟩ = some (.int .i64 g) ∧ W.cell? ⟨B2, 1, none⟩ = some (.slice la nb lc)) (by kernel_rfl) (by rw [hx0]; exact HCE.out _ hbx0) (fun hHeld => ?_)
        rw [hx0] at hHeld ⊢
        clear hx0 hbx0
        refine tkH 0 (v := ?_) rfl ?_ ?_ (by kernel_rfl) (fun _ _ _ h => h) (by rfl) (by assumption)
        rotate_left
        · intro W hS; (try dsimp only at hS); go_simp; try with_reducible rfl
        simp only [getElem_toArray, getElem_cons_zero, Act.put, setIfInBounds_toArray, set_cons_zero, set_cons_succ]
        refine tkH 2 (v := ?_) rfl ?_ ?_ (by kernel_rfl) (fun _ _ _ h => h) (by rfl) (by assumption)
        rotate_left
        · intro W hS; (try dsimp only at hS); go_simp; try with_reducible rfl
        simp only [getElem_toArray, getElem_cons_succ, getElem_cons_zero, Act.put, setIfInBounds_toArray, set_cons_zero, set_cons_succ]
        refine wpAnyH_ready (rs := [1]) (by kernel_rfl) (by simp) ?_
        refine AllReadyH.cons rfl (fun K hK => ?_) AllReadyH.nil
        go_simp
        with_reducible refine (HCODE.out _ HBx0.out).mono ?_
        rintro e x1 ⟨rfl, hb⟩
        have HBx1 := Lib.hid (below_then HBx0.out hb)
        clear hb
        refine hK.out _ _ (HCE.out _ HBx1.out) (fun hHeld => ?_)
        clear hK K
        try simp only [getElem_toArray, getElem_cons_succ, getElem_cons_zero, Act.put, setIfInBounds_toArray, set_cons_zero, set_cons_succ]
        refine tkH 3 (v := ?_) rfl ?_ ?_ (by kernel_rfl) (fun _ _ _ h => h) (by rfl) (by assumption)
        rotate_left
        · intro W hS; (try dsimp only at hS); go_simp; try with_reducible rfl
        simp only [getElem_toArray, getElem_cons_succ, getElem_cons_zero, Act.put, setIfInBounds_toArray, set_cons_zero, set_cons_succ]
        refine tkH 4 (v := ?_) rfl ?_ ?_ (by kernel_rfl) (fun _ _ _ h => h) (by rfl) (by assumption)
        rotate_left
        · intro W hS; (try dsimp only at hS); go_simp; try with_reducible rfl
        simp only [getElem_toArray, getElem_cons_succ, getElem_cons_zero, Act.put, setIfInBounds_toArray, set_cons_zero, set_cons_succ]
        refine tkH 5 (v := ?_) rfl ?_ ?_ (by kernel_rfl) (fun _ _ _ h => h) (by rfl) (by assumption)
        rotate_left
        · intro W hS; (try dsimp only at hS); go_simp; try with_reducible rfl
        simp only [getElem_toArray, getElem_cons_succ, getElem_cons_zero, Act.put, setIfInBounds_toArray, set_cons_zero, set_cons_succ]
        refine tkH 7 (v := ?_) rfl ?_ ?_ (by kernel_rfl) (fun _ _ _ h => h) (by rfl) (by assumption)
        rotate_left
        · intro W hS; (try dsimp only at hS); go_simp; try with_reducible rfl
        simp only [getElem_toArray, getElem_cons_succ, getElem_cons_zero, Act.put, setIfInBounds_toArray, set_cons_zero, set_cons_succ]
        refine tkH 8 (v := ?_) rfl ?_ ?_ (by kernel_rfl) (fun _ _ _ h => h) (by rfl) (by assumption)
        rotate_left
        · intro W hS; (try dsimp only at hS); go_simp; try with_reducible rfl
        simp only [getElem_toArray, getElem_cons_succ, getElem_cons_zero, Act.put, setIfInBounds_toArray, set_cons_zero, set_cons_succ]
        refine wpAnyH_ready (rs := [6]) (by kernel_rfl) (by simp) ?_
        refine AllReadyH.cons rfl (fun K hK => ?_) AllReadyH.nil
        go_simp
        with_reducible refine (HATC.out _ HBx1.out).mono ?_
        rintro e x2 ⟨rfl, hb⟩
        have HBx2 := Lib.hid (below_then HBx1.out hb)
        clear hb
        refine hK.out _ _ (HCE.out _ HBx2.out) (fun hHeld => ?_)
        clear hK K
        try simp only [getElem_toArray, getElem_cons_succ, getElem_cons_zero, Act.put, setIfInBounds_toArray, set_cons_zero, set_cons_succ]
        refine tkH 9 (v := ?_) rfl ?_ ?_ (by kernel_rfl) (fun _ _ _ h => h) (by rfl) (by assumption)
        rotate_left
        · intro W hS; (try dsimp only at hS); go_simp; try with_reducible rfl
        simp only [getElem_toArray, getElem_cons_succ, getElem_cons_zero, Act.put, setIfInBounds_toArray, set_cons_zero, set_cons_succ]
        refine tkH 10 (v := ?_) rfl ?_ ?_ (by kernel_rfl) (fun _ _ _ h => h) (by rfl) (by assumption)
        rotate_left
        · intro W hS; (try dsimp only at hS); go_simp; try with_reducible rfl
        simp only [getElem_toArray, getElem_cons_succ, getElem_cons_zero, Act.put, setIfInBounds_toArray, set_cons_zero, set_cons_succ]
        refine wpAnyH_take (i := 11) (v := undef) rfl (by kernel_rfl) (by kernel_rfl) (by kernel_rfl) (fun _ _ _ h => h) (Or.inr ⟨by rfl, rfl⟩) (by assumption) ?_
        simp only [getElem_toArray, getElem_cons_succ, getElem_cons_zero, Act.put, setIfInBounds_toArray, set_cons_zero, set_cons_succ]
        refine wpAnyH_take (i := 12) (v := undef) rfl (by kernel_rfl) (by kernel_rfl) (by kernel_rfl) (fun _ _ _ h => h) (Or.inr ⟨by rfl, rfl⟩) (by assumption) ?_
        simp only [getElem_toArray, getElem_cons_succ, getElem_cons_zero, Act.put, setIfInBounds_toArray, set_cons_zero, set_cons_succ]
        refine tkH 13 (v := ?_) rfl ?_ ?_ (by kernel_rfl) (fun _ _ _ h => h) (by rfl) (by assumption)
        rotate_left
        · intro W hS; (try dsimp only at hS); go_simp; try with_reducible rfl
        simp only [getElem_toArray, getElem_cons_succ, getElem_cons_zero, Act.put, setIfInBounds_toArray, set_cons_zero, set_cons_succ]
        refine tkH 14 (v := ?_) rfl ?_ ?_ (by kernel_rfl) (fun _ _ _ h => h) (by rfl) (by assumption)
        rotate_left
        · intro W hS; (try dsimp only at hS); go_simp; try with_reducible rfl
        simp only [getElem_toArray, getElem_cons_succ, getElem_cons_zero, Act.put, setIfInBounds_toArray, set_cons_zero, set_cons_succ]
        refine tkH 15 (v := ?_) rfl ?_ ?_ (by kernel_rfl) (fun _ _ _ h => h) (by rfl) (by assumption)
        rotate_left
        · intro W hS; (try dsimp only at hS); go_simp; try with_reducible rfl
        simp only [getElem_toArray, getElem_cons_succ, getElem_cons_zero, Act.put, setIfInBounds_toArray, set_cons_zero, set_cons_succ]
        refine tkH 16 (v := ?_) rfl ?_ ?_ (by kernel_rfl) (fun _ _ _ h => h) (by rfl) (by assumption)
        rotate_left
        · intro W hS; (try dsimp only at hS); go_simp; try with_reducible rfl
        simp only [getElem_toArray, getElem_cons_succ, getElem_cons_zero, Act.put, setIfInBounds_toArray, set_cons_zero, set_cons_succ]
        refine tkH 18 (v := ?_) rfl ?_ ?_ (by kernel_rfl) (fun _ _ _ h => h) (by rfl) (by assumption)
        rotate_left
        · intro W hS; (try dsimp only at hS); go_simp; try with_reducible rfl
        simp only [getElem_toArray, getElem_cons_succ, getElem_cons_zero, Act.put, setIfInBounds_toArray, set_cons_zero, set_cons_succ]
        refine tkH 19 (v := ?_) rfl ?_ ?_ (by kernel_rfl) (fun _ _ _ h => h) (by rfl) (by assumption)
        rotate_left
        · intro W hS; (try dsimp only at hS); go_simp; try with_reducible rfl
        simp only [getElem_toArray, getElem_cons_succ, getElem_cons_zero, Act.put, setIfInBounds_toArray, set_cons_zero, set_cons_succ]
        refine tkH 20 (v := ?_) rfl ?_ ?_ (by kernel_rfl) (fun _ _ _ h => h) (by rfl) (by assumption)
        rotate_left
        · intro W hS; (try dsimp only at hS); go_simp; try with_reducible rfl
        simp only [getElem_toArray, getElem_cons_succ, getElem_cons_zero, Act.put, setIfInBounds_toArray, set_cons_zero, set_cons_succ]
        refine tkH 21 (v := ?_) rfl ?_ ?_ (by kernel_rfl) (fun _ _ _ h => h) (by rfl) (by assumption)
        rotate_left
        · intro W hS; (try dsimp only at hS); go_simp; try with_reducible rfl
        simp only [getElem_toArray, getElem_cons_succ, getElem_cons_zero, Act.put, setIfInBounds_toArray, set_cons_zero, set_cons_succ]
        refine wpAnyH_ready (rs := [17]) (by kernel_rfl) (by simp) ?_
        refine AllReadyH.cons rfl (fun K hK => ?_) AllReadyH.nil
        go_simp
        with_reducible refine (HFIL.out _ HBx2.out).mono ?_
        rintro e x3 ⟨a17, c17, S17, rfl, hf17, _, _, _, _, hb⟩
        have HBx3 := Lib.hid (below_then HBx2.out hb)
        have HSC := Lib.hid (HSAM.out x3 S17 a17 c17 HBx3.out hf17)
        clear hb hf17
        refine hK.out _ _ (HCE.out _ HBx3.out) (fun hHeld => ?_)
        clear hK K
        try simp only [getElem_toArray, getElem_cons_succ, getElem_cons_zero, Act.put, setIfInBounds_toArray, set_cons_zero, set_cons_succ]
        refine wpAnyH_ready (rs := [22]) (by kernel_rfl) (by simp) ?_
        refine AllReadyH.cons rfl (fun K hK => ?_) AllReadyH.nil
        go_simp
        with_reducible refine (HSC.out).mono ?_
        rintro e x4 ⟨rfl, k4, hk4⟩
        have HBx4 : Hid (Below w14.heap.size w14 x4) := Lib.hid (below_then HBx3.out (by rw [hk4]; exact below_drewN _ _))
        clear hk4
        refine hK.out _ _ (HCE.out _ HBx4.out) (fun hHeld => ?_)
        clear hK K
        try simp only [getElem_toArray, getElem_cons_succ, getElem_cons_zero, Act.put, setIfInBounds_toArray, set_cons_zero, set_cons_succ]
        refine tkH 23 (v := ?_) rfl ?_ ?_ (by kernel_rfl) (fun _ _ _ h => h) (by rfl) (by assumption)
        rotate_left
        · intro W hS; (try dsimp only at hS); go_simp; try with_reducible rfl
        simp only [getElem_toArray, getElem_cons_succ, getElem_cons_zero, Act.put, setIfInBounds_toArray, set_cons_zero, set_cons_succ]
        refine tkH 24 (v := ?_) rfl ?_ ?_ (by kernel_rfl) (fun _ _ _ h => h) (by rfl) (by assumption)
        rotate_left
        · intro W hS; (try dsimp only at hS); go_simp; try with_reducible rfl
        simp only [getElem_toArray, getElem_cons_succ, getElem_cons_zero, Act.put, setIfInBounds_toArray, set_cons_zero, set_cons_succ]
        refine wpAnyH_done (by kernel_rfl) ?_ _
        go_wp2_with fail
        go_meet
        exact ⟨rfl, HBx4.out⟩
      · have hgz : ((0 : Int) != g) = true := by
          simp
          exact fun e => hg0 e.symm
        clear hg0
        obtain ⟨x0, hx0⟩ : ∃ W, w14.drew = W := ⟨_, rfl⟩
        have hbx0 : Below w14.heap.size w14 x0 := by rw [← hx0]; exact below_drewN w14 1
        have HBx0 := Lib.hid hbx0
        refine wp_region_held_drew (S := fun W => W.cell? ⟨w.heap.size, 0, none⟩ = some (.int .i64 g) ∧ W.cell? ⟨B2, 1, none⟩ = some (.slice la nb lc)) (by kernel_rfl) (by rw [hx0]; exact HCE.out _ hbx0) (fun hHeld => ?_)
        rw [hx0] at hHeld ⊢
        clear hx0 hbx0
        refine tkH 0 (v := ?_) rfl ?_ ?_ (by kernel_rfl) (fun _ _ _ h => h) (by rfl) (by assumption)
        rotate_left
        · intro W hS; (try dsimp only at hS); go_simp; try with_reducible rfl
        simp only [getElem_toArray, getElem_cons_zero, Act.put, setIfInBounds_toArray, set_cons_zero, set_cons_succ]
        refine tkH 2 (v := ?_) rfl ?_ ?_ (by kernel_rfl) (fun _ _ _ h => h) (by rfl) (by assumption)
        rotate_left
        · intro W hS; (try dsimp only at hS); go_simp; try with_reducible rfl
        simp only [getElem_toArray, getElem_cons_succ, getElem_cons_zero, Act.put, setIfInBounds_toArray, set_cons_zero, set_cons_succ]
        refine wpAnyH_ready (rs := [1]) (by kernel_rfl) (by simp) ?_
        refine AllReadyH.cons rfl (fun K hK => ?_) AllReadyH.nil
        go_simp
        with_reducible refine (HCODE.out _ HBx0.out).mono ?_
        rintro e x1 ⟨rfl, hb⟩
        have HBx1 := Lib.hid (below_then HBx0.out hb)
        clear hb
        refine hK.out _ _ (HCE.out _ HBx1.out) (fun hHeld => ?_)
        clear hK K
        try simp only [getElem_toArray, getElem_cons_succ, getElem_cons_zero, Act.put, setIfInBounds_toArray, set_cons_zero, set_cons_succ]
        refine tkH 3 (v := ?_) rfl ?_ ?_ (by kernel_rfl) (fun _ _ _ h => h) (by rfl) (by assumption)
        rotate_left
        · intro W hS; (try dsimp only at hS); go_simp; try with_reducible rfl
        simp only [getElem_toArray, getElem_cons_succ, getElem_cons_zero, Act.put, setIfInBounds_toArray, set_cons_zero, set_cons_succ]
        refine tkH 4 (v := ?_) rfl ?_ ?_ (by kernel_rfl) (fun _ _ _ h => h) (by rfl) (by assumption)
        rotate_left
        · intro W hS; (try dsimp only at hS); go_simp; try with_reducible rfl
        simp only [getElem_toArray, getElem_cons_succ, getElem_cons_zero, Act.put, setIfInBounds_toArray, set_cons_zero, set_cons_succ]
        refine tkH 5 (v := ?_) rfl ?_ ?_ (by kernel_rfl) (fun _ _ _ h => h) (by rfl) (by assumption)
        rotate_left
        · intro W hS; (try dsimp only at hS); go_simp; try with_reducible rfl
        simp only [getElem_toArray, getElem_cons_succ, getElem_cons_zero, Act.put, setIfInBounds_toArray, set_cons_zero, set_cons_succ]
        refine tkH 7 (v := ?_) rfl ?_ ?_ (by kernel_rfl) (fun _ _ _ h => h) (by rfl) (by assumption)
        rotate_left
        · intro W hS; (try dsimp only at hS); go_simp; try with_reducible rfl
        simp only [getElem_toArray, getElem_cons_succ, getElem_cons_zero, Act.put, setIfInBounds_toArray, set_cons_zero, set_cons_succ]
        refine tkH 8 (v := ?_) rfl ?_ ?_ (by kernel_rfl) (fun _ _ _ h => h) (by rfl) (by assumption)
        rotate_left
        · intro W hS; (try dsimp only at hS); go_simp; try with_reducible rfl
        simp only [getElem_toArray, getElem_cons_succ, getElem_cons_zero, Act.put, setIfInBounds_toArray, set_cons_zero, set_cons_succ]
        refine wpAnyH_ready (rs := [6]) (by kernel_rfl) (by simp) ?_
        refine AllReadyH.cons rfl (fun K hK => ?_) AllReadyH.nil
        go_simp
        with_reducible refine (HATC.out _ HBx1.out).mono ?_
        rintro e x2 ⟨rfl, hb⟩
        have HBx2 := Lib.hid (below_then HBx1.out hb)
        clear hb
        refine hK.out _ _ (HCE.out _ HBx2.out) (fun hHeld => ?_)
        clear hK K
        try simp only [getElem_toArray, getElem_cons_succ, getElem_cons_zero, Act.put, setIfInBounds_toArray, set_cons_zero, set_cons_succ]
        refine tkH 9 (v := ?_) rfl ?_ ?_ (by kernel_rfl) (fun _ _ _ h => h) (by rfl) (by assumption)
        rotate_left
        · intro W hS; (try dsimp only at hS); go_simp; try with_reducible rfl
        simp only [getElem_toArray, getElem_cons_succ, getElem_cons_zero, Act.put, setIfInBounds_toArray, set_cons_zero, set_cons_succ]
        refine tkH 10 (v := ?_) rfl ?_ ?_ (by kernel_rfl) (fun _ _ _ h => h) (by rfl) (by assumption)
        rotate_left
        · intro W hS; (try dsimp only at hS); go_simp; try with_reducible rfl
        simp only [getElem_toArray, getElem_cons_succ, getElem_cons_zero, Act.put, setIfInBounds_toArray, set_cons_zero, set_cons_succ]
        refine tkH 11 (v := ?_) rfl ?_ ?_ (by kernel_rfl) (fun _ _ _ h => h) (by rfl) (by assumption)
        rotate_left
        · intro W hS; (try dsimp only at hS); go_simp; try with_reducible rfl
        simp only [getElem_toArray, getElem_cons_succ, getElem_cons_zero, Act.put, setIfInBounds_toArray, set_cons_zero, set_cons_succ]
        refine tkH 12 (v := ?_) rfl ?_ ?_ (by kernel_rfl) (fun _ _ _ h => h) (by rfl) (by assumption)
        rotate_left
        · intro W hS; (try dsimp only at hS); go_simp; try with_reducible rfl
        simp only [getElem_toArray, getElem_cons_succ, getElem_cons_zero, Act.put, setIfInBounds_toArray, set_cons_zero, set_cons_succ]
        refine tkH 13 (v := ?_) rfl ?_ ?_ (by kernel_rfl) (fun _ _ _ h => h) (by rfl) (by assumption)
        rotate_left
        · intro W hS; (try dsimp only at hS); go_simp; try with_reducible rfl
        simp only [getElem_toArray, getElem_cons_succ, getElem_cons_zero, Act.put, setIfInBounds_toArray, set_cons_zero, set_cons_succ]
        refine tkH 14 (v := ?_) rfl ?_ ?_ (by kernel_rfl) (fun _ _ _ h => h) (by rfl) (by assumption)
        rotate_left
        · intro W hS; (try dsimp only at hS); go_simp; try with_reducible rfl
        simp only [getElem_toArray, getElem_cons_succ, getElem_cons_zero, Act.put, setIfInBounds_toArray, set_cons_zero, set_cons_succ]
        refine tkH 15 (v := ?_) rfl ?_ ?_ (by kernel_rfl) (fun _ _ _ h => h) (by rfl) (by assumption)
        rotate_left
        · intro W hS; (try dsimp only at hS); go_simp; try with_reducible rfl
        simp only [getElem_toArray, getElem_cons_succ, getElem_cons_zero, Act.put, setIfInBounds_toArray, set_cons_zero, set_cons_succ]
        refine tkH 16 (v := ?_) rfl ?_ ?_ (by kernel_rfl) (fun _ _ _ h => h) (by rfl) (by assumption)
        rotate_left
        · intro W hS; (try dsimp only at hS); go_simp; try with_reducible rfl
        simp only [getElem_toArray, getElem_cons_succ, getElem_cons_zero, Act.put, setIfInBounds_toArray, set_cons_zero, set_cons_succ]
        refine tkH 18 (v := ?_) rfl ?_ ?_ (by kernel_rfl) (fun _ _ _ h => h) (by rfl) (by assumption)
        rotate_left
        · intro W hS; (try dsimp only at hS); go_simp; try with_reducible rfl
        simp only [getElem_toArray, getElem_cons_succ, getElem_cons_zero, Act.put, setIfInBounds_toArray, set_cons_zero, set_cons_succ]
        refine tkH 19 (v := ?_) rfl ?_ ?_ (by kernel_rfl) (fun _ _ _ h => h) (by rfl) (by assumption)
        rotate_left
        · intro W hS; (try dsimp only at hS); go_simp; try with_reducible rfl
        simp only [getElem_toArray, getElem_cons_succ, getElem_cons_zero, Act.put, setIfInBounds_toArray, set_cons_zero, set_cons_succ]
        refine tkH 20 (v := ?_) rfl ?_ ?_ (by kernel_rfl) (fun _ _ _ h => h) (by rfl) (by assumption)
        rotate_left
        · intro W hS; (try dsimp only at hS); go_simp; try with_reducible rfl
        simp only [getElem_toArray, getElem_cons_succ, getElem_cons_zero, Act.put, setIfInBounds_toArray, set_cons_zero, set_cons_succ]
        refine tkH 21 (v := ?_) rfl ?_ ?_ (by kernel_rfl) (fun _ _ _ h => h) (by rfl) (by assumption)
        rotate_left
        · intro W hS; (try dsimp only at hS); go_simp; try with_reducible rfl
        simp only [getElem_toArray, getElem_cons_succ, getElem_cons_zero, Act.put, setIfInBounds_toArray, set_cons_zero, set_cons_succ]
        refine wpAnyH_ready (rs := [17]) (by kernel_rfl) (by simp) ?_
        refine AllReadyH.cons rfl (fun K hK => ?_) AllReadyH.nil
        go_simp
        with_reducible refine (HFIL.out _ HBx2.out).mono ?_
        rintro e x3 ⟨a17, c17, S17, rfl, hf17, _, _, _, _, hb⟩
        have HBx3 := Lib.hid (below_then HBx2.out hb)
        have HSC := Lib.hid (HSAM.out x3 S17 a17 c17 HBx3.out hf17)
        clear hb hf17
        refine hK.out _ _ (HCE.out _ HBx3.out) (fun hHeld => ?_)
        clear hK K
        try simp only [getElem_toArray, getElem_cons_succ, getElem_cons_zero, Act.put, setIfInBounds_toArray, set_cons_zero, set_cons_succ]
        refine wpAnyH_ready (rs := [22]) (by kernel_rfl) (by simp) ?_
        refine AllReadyH.cons rfl (fun K hK => ?_) AllReadyH.nil
        go_simp
        with_reducible refine (HSC.out).mono ?_
        rintro e x4 ⟨rfl, k4, hk4⟩
        have HBx4 : Hid (Below w14.heap.size w14 x4) := Lib.hid (below_then HBx3.out (by rw [hk4]; exact below_drewN _ _))
        clear hk4
        refine hK.out _ _ (HCE.out _ HBx4.out) (fun hHeld => ?_)
        clear hK K
        try simp only [getElem_toArray, getElem_cons_succ, getElem_cons_zero, Act.put, setIfInBounds_toArray, set_cons_zero, set_cons_succ]
        refine tkH 23 (v := ?_) rfl ?_ ?_ (by kernel_rfl) (fun _ _ _ h => h) (by rfl) (by assumption)
        rotate_left
        · intro W hS; (try dsimp only at hS); go_simp; try with_reducible rfl
        simp only [getElem_toArray, getElem_cons_succ, getElem_cons_zero, Act.put, setIfInBounds_toArray, set_cons_zero, set_cons_succ]
        refine tkH 24 (v := ?_) rfl ?_ ?_ (by kernel_rfl) (fun _ _ _ h => h) (by rfl) (by assumption)
        rotate_left
        · intro W hS; (try dsimp only at hS); go_simp; try with_reducible rfl
        simp only [getElem_toArray, getElem_cons_succ, getElem_cons_zero, Act.put, setIfInBounds_toArray, set_cons_zero, set_cons_succ]
        refine wpAnyH_done (by kernel_rfl) ?_ _
        go_wp2_with fail
        go_meet
        exact ⟨rfl, HBx4.out⟩
    · rw [if_neg hc] at HATC
      have hgz : (g != g) = false := by simp
      clear hc
      obtain ⟨x0, hx0⟩ : ∃ W, w14.drew = W := ⟨_, rfl⟩
      have hbx0 : Below w14.heap.size w14 x0 := by rw [← hx0]; exact below_drewN w14 1
      have HBx0 := Lib.hid hbx0
      refine wp_region_held_drew (S := fun W => W.cell? ⟨w.heap.size, 0, none⟩ = some (.int .i64 g) ∧ W.cell? ⟨B2, 1, none⟩ = some (.slice la nb lc)) (by kernel_rfl) (by rw [hx0]; exact HCE.out _ hbx0) (fun hHeld => ?_)
      rw [hx0] at hHeld ⊢
      clear hx0 hbx0
      refine tkH 0 (v := ?_) rfl ?_ ?_ (by kernel_rfl) (fun _ _ _ h => h) (by rfl) (by assumption)
      rotate_left
      · intro W hS; (try dsimp only at hS); go_simp; try with_reducible rfl
      simp only [getElem_toArray, getElem_cons_zero, Act.put, setIfInBounds_toArray, set_cons_zero, set_cons_succ]
      refine tkH 2 (v := ?_) rfl ?_ ?_ (by kernel_rfl) (fun _ _ _ h => h) (by rfl) (by assumption)
      rotate_left
      · intro W hS; (try dsimp only at hS); go_simp; try with_reducible rfl
      simp only [getElem_toArray, getElem_cons_succ, getElem_cons_zero, Act.put, setIfInBounds_toArray, set_cons_zero, set_cons_succ]
      refine wpAnyH_ready (rs := [1]) (by kernel_rfl) (by simp) ?_
      refine AllReadyH.cons rfl (fun K hK => ?_) AllReadyH.nil
      go_simp
      with_reducible refine (HCODE.out _ HBx0.out).mono ?_
      rintro e x1 ⟨rfl, hb⟩
      have HBx1 := Lib.hid (below_then HBx0.out hb)
      clear hb
      refine hK.out _ _ (HCE.out _ HBx1.out) (fun hHeld => ?_)
      clear hK K
      try simp only [getElem_toArray, getElem_cons_succ, getElem_cons_zero, Act.put, setIfInBounds_toArray, set_cons_zero, set_cons_succ]
      refine tkH 3 (v := ?_) rfl ?_ ?_ (by kernel_rfl) (fun _ _ _ h => h) (by rfl) (by assumption)
      rotate_left
      · intro W hS; (try dsimp only at hS); go_simp; try with_reducible rfl
      simp only [getElem_toArray, getElem_cons_succ, getElem_cons_zero, Act.put, setIfInBounds_toArray, set_cons_zero, set_cons_succ]
      refine tkH 4 (v := ?_) rfl ?_ ?_ (by kernel_rfl) (fun _ _ _ h => h) (by rfl) (by assumption)
      rotate_left
      · intro W hS; (try dsimp only at hS); go_simp; try with_reducible rfl
      simp only [getElem_toArray, getElem_cons_succ, getElem_cons_zero, Act.put, setIfInBounds_toArray, set_cons_zero, set_cons_succ]
      refine tkH 5 (v := ?_) rfl ?_ ?_ (by kernel_rfl) (fun _ _ _ h => h) (by rfl) (by assumption)
      rotate_left
      · intro W hS; (try dsimp only at hS); go_simp; try with_reducible rfl
      simp only [getElem_toArray, getElem_cons_succ, getElem_cons_zero, Act.put, setIfInBounds_toArray, set_cons_zero, set_cons_succ]
      refine tkH 7 (v := ?_) rfl ?_ ?_ (by kernel_rfl) (fun _ _ _ h => h) (by rfl) (by assumption)
      rotate_left
      · intro W hS; (try dsimp only at hS); go_simp; try with_reducible rfl
      simp only [getElem_toArray, getElem_cons_succ, getElem_cons_zero, Act.put, setIfInBounds_toArray, set_cons_zero, set_cons_succ]
      refine tkH 8 (v := ?_) rfl ?_ ?_ (by kernel_rfl) (fun _ _ _ h => h) (by rfl) (by assumption)
      rotate_left
      · intro W hS; (try dsimp only at hS); go_simp; try with_reducible rfl
      simp only [getElem_toArray, getElem_cons_succ, getElem_cons_zero, Act.put, setIfInBounds_toArray, set_cons_zero, set_cons_succ]
      refine wpAnyH_ready (rs := [6]) (by kernel_rfl) (by simp) ?_
      refine AllReadyH.cons rfl (fun K hK => ?_) AllReadyH.nil
      go_simp
      with_reducible refine (HATC.out _ HBx1.out).mono ?_
      rintro e x2 ⟨rfl, hb⟩
      have HBx2 := Lib.hid (below_then HBx1.out hb)
      clear hb
      refine hK.out _ _ (HCE.out _ HBx2.out) (fun hHeld => ?_)
      clear hK K
      try simp only [getElem_toArray, getElem_cons_succ, getElem_cons_zero, Act.put, setIfInBounds_toArray, set_cons_zero, set_cons_succ]
      refine tkH 9 (v := ?_) rfl ?_ ?_ (by kernel_rfl) (fun _ _ _ h => h) (by rfl) (by assumption)
      rotate_left
      · intro W hS; (try dsimp only at hS); go_simp; try with_reducible rfl
      simp only [getElem_toArray, getElem_cons_succ, getElem_cons_zero, Act.put, setIfInBounds_toArray, set_cons_zero, set_cons_succ]
      refine tkH 10 (v := ?_) rfl ?_ ?_ (by kernel_rfl) (fun _ _ _ h => h) (by rfl) (by assumption)
      rotate_left
      · intro W hS; (try dsimp only at hS); go_simp; try with_reducible rfl
      simp only [getElem_toArray, getElem_cons_succ, getElem_cons_zero, Act.put, setIfInBounds_toArray, set_cons_zero, set_cons_succ]
      refine wpAnyH_take (i := 11) (v := undef) rfl (by kernel_rfl) (by kernel_rfl) (by kernel_rfl) (fun _ _ _ h => h) (Or.inr ⟨by rfl, rfl⟩) (by assumption) ?_
      simp only [getElem_toArray, getElem_cons_succ, getElem_cons_zero, Act.put, setIfInBounds_toArray, set_cons_zero, set_cons_succ]
      refine wpAnyH_take (i := 12) (v := undef) rfl (by kernel_rfl) (by kernel_rfl) (by kernel_rfl) (fun _ _ _ h => h) (Or.inr ⟨by rfl, rfl⟩) (by assumption) ?_
      simp only [getElem_toArray, getElem_cons_succ, getElem_cons_zero, Act.put, setIfInBounds_toArray, set_cons_zero, set_cons_succ]
      refine tkH 13 (v := ?_) rfl ?_ ?_ (by kernel_rfl) (fun _ _ _ h => h) (by rfl) (by assumption)
      rotate_left
      · intro W hS; (try dsimp only at hS); go_simp; try with_reducible rfl
      simp only [getElem_toArray, getElem_cons_succ, getElem_cons_zero, Act.put, setIfInBounds_toArray, set_cons_zero, set_cons_succ]
      refine tkH 14 (v := ?_) rfl ?_ ?_ (by kernel_rfl) (fun _ _ _ h => h) (by rfl) (by assumption)
      rotate_left
      · intro W hS; (try dsimp only at hS); go_simp; try with_reducible rfl
      simp only [getElem_toArray, getElem_cons_succ, getElem_cons_zero, Act.put, setIfInBounds_toArray, set_cons_zero, set_cons_succ]
      refine tkH 15 (v := ?_) rfl ?_ ?_ (by kernel_rfl) (fun _ _ _ h => h) (by rfl) (by assumption)
      rotate_left
      · intro W hS; (try dsimp only at hS); go_simp; try with_reducible rfl
      simp only [getElem_toArray, getElem_cons_succ, getElem_cons_zero, Act.put, setIfInBounds_toArray, set_cons_zero, set_cons_succ]
      refine tkH 16 (v := ?_) rfl ?_ ?_ (by kernel_rfl) (fun _ _ _ h => h) (by rfl) (by assumption)
      rotate_left
      · intro W hS; (try dsimp only at hS); go_simp; try with_reducible rfl
      simp only [getElem_toArray, getElem_cons_succ, getElem_cons_zero, Act.put, setIfInBounds_toArray, set_cons_zero, set_cons_succ]
      refine tkH 18 (v := ?_) rfl ?_ ?_ (by kernel_rfl) (fun _ _ _ h => h) (by rfl) (by assumption)
      rotate_left
      · intro W hS; (try dsimp only at hS); go_simp; try with_reducible rfl
      simp only [getElem_toArray, getElem_cons_succ, getElem_cons_zero, Act.put, setIfInBounds_toArray, set_cons_zero, set_cons_succ]
      refine tkH 19 (v := ?_) rfl ?_ ?_ (by kernel_rfl) (fun _ _ _ h => h) (by rfl) (by assumption)
      rotate_left
      · intro W hS; (try dsimp only at hS); go_simp; try with_reducible rfl
      simp only [getElem_toArray, getElem_cons_succ, getElem_cons_zero, Act.put, setIfInBounds_toArray, set_cons_zero, set_cons_succ]
      refine tkH 20 (v := ?_) rfl ?_ ?_ (by kernel_rfl) (fun _ _ _ h => h) (by rfl) (by assumption)
      rotate_left
      · intro W hS; (try dsimp only at hS); go_simp; try with_reducible rfl
      simp only [getElem_toArray, getElem_cons_succ, getElem_cons_zero, Act.put, setIfInBounds_toArray, set_cons_zero, set_cons_succ]
      refine tkH 21 (v := ?_) rfl ?_ ?_ (by kernel_rfl) (fun _ _ _ h => h) (by rfl) (by assumption)
      rotate_left
      · intro W hS; (try dsimp only at hS); go_simp; try with_reducible rfl
      simp only [getElem_toArray, getElem_cons_succ, getElem_cons_zero, Act.put, setIfInBounds_toArray, set_cons_zero, set_cons_succ]
      refine wpAnyH_ready (rs := [17]) (by kernel_rfl) (by simp) ?_
      refine AllReadyH.cons rfl (fun K hK => ?_) AllReadyH.nil
      go_simp
      with_reducible refine (HFIL.out _ HBx2.out).mono ?_
      rintro e x3 ⟨a17, c17, S17, rfl, hf17, _, _, _, _, hb⟩
      have HBx3 := Lib.hid (below_then HBx2.out hb)
      have HSC := Lib.hid (HSAM.out x3 S17 a17 c17 HBx3.out hf17)
      clear hb hf17
      refine hK.out _ _ (HCE.out _ HBx3.out) (fun hHeld => ?_)
      clear hK K
      try simp only [getElem_toArray, getElem_cons_succ, getElem_cons_zero, Act.put, setIfInBounds_toArray, set_cons_zero, set_cons_succ]
      refine wpAnyH_ready (rs := [22]) (by kernel_rfl) (by simp) ?_
      refine AllReadyH.cons rfl (fun K hK => ?_) AllReadyH.nil
      go_simp
      with_reducible refine (HSC.out).mono ?_
      rintro e x4 ⟨rfl, k4, hk4⟩
      have HBx4 : Hid (Below w14.heap.size w14 x4) := Lib.hid (below_then HBx3.out (by rw [hk4]; exact below_drewN _ _))
      clear hk4
      refine hK.out _ _ (HCE.out _ HBx4.out) (fun hHeld => ?_)
      clear hK K
      try simp only [getElem_toArray, getElem_cons_succ, getElem_cons_zero, Act.put, setIfInBounds_toArray, set_cons_zero, set_cons_succ]
      refine tkH 23 (v := ?_) rfl ?_ ?_ (by kernel_rfl) (fun _ _ _ h => h) (by rfl) (by assumption)
      rotate_left
      · intro W hS; (try dsimp only at hS); go_simp; try with_reducible rfl
      simp only [getElem_toArray, getElem_cons_succ, getElem_cons_zero, Act.put, setIfInBounds_toArray, set_cons_zero, set_cons_succ]
      refine tkH 24 (v := ?_) rfl ?_ ?_ (by kernel_rfl) (fun _ _ _ h => h) (by rfl) (by assumption)
      rotate_left
      · intro W hS; (try dsimp only at hS); go_simp; try with_reducible rfl
      simp only [getElem_toArray, getElem_cons_succ, getElem_cons_zero, Act.put, setIfInBounds_toArray, set_cons_zero, set_cons_succ]
      refine wpAnyH_done (by kernel_rfl) ?_ _
      go_wp2_with fail
      go_meet
      exact ⟨rfl, HBx4.out⟩
  case rest =>
  obtain ⟨rfl, hbc⟩ := hcut
  have HBO16 := Lib.hid (HBO15.out.quiet hbc)
  clear hbc HCE HCODE HATC HFIL HSAM HFLB HDB HNB HERR2 HBO15 hnb64
  have HCLN : Hid (∀ W, Below wc.heap.size wc W → Calls Tryz.prog 25 #[.pointer (some ⟨B1, 0, none⟩), .agg #[.int .i64 g, .int .i64 l, .slice a n c]] W (MSt W1 W S1c B1 (cleanM d2 m).1 g (cleanM d2 m).2)) := Lib.hid (fun W hb => by
    have h := (HBO16.out.quiet hb).live
    rw [← HMM.out]
    exact mclean_calls g l a segs n c h HTAB.out HER.out (HR.out.below h.bel) HN.out (by omega) HFEW2.out (by decide) (by decide))
  have HRCL : Hid (∀ W, RefD W S2c B2 d2 → Below W1.heap.size W1 W → Calls Tryz.prog 26 #[.pointer (some ⟨B2, 0, none⟩), .agg #[.int .i64 g, .int .i64 l, .slice a n c]] W (RDoes W S2c B2 (.int .i64 (cleanM d2 m).1) (cleanM d2 m).2)) := Lib.hid (fun W h hb => by
    rw [← HMM.out]
    exact rclean8_calls g l a segs n c h (HR.out.below hb) (fun k hk => ⟨HBO16.out.off2 k (HWS.out k hk), by have h1 := HWS.out k hk; have h2 := hb.size; omega⟩) HN.out (by omega) HFEW2.out (by decide) (by decide) (by have := HTR2.out; omega))
  obtain ⟨cl, hcl⟩ : ∃ x, (cleanM d2 m).1 = x := ⟨_, rfl⟩
  obtain ⟨d3, hd3⟩ : ∃ x, (cleanM d2 m).2 = x := ⟨_, rfl⟩
  rw [hcl, hd3] at HCLN
  rw [hcl, hd3] at HRCL
  have HFEW3 : Hid (Few d3 33048 (5 + d2.L.length)) := Lib.hid (by rw [← hd3]; exact HFEW2.out.clean m)
  have hcc : (cl == cl) = true := by simp
  unfold MSt at HCLN
  clear hcl hd3
  go_upto_region 21 with (fail)
  obtain ⟨x0, hx0⟩ : ∃ W, wc.drew = W := ⟨_, rfl⟩
  have hbx0 : Below wc.heap.size wc x0 := by rw [← hx0]; exact below_drewN wc 1
  have HBx0 := Lib.hid hbx0
  refine wp_region_held_drew (S := fun W => W.cell? ⟨w.heap.size, 0, none⟩ = some (.int .i64 g) ∧ W.cell? ⟨w.heap.size, 1, none⟩ = some (.int .i64 l) ∧ W.cell? ⟨w.heap.size, 2, none⟩ = some (.slice a n c)) (by kernel_rfl) (by rw [hx0]; exact HC.out _ (HBO16.out.quiet hbx0).live.bel) (fun hHeld => ?_)
  rw [hx0] at hHeld ⊢
  clear hx0 hbx0
  refine tkH 0 (v := ?_) rfl ?_ ?_ (by kernel_rfl) (fun _ _ _ h => h) (by rfl) (by assumption)
  rotate_left
  · intro W hS; (try dsimp only at hS); go_simp; try with_reducible rfl
  simp only [getElem_toArray, getElem_cons_zero, Act.put, setIfInBounds_toArray, set_cons_zero, set_cons_succ]
  refine tkH 1 (v := ?_) rfl ?_ ?_ (by kernel_rfl) (fun _ _ _ h => h) (by rfl) (by assumption)
  rotate_left
  · intro W hS; (try dsimp only at hS); go_simp; try with_reducible rfl
  simp only [getElem_toArray, getElem_cons_succ, getElem_cons_zero, Act.put, setIfInBounds_toArray, set_cons_zero, set_cons_succ]
  refine tkH 4 (v := ?_) rfl ?_ ?_ (by kernel_rfl) (fun _ _ _ h => h) (by rfl) (by assumption)
  rotate_left
  · intro W hS; (try dsimp only at hS); go_simp; try with_reducible rfl
  simp only [getElem_toArray, getElem_cons_succ, getElem_cons_zero, Act.put, setIfInBounds_toArray, set_cons_zero, set_cons_succ]
  refine tkH 5 (v := ?_) rfl ?_ ?_ (by kernel_rfl) (fun _ _ _ h => h) (by rfl) (by assumption)
  rotate_left
  · intro W hS; (try dsimp only at hS); go_simp; try with_reducible rfl
  simp only [getElem_toArray, getElem_cons_succ, getElem_cons_zero, Act.put, setIfInBounds_toArray, set_cons_zero, set_cons_succ]
  refine wpAnyH_ready (rs := [2]) (by kernel_rfl) (by simp) ?_
  refine AllReadyH.cons rfl (fun K hK => ?_) AllReadyH.nil
  go_simp
  with_reducible refine (HCLN.out _ HBx0.out).mono ?_
  rintro e x1 ⟨ev2, rfl, herr, S1d, hl1, hf1, hk1, _⟩
  have HBy1 := Lib.hid ((HBO16.out.quiet HBx0.out).go1 hl1 hf1 hk1)
  have HCD := Lib.hid (code_calls cl g ev2 x1 herr (HGD.out.below HBy1.out.live.bel))
  clear herr hl1 hf1 hk1
  refine hK.out _ _ (HC.out _ HBy1.out.live.bel) (fun hHeld => ?_)
  clear hK K
  try simp only [getElem_toArray, getElem_cons_succ, getElem_cons_zero, Act.put, setIfInBounds_toArray, set_cons_zero, set_cons_succ]
  refine wpAnyH_ready (rs := [3]) (by kernel_rfl) (by simp) ?_
  refine AllReadyH.cons rfl (fun K hK => ?_) AllReadyH.nil
  go_simp
  with_reducible refine (HCD.out).mono ?_
  rintro e x2 ⟨rfl, hb⟩
  have HBy2 := Lib.hid (HBy1.out.quiet hb)
  clear hb
  refine hK.out _ _ (HC.out _ HBy2.out.live.bel) (fun hHeld => ?_)
  clear hK K
  try simp only [getElem_toArray, getElem_cons_succ, getElem_cons_zero, Act.put, setIfInBounds_toArray, set_cons_zero, set_cons_succ]
  refine wpAnyH_ready (rs := [6]) (by kernel_rfl) (by simp) ?_
  refine AllReadyH.cons rfl (fun K hK => ?_) AllReadyH.nil
  go_simp
  with_reducible refine (HRCL.out _ HBy2.out.ref HBy2.out.live.bel).mono ?_
  rintro e x3 ⟨rfl, ht3⟩
  obtain ⟨S2d, hbo3⟩ := HBy2.out.turn2 ht3
  have HBy3 := Lib.hid hbo3
  clear ht3 hbo3
  refine hK.out _ _ (HC.out _ HBy3.out.live.bel) (fun hHeld => ?_)
  clear hK K
  try simp only [getElem_toArray, getElem_cons_succ, getElem_cons_zero, Act.put, setIfInBounds_toArray, set_cons_zero, set_cons_succ]
  obtain ⟨lb, ld, hlb, hfb⟩ := ref_row HBy3.out.ref
  obtain ⟨LD, hLD⟩ : ∃ x, d3.L.map toI = x := ⟨_, rfl⟩
  obtain ⟨nd, hnd⟩ : ∃ x, d3.L.length = x := ⟨_, rfl⟩
  have HDD : Hid (∀ f ∈ LD, f.data.length ≤ 1073741824) := Lib.hid (by rw [← hLD]; exact used_data (Nat.le_trans HFEW3.out.used (by decide)))
  have HND : Hid (LD.length = nd) := Lib.hid (by rw [← hLD, List.length_map]; exact hnd)
  have hnd64 : nd ≤ 64 := by rw [← hnd]; exact HFEW3.out.inv.most
  rw [hnd] at hlb
  rw [hLD] at hfb
  have HFD := Lib.hid hfb
  have HS3 : Hid (∀ W, Below x3.heap.size x3 W → W.cell? ⟨w.heap.size, 0, none⟩ = some (.int .i64 g) ∧ W.cell? ⟨w.heap.size, 1, none⟩ = some (.int .i64 l) ∧ W.cell? ⟨w.heap.size, 2, none⟩ = some (.slice a n c) ∧ W.cell? ⟨B2, 1, none⟩ = some (.slice lb nd ld)) := Lib.hid (fun W hb => by
    obtain ⟨s0, s1, s2⟩ := HC.out W (HBy3.out.quiet hb).live.bel
    exact ⟨s0, s1, s2, hlb W hb⟩)
  have HFIL : Hid (Calls Tryz.prog 24 #[.pointer (some ⟨B1, 0, none⟩)] x3 (FilesOut LD x3)) := Lib.hid (by
    rw [← hLD]
    exact files_calls x3 HBy3.out.live.disk (Nat.le_trans HFEW3.out.used (by decide)))
  unfold FilesOut at HFIL
  rw [HND.out] at HFIL
  clear hlb hfb hLD hnd hHeld
  refine wpAnyH_more8 (S2 := fun W => W.cell? ⟨w.heap.size, 0, none⟩ = some (.int .i64 g) ∧ W.cell? ⟨w.heap.size, 1, none⟩ = some (.int .i64 l) ∧ W.cell? ⟨w.heap.size, 2, none⟩ = some (.slice a n c) ∧ W.cell? ⟨B2, 1, none⟩ = some (.slice lb nd ld)) (fun W h => ⟨h.1, h.2.1, h.2.2.1⟩) _ _ _ _ ?_
  have hHeld := HS3.out x3 (Below.refl _ _)
  refine tkH 7 (v := ?_) rfl ?_ ?_ (by kernel_rfl) (fun _ _ _ h => h) (by rfl) (by assumption)
  rotate_left
  · intro W hS; (try dsimp only at hS); go_simp; try with_reducible rfl
  simp only [getElem_toArray, getElem_cons_succ, getElem_cons_zero, Act.put, setIfInBounds_toArray, set_cons_zero, set_cons_succ]
  refine tkH 8 (v := ?_) rfl ?_ ?_ (by kernel_rfl) (fun _ _ _ h => h) (by rfl) (by assumption)
  rotate_left
  · intro W hS; (try dsimp only at hS); go_simp; try with_reducible rfl
  simp only [getElem_toArray, getElem_cons_succ, getElem_cons_zero, Act.put, setIfInBounds_toArray, set_cons_zero, set_cons_succ]
  refine tkH 9 (v := ?_) rfl ?_ ?_ (by kernel_rfl) (fun _ _ _ h => h) (by rfl) (by assumption)
  rotate_left
  · intro W hS; (try dsimp only at hS); go_simp; try with_reducible rfl
  simp only [getElem_toArray, getElem_cons_succ, getElem_cons_zero, Act.put, setIfInBounds_toArray, set_cons_zero, set_cons_succ]
  refine tkH 11 (v := ?_) rfl ?_ ?_ (by kernel_rfl) (fun _ _ _ h => h) (by rfl) (by assumption)
  rotate_left
  · intro W hS; (try dsimp only at hS); go_simp; try with_reducible rfl
  simp only [getElem_toArray, getElem_cons_succ, getElem_cons_zero, Act.put, setIfInBounds_toArray, set_cons_zero, set_cons_succ]
  refine tkH 12 (v := ?_) rfl ?_ ?_ (by kernel_rfl) (fun _ _ _ h => h) (by rfl) (by assumption)
  rotate_left
  · intro W hS; (try dsimp only at hS); go_simp; try with_reducible rfl
  simp only [getElem_toArray, getElem_cons_succ, getElem_cons_zero, Act.put, setIfInBounds_toArray, set_cons_zero, set_cons_succ]
  refine tkH 13 (v := ?_) rfl ?_ ?_ (by kernel_rfl) (fun _ _ _ h => h) (by rfl) (by assumption)
  rotate_left
  · intro W hS; (try dsimp only at hS); go_simp; try with_reducible rfl
  simp only [getElem_toArray, getElem_cons_succ, getElem_cons_zero, Act.put, setIfInBounds_toArray, set_cons_zero, set_cons_succ]
  refine tkH 14 (v := ?_) rfl ?_ ?_ (by kernel_rfl) (fun _ _ _ h => h) (by rfl) (by assumption)
  rotate_left
  · intro W hS; (try dsimp only at hS); go_simp; try with_reducible rfl
  simp only [getElem_toArray, getElem_cons_succ, getElem_cons_zero, Act.put, setIfInBounds_toArray, set_cons_zero, set_cons_succ]
  refine wpAnyH_ready (rs := [10]) (by kernel_rfl) (by simp) ?_
  refine AllReadyH.cons rfl (fun K hK => ?_) AllReadyH.nil
  go_simp
  with_reducible refine (HFIL.out).mono ?_
  rintro e x4 ⟨a10, c10, S10, rfl, hf10, _, _, _, _, hb⟩
  have HBx4 := Lib.hid hb
  have HSC := Lib.hid (same_calls a10 lb LD LD c10 ld nd nd x4 hf10 (HFD.out.keep (keeps_below hb Non) (fun _ _ h => h)) HND.out HND.out (by omega) (by omega) HDD.out HDD.out)
  rw [sameB_eq.2 rfl] at HSC
  clear hb hf10
  refine hK.out _ _ (HS3.out _ HBx4.out) (fun hHeld => ?_)
  clear hK K
  try simp only [getElem_toArray, getElem_cons_succ, getElem_cons_zero, Act.put, setIfInBounds_toArray, set_cons_zero, set_cons_succ]
  refine wpAnyH_ready (rs := [15]) (by kernel_rfl) (by simp) ?_
  refine AllReadyH.cons rfl (fun K hK => ?_) AllReadyH.nil
  go_simp
  with_reducible refine (HSC.out).mono ?_
  rintro e x5 ⟨rfl, k5, hk5⟩
  have HBx5 : Hid (Below x3.heap.size x3 x5) := Lib.hid (below_then HBx4.out (by rw [hk5]; exact below_drewN _ _))
  clear hk5
  refine hK.out _ _ (HS3.out _ HBx5.out) (fun hHeld => ?_)
  clear hK K
  try simp only [getElem_toArray, getElem_cons_succ, getElem_cons_zero, Act.put, setIfInBounds_toArray, set_cons_zero, set_cons_succ]
  refine tkH 16 (v := ?_) rfl ?_ ?_ (by kernel_rfl) (fun _ _ _ h => h) (by rfl) (by assumption)
  rotate_left
  · intro W hS; (try dsimp only at hS); go_simp; try with_reducible rfl
  simp only [getElem_toArray, getElem_cons_succ, getElem_cons_zero, Act.put, setIfInBounds_toArray, set_cons_zero, set_cons_succ]
  refine tkH 17 (v := ?_) rfl ?_ ?_ (by kernel_rfl) (fun _ _ _ h => h) (by rfl) (by assumption)
  rotate_left
  · intro W hS; (try dsimp only at hS); go_simp; try with_reducible rfl
  simp only [getElem_toArray, getElem_cons_succ, getElem_cons_zero, Act.put, setIfInBounds_toArray, set_cons_zero, set_cons_succ]
  refine wpAnyH_done (by kernel_rfl) ?_ _
  have HFIN := Lib.hid (below_then HB1.out (HBy3.out.quiet HBx5.out).live.bel)
  go_wp2
  go_ret
  exact ⟨rfl, HFIN.out⟩

end Go.Proofs.YtacfcfbleogioaaGreatDoor
