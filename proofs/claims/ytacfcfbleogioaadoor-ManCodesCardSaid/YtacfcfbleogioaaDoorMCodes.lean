/-
  The walk of the law ManCodes at every manifest, bytes and name. Conditions: the slices lead to what they are said to; the library's table of powers of ten and its two errors are laid.
-/
import Derived.Test.YtacfcfbleogioaaDoorMAwake
import Derived.Test.YtacfcfbleogioaaDoorMREnc
import Derived.Test.YtacfcfbleogioaaDoorMRDec
import Derived.Test.YtacfcfbleogioaaDoorMRName
namespace Go.Proofs.YtacfcfbleogioaaDoor
open Go.RowKit Go.Lib Go.Joins

set_option maxRecDepth 100000 in
set_option maxHeartbeats 16000000 in
theorem law_codes (g l : Int) (a : Option Addr) (segs : List Int) (n c : Nat) (ab : Option Addr) (L : List Nat) (nb cb : Nat) (s : ByteArray) (w : World) (ht : Tab w) (he : Errs w) (hr : IRow w (fun k => k < w.heap.size) a segs) (hn : segs.length = n) (hm : n ≤ 140737488355328) (h0 : a = none → c = 0)
    (hrb : Row w (fun k => k < w.heap.size) ab L) (hnb : L.length = nb) (hcb : nb ≤ cb) (hmb : cb ≤ maxLen) :
    Calls Tryd.prog 3 #[.agg #[.int .i64 g, .int .i64 l, .slice a n c], .slice ab nb cb, .string s] w (Leaves (.bool true) w) := by
  obtain ⟨W1, hW1⟩ : ∃ W, w.alloc (.cells #[.int .i64 g, .int .i64 l, .slice a n c] 24) = W := ⟨_, rfl⟩
  have hb1 : Below w.heap.size w W1 := by rw [← hW1]; exact (Below.refl _ _).alloc (Nat.le_refl _) _
  have hk1 : W1.heap[w.heap.size]? = some (.cells #[.int .i64 g, .int .i64 l, .slice a n c] 24 (0, 0)) := by rw [← hW1]; exact heap_alloc_new _ _
  have HW1 := Lib.hid hW1
  have HB1 := Lib.hid hb1
  have HTAB := Lib.hid (ht.below hb1)
  have HER := Lib.hid (he.below hb1)
  have HR := Lib.hid (hr.below hb1)
  have HRB := Lib.hid (hrb.below hb1)
  have HN := Lib.hid hn
  have HNB := Lib.hid hnb
  have HC : Hid (∀ W, Below W1.heap.size W1 W → W.cell? ⟨w.heap.size, 0, none⟩ = some (.int .i64 g) ∧ W.cell? ⟨w.heap.size, 1, none⟩ = some (.int .i64 l) ∧ W.cell? ⟨w.heap.size, 2, none⟩ = some (.slice a n c)) := Lib.hid (fun W hb => by
    have h := block_below hb hk1
    exact ⟨(cell_of_block h 0).trans rfl, (cell_of_block h 1).trans rfl, (cell_of_block h 2).trans rfl⟩)
  clear hW1 hb1 hk1 ht he hr hrb hn hnb
  go_enter Tryd.func3, Tryd.ntmps3
  go_wp2_with fail
  rw [HW1.out]
  with_reducible refine (awake8_calls W1 HTAB.out).mono ?_
  rintro e w2 ⟨rfl, hb2⟩
  have HB2 := Lib.hid hb2
  have HB02 := Lib.hid (below_then HB1.out hb2)
  obtain ⟨c0, c1, c2⟩ := HC.out _ hb2
  clear hb2
  by_cases hs1 : 1000 < n
  · have d1 : decide ((n : Int) > 1000) = true := by simp; omega
    go_wp2
    go_ret
    exact ⟨rfl, HB02.out⟩
  have d1 : decide ((n : Int) > 1000) = false := by simp; omega
  by_cases hs2 : 8192 < nb
  · have d2 : decide ((nb : Int) > 8192) = true := by simp; omega
    go_wp2
    go_ret
    exact ⟨rfl, HB02.out⟩
  have d2 : decide ((nb : Int) > 8192) = false := by simp; omega
  by_cases hs3 : 1000 < s.size
  · have d3 : decide ((s.size : Int) > 1000) = true := by simp; omega
    go_wp2
    go_ret
    exact ⟨rfl, HB02.out⟩
  have d3 : decide ((s.size : Int) > 1000) = false := by simp; omega
  -- the two Decodes
  obtain ⟨M, hM⟩ : ∃ M, (decM L).getD noM = M := ⟨_, rfl⟩
  obtain ⟨q, hq⟩ : ∃ q, (decM L).isSome = q := ⟨_, rfl⟩
  obtain ⟨⟨mg, ml, ms⟩, hMM⟩ : ∃ x, M = x := ⟨_, rfl⟩
  rw [hMM] at hM
  obtain ⟨k, hk⟩ : ∃ k, ms.length = k := ⟨_, rfl⟩
  have HK := Lib.hid hk
  have hkb : k ≤ 1073741824 := by
    rw [← hk]
    cases hd : decM L with
    | none => rw [hd] at hM; have : ms = [] := by have := congrArg Mfs.segs hM; exact this.symm
              rw [this]; simp
    | some x =>
      rw [hd] at hM
      obtain rfl : x = ⟨mg, ml, ms⟩ := hM
      have := (mayM_is.1 (decM_inv hd).1).len1
      dsimp only at this
      omega
  have HD1 := Lib.hid (mdecode_calls ab L nb cb w2 (HRB.out.below HB2.out) HNB.out (by omega) hcb hmb)
  unfold DecOut at HD1
  rw [hM, hq] at HD1
  have HMQ := Lib.hid (And.intro hM hq)
  clear hM hq hMM hk
  go_wp2_with fail
  with_reducible refine HD1.out.mono ?_
  rintro e w3 ⟨v3, rfl, hmv3, hb3⟩
  obtain ⟨a3, c3, S3, hv3, hir3, _, _, _, _⟩ := hmv3
  have hv3' : v3 = .agg #[.int .i64 mg, .int .i64 ml, .slice a3 k c3] := by rw [hv3, ← HK.out]; rfl
  clear hv3
  subst hv3'
  obtain ⟨W4, hW4⟩ : ∃ W, w3.alloc (.cells #[.int .i64 mg, .int .i64 ml, .slice a3 k c3] 24) = W := ⟨_, rfl⟩
  have hb34 : Below w3.heap.size w3 W4 := by rw [← hW4]; exact (Below.refl _ _).alloc (Nat.le_refl _) _
  have HK4 : Hid (W4.heap[w3.heap.size]? = some (.cells #[.int .i64 mg, .int .i64 ml, .slice a3 k c3] 24 (0, 0))) := Lib.hid (by rw [← hW4]; exact heap_alloc_new _ _)
  have HB4 := Lib.hid (below_then HB2.out (below_then hb3 hb34))
  have HIR4 := Lib.hid (hir3.below hb34)
  have HD2 := Lib.hid (rdecode8_calls ab L nb cb W4 (HRB.out.below HB4.out) HNB.out (by omega) hcb hmb)
  unfold DecOut at HD2
  rw [HMQ.out.1, HMQ.out.2] at HD2
  clear hb3 hb34 hir3 HD1
  go_wp2_with fail
  clear hW4
  with_reducible refine HD2.out.mono ?_
  rintro e w5 ⟨v5, rfl, hmv5, hb5⟩
  obtain ⟨a5, c5, S5, hv5, hir5, _, _, _, _⟩ := hmv5
  have hv5' : v5 = .agg #[.int .i64 mg, .int .i64 ml, .slice a5 k c5] := by rw [hv5, ← HK.out]; rfl
  clear hv5
  subst hv5'
  obtain ⟨W6, hW6⟩ : ∃ W, w5.alloc (.cells #[.int .i64 mg, .int .i64 ml, .slice a5 k c5] 24) = W := ⟨_, rfl⟩
  have hb56 : Below w5.heap.size w5 W6 := by rw [← hW6]; exact (Below.refl _ _).alloc (Nat.le_refl _) _
  have HK6 : Hid (W6.heap[w5.heap.size]? = some (.cells #[.int .i64 mg, .int .i64 ml, .slice a5 k c5] 24 (0, 0))) := Lib.hid (by rw [← hW6]; exact heap_alloc_new _ _)
  have HB46 := Lib.hid (below_then hb5 hb56)
  have HB6 := Lib.hid (below_then HB4.out HB46.out)
  have HIR6 := Lib.hid (hir5.below hb56)
  -- the two Generations
  have HG1 := Lib.hid (generation_calls s W6 (by omega) (HTAB.out.below HB6.out) (HER.out.below HB6.out))
  unfold GenOut at HG1
  have HG2 := Lib.hid (fun W => rgen8_calls s W)
  unfold GenOut at HG2
  obtain ⟨gn, hgn⟩ : ∃ x, genB s = x := ⟨_, rfl⟩
  obtain ⟨gb, hgb⟩ : ∃ x, decide (0 < gn) = x := ⟨_, rfl⟩
  rw [hgn, hgb] at HG1 HG2
  clear hb5 hb56 hir5 HD2 hgn hgb
  go_wp2_with fail
  clear hW6
  with_reducible refine HG1.out.mono ?_
  rintro e w7 ⟨rfl, hb7⟩
  have HB67 := Lib.hid hb7
  clear hb7 HG1
  go_wp2_with fail
  with_reducible refine (HG2.out w7).mono ?_
  rintro e w8 ⟨rfl, hb8⟩
  have HB48 := Lib.hid (below_then HB46.out (below_then HB67.out hb8))
  have HB68 := Lib.hid (below_then HB67.out hb8)
  have HB8 := Lib.hid (below_then HB6.out HB68.out)
  have HBW : Hid (∀ W, Below w8.heap.size w8 W → Below W1.heap.size W1 W) := Lib.hid (fun W hb => below_then HB8.out hb)
  have HCELL : Hid (∀ W, Below w8.heap.size w8 W → W.cell? ⟨w.heap.size, 0, none⟩ = some (.int .i64 g) ∧ W.cell? ⟨w.heap.size, 1, none⟩ = some (.int .i64 l) ∧ W.cell? ⟨w.heap.size, 2, none⟩ = some (.slice a n c) ∧ W.cell? ⟨w3.heap.size, 0, none⟩ = some (.int .i64 mg) ∧ W.cell? ⟨w3.heap.size, 1, none⟩ = some (.int .i64 ml) ∧ W.cell? ⟨w3.heap.size, 2, none⟩ = some (.slice a3 k c3) ∧ W.cell? ⟨w5.heap.size, 0, none⟩ = some (.int .i64 mg) ∧ W.cell? ⟨w5.heap.size, 1, none⟩ = some (.int .i64 ml) ∧ W.cell? ⟨w5.heap.size, 2, none⟩ = some (.slice a5 k c5)) := Lib.hid (fun W hb => by
    obtain ⟨e0, e1, e2⟩ := HC.out _ (below_then HB8.out hb)
    have h4 := block_below (below_then HB48.out hb) HK4.out
    have h6 := block_below (below_then HB68.out hb) HK6.out
    exact ⟨e0, e1, e2, (cell_of_block h4 0).trans rfl, (cell_of_block h4 1).trans rfl, (cell_of_block h4 2).trans rfl, (cell_of_block h6 0).trans rfl, (cell_of_block h6 1).trans rfl, (cell_of_block h6 2).trans rfl⟩)
  obtain ⟨qm, hqm⟩ : ∃ x, mayM ⟨g, l, segs⟩ = x := ⟨_, rfl⟩
  obtain ⟨E, hE⟩ : ∃ x, encM ⟨g, l, segs⟩ = x := ⟨_, rfl⟩
  have hEl : E.length ≤ 280 := by rw [← hE]; exact encM_le _
  obtain ⟨ne, hne⟩ : ∃ x, E.length = x := ⟨_, rfl⟩
  have hne9 : ne ≤ 280 := by rw [← hne]; exact hEl
  obtain ⟨X, hX⟩ : ∃ x, mnameB g = x := ⟨_, rfl⟩
  have HM1 : Hid (∀ W, Below w8.heap.size w8 W → Calls Tryd.prog 10 #[.agg #[.int .i64 g, .int .i64 l, .slice a n c]] W (Leaves (.bool qm) W)) := Lib.hid (fun W hb => by
    rw [← hqm]; exact mmay_calls g l a segs n c W (HR.out.below (HBW.out _ hb)) HN.out (by omega))
  have HM2 : Hid (∀ W, Below w8.heap.size w8 W → Calls Tryd.prog 11 #[.agg #[.int .i64 g, .int .i64 l, .slice a n c]] W (Leaves (.bool qm) W)) := Lib.hid (fun W hb => by
    rw [← hqm]; exact rmay8_calls g l a segs n c W (HR.out.below (HBW.out _ hb)) HN.out (by omega))
  have HE1 : Hid (∀ W, Below w8.heap.size w8 W → Calls Tryd.prog 13 #[.agg #[.int .i64 g, .int .i64 l, .slice a n c]] W (Gives E W)) := Lib.hid (fun W hb => by
    rw [← hE]; exact mencode_calls g l a segs n c W (HR.out.below (HBW.out _ hb)) HN.out (by omega) h0)
  have HE2 : Hid (∀ W, Below w8.heap.size w8 W → Calls Tryd.prog 14 #[.agg #[.int .i64 g, .int .i64 l, .slice a n c]] W (Gives E W)) := Lib.hid (fun W hb => by
    rw [← hE]; exact rencode8_calls g l a segs n c W (HR.out.below (HBW.out _ hb)) HN.out (by omega))
  have HSM : Hid (∀ W, Below w8.heap.size w8 W → Calls Tryd.prog 15 #[.agg #[.int .i64 mg, .int .i64 ml, .slice a3 k c3], .agg #[.int .i64 mg, .int .i64 ml, .slice a5 k c5]] W (Leaves (.bool true) W)) := Lib.hid (fun W hb => by
    have := rsame8_calls mg ml mg ml a3 a5 ms ms k c3 k c5 W (HIR4.out.below (below_then HB48.out hb)) HK.out (by omega) (HIR6.out.below (below_then HB68.out hb)) HK.out (by omega)
    rwa [sameM_self] at this)
  have HN1 : Hid (∀ W, Below w8.heap.size w8 W → Calls Tryd.prog 16 #[.int .i64 g] W (Leaves (.string X) W)) := Lib.hid (fun W hb => by
    rw [← hX]; exact mname_calls g W (HTAB.out.below (HBW.out _ hb)))
  have HN2 : Hid (∀ W, Calls Tryd.prog 17 #[.int .i64 g] W (Leaves (.string X) W)) := Lib.hid (fun W => by
    rw [← hX]; exact rname8_calls g W)
  have HNE := Lib.hid hne
  have HEND : Hid (∀ W, Below w8.heap.size w8 W → Below w.heap.size w W) := Lib.hid (fun W hb => below_then HB1.out (HBW.out _ hb))
  clear hb8 HG2 hqm hE hne hX HR HRB HB2 HB02 HB4 HB46 HB6 HB67 HB8 HK4 HK6 HIR4 HIR6 HMQ h0 c0 c1 c2
  go_wp2_with fail
  obtain ⟨x0, hx0⟩ : ∃ W, w8.drew = W := ⟨_, rfl⟩
  have hbx0 : Below w8.heap.size w8 x0 := by rw [← hx0]; exact below_drewN w8 1
  have HBx0 := Lib.hid hbx0
  refine wp_region_held_drew (S := fun W => W.cell? ⟨w.heap.size, 0, none⟩ = some (.int .i64 g) ∧ W.cell? ⟨w.heap.size, 1, none⟩ = some (.int .i64 l) ∧ W.cell? ⟨w.heap.size, 2, none⟩ = some (.slice a n c) ∧ W.cell? ⟨w3.heap.size, 0, none⟩ = some (.int .i64 mg) ∧ W.cell? ⟨w3.heap.size, 1, none⟩ = some (.int .i64 ml) ∧ W.cell? ⟨w3.heap.size, 2, none⟩ = some (.slice a3 k c3) ∧ W.cell? ⟨w5.heap.size, 0, none⟩ = some (.int .i64 mg) ∧ W.cell? ⟨w5.heap.size, 1, none⟩ = some (.int .i64 ml) ∧ W.cell? ⟨w5.heap.size, 2, none⟩ = some (.slice a5 k c5)) (by kernel_rfl) (by rw [hx0]; exact HCELL.out _ hbx0) (fun hHeld => ?_)
  rw [hx0] at hHeld ⊢
  clear hx0 hbx0
  refine wpAnyH_take (i := 0) (v := ?_) rfl (by kernel_rfl) (by kernel_rfl) (by kernel_rfl) (fun _ _ _ h => h) (Or.inl ⟨by rfl, ?_⟩) (by assumption) ?_
  rotate_left
  · intro W hS
    try dsimp only at hS
    go_simp
    try with_reducible rfl
  simp only [List.getElem_toArray, List.getElem_cons_zero, Act.put, List.setIfInBounds_toArray, List.set_cons_zero, List.set_cons_succ]
  refine wpAnyH_take (i := 2) (v := ?_) rfl (by kernel_rfl) (by kernel_rfl) (by kernel_rfl) (fun _ _ _ h => h) (Or.inl ⟨by rfl, ?_⟩) (by assumption) ?_
  rotate_left
  · intro W hS
    try dsimp only at hS
    go_simp
    try with_reducible rfl
  simp only [List.getElem_toArray, List.getElem_cons_succ, List.getElem_cons_zero, Act.put, List.setIfInBounds_toArray, List.set_cons_zero, List.set_cons_succ]
  refine wpAnyH_ready (rs := [1]) (by kernel_rfl) (by simp) ?_
  refine AllReadyH.cons rfl (fun K hK => ?_) AllReadyH.nil
  go_simp
  with_reducible refine (HM1.out _ HBx0.out).mono ?_
  rintro e x1 ⟨rfl, hbx1⟩
  have HBx1 := Lib.hid (below_then HBx0.out hbx1)
  clear hbx1
  refine hK.out _ _ (HCELL.out _ HBx1.out) (fun hHeld => ?_)
  clear hK K
  try simp only [List.getElem_toArray, List.getElem_cons_succ, List.getElem_cons_zero, Act.put, List.setIfInBounds_toArray, List.set_cons_zero, List.set_cons_succ]
  refine wpAnyH_ready (rs := [3]) (by kernel_rfl) (by simp) ?_
  refine AllReadyH.cons rfl (fun K hK => ?_) AllReadyH.nil
  go_simp
  with_reducible refine (HM2.out _ HBx1.out).mono ?_
  rintro e x2 ⟨rfl, hbx2⟩
  have HBx2 := Lib.hid (below_then HBx1.out hbx2)
  clear hbx2
  refine hK.out _ _ (HCELL.out _ HBx2.out) (fun hHeld => ?_)
  clear hK K
  try simp only [List.getElem_toArray, List.getElem_cons_succ, List.getElem_cons_zero, Act.put, List.setIfInBounds_toArray, List.set_cons_zero, List.set_cons_succ]
  refine wpAnyH_take (i := 4) (v := ?_) rfl (by kernel_rfl) (by kernel_rfl) (by kernel_rfl) (fun _ _ _ h => h) (Or.inl ⟨by rfl, ?_⟩) (by assumption) ?_
  rotate_left
  · intro W hS
    try dsimp only at hS
    go_simp
    try with_reducible rfl
  simp only [List.getElem_toArray, List.getElem_cons_succ, List.getElem_cons_zero, Act.put, List.setIfInBounds_toArray, List.set_cons_zero, List.set_cons_succ]
  refine wpAnyH_take (i := 5) (v := ?_) rfl (by kernel_rfl) (by kernel_rfl) (by kernel_rfl) (fun _ _ _ h => h) (Or.inl ⟨by rfl, ?_⟩) (by assumption) ?_
  rotate_left
  · intro W hS
    try dsimp only at hS
    go_simp
    try with_reducible rfl
  simp only [List.getElem_toArray, List.getElem_cons_succ, List.getElem_cons_zero, Act.put, List.setIfInBounds_toArray, List.set_cons_zero, List.set_cons_succ]
  refine wpAnyH_take (i := 6) (v := ?_) rfl (by kernel_rfl) (by kernel_rfl) (by kernel_rfl) (fun _ _ _ h => h) (Or.inl ⟨by rfl, ?_⟩) (by assumption) ?_
  rotate_left
  · intro W hS
    try dsimp only at hS
    go_simp
    try with_reducible rfl
  simp only [List.getElem_toArray, List.getElem_cons_succ, List.getElem_cons_zero, Act.put, List.setIfInBounds_toArray, List.set_cons_zero, List.set_cons_succ]
  refine wpAnyH_take (i := 8) (v := ?_) rfl (by kernel_rfl) (by kernel_rfl) (by kernel_rfl) (fun _ _ _ h => h) (Or.inl ⟨by rfl, ?_⟩) (by assumption) ?_
  rotate_left
  · intro W hS
    try dsimp only at hS
    go_simp
    try with_reducible rfl
  simp only [List.getElem_toArray, List.getElem_cons_succ, List.getElem_cons_zero, Act.put, List.setIfInBounds_toArray, List.set_cons_zero, List.set_cons_succ]
  refine wpAnyH_ready (rs := [7]) (by kernel_rfl) (by simp) ?_
  refine AllReadyH.cons rfl (fun K hK => ?_) AllReadyH.nil
  go_simp
  with_reducible refine (HE1.out _ HBx2.out).mono ?_
  rintro e x3 ⟨v11, rfl, hown11⟩
  obtain ⟨a11, c11, hv11, hrow11, _⟩ := hown11.form
  rw [HNE.out] at hv11
  subst hv11
  have HBx3 := Lib.hid (below_then HBx2.out hown11.bel)
  have HROW11 := Lib.hid hrow11
  clear hown11 hrow11
  refine hK.out _ _ (HCELL.out _ HBx3.out) (fun hHeld => ?_)
  clear hK K
  try simp only [List.getElem_toArray, List.getElem_cons_succ, List.getElem_cons_zero, Act.put, List.setIfInBounds_toArray, List.set_cons_zero, List.set_cons_succ]
  refine wpAnyH_ready (rs := [9]) (by kernel_rfl) (by simp) ?_
  refine AllReadyH.cons rfl (fun K hK => ?_) AllReadyH.nil
  go_simp
  with_reducible refine (HE2.out _ HBx3.out).mono ?_
  rintro e x4 ⟨v12, rfl, hown12⟩
  obtain ⟨a12, c12, hv12, hrow12, _⟩ := hown12.form
  rw [HNE.out] at hv12
  subst hv12
  have HBx4 := Lib.hid (below_then HBx3.out hown12.bel)
  have HBY := Lib.hid (bytes_calls a11 a12 E E c11 c12 ne ne x4 (HROW11.out.below hown12.bel) hrow12 HNE.out HNE.out (by omega) (by omega))
  clear hown12 hrow12
  refine hK.out _ _ (HCELL.out _ HBx4.out) (fun hHeld => ?_)
  clear hK K
  try simp only [List.getElem_toArray, List.getElem_cons_succ, List.getElem_cons_zero, Act.put, List.setIfInBounds_toArray, List.set_cons_zero, List.set_cons_succ]
  refine wpAnyH_ready (rs := [10]) (by kernel_rfl) (by simp) ?_
  refine AllReadyH.cons rfl (fun K hK => ?_) AllReadyH.nil
  go_simp
  with_reducible refine HBY.out.mono ?_
  rintro e x5 ⟨rfl, k5, hk5⟩
  have HBx5 : Hid (Below w8.heap.size w8 x5) := Lib.hid (below_then HBx4.out (by rw [hk5]; exact below_drewN _ _))
  clear hk5
  rw [decide_eq_true (rfl : E = E)]
  refine hK.out _ _ (HCELL.out _ HBx5.out) (fun hHeld => ?_)
  clear hK K
  try simp only [List.getElem_toArray, List.getElem_cons_succ, List.getElem_cons_zero, Act.put, List.setIfInBounds_toArray, List.set_cons_zero, List.set_cons_succ]
  refine wpAnyH_take (i := 11) (v := ?_) rfl (by kernel_rfl) (by kernel_rfl) (by kernel_rfl) (fun _ _ _ h => h) (Or.inl ⟨by rfl, ?_⟩) (by assumption) ?_
  rotate_left
  · intro W hS
    try dsimp only at hS
    go_simp
    try with_reducible rfl
  simp only [List.getElem_toArray, List.getElem_cons_succ, List.getElem_cons_zero, Act.put, List.setIfInBounds_toArray, List.set_cons_zero, List.set_cons_succ]
  refine wpAnyH_take (i := 12) (v := ?_) rfl (by kernel_rfl) (by kernel_rfl) (by kernel_rfl) (fun _ _ _ h => h) (Or.inl ⟨by rfl, ?_⟩) (by assumption) ?_
  rotate_left
  · intro W hS
    try dsimp only at hS
    go_simp
    try with_reducible rfl
  simp only [List.getElem_toArray, List.getElem_cons_succ, List.getElem_cons_zero, Act.put, List.setIfInBounds_toArray, List.set_cons_zero, List.set_cons_succ]
  refine wpAnyH_take (i := 13) (v := ?_) rfl (by kernel_rfl) (by kernel_rfl) (by kernel_rfl) (fun _ _ _ h => h) (Or.inl ⟨by rfl, ?_⟩) (by assumption) ?_
  rotate_left
  · intro W hS
    try dsimp only at hS
    go_simp
    try with_reducible rfl
  simp only [List.getElem_toArray, List.getElem_cons_succ, List.getElem_cons_zero, Act.put, List.setIfInBounds_toArray, List.set_cons_zero, List.set_cons_succ]
  refine wpAnyH_take (i := 14) (v := ?_) rfl (by kernel_rfl) (by kernel_rfl) (by kernel_rfl) (fun _ _ _ h => h) (Or.inl ⟨by rfl, ?_⟩) (by assumption) ?_
  rotate_left
  · intro W hS
    try dsimp only at hS
    go_simp
    try with_reducible rfl
  simp only [List.getElem_toArray, List.getElem_cons_succ, List.getElem_cons_zero, Act.put, List.setIfInBounds_toArray, List.set_cons_zero, List.set_cons_succ]
  refine wpAnyH_ready (rs := [15]) (by kernel_rfl) (by simp) ?_
  refine AllReadyH.cons rfl (fun K hK => ?_) AllReadyH.nil
  go_simp
  with_reducible refine (HSM.out _ HBx5.out).mono ?_
  rintro e x6 ⟨rfl, hbx6⟩
  have HBx6 := Lib.hid (below_then HBx5.out hbx6)
  clear hbx6
  refine hK.out _ _ (HCELL.out _ HBx6.out) (fun hHeld => ?_)
  clear hK K
  try simp only [List.getElem_toArray, List.getElem_cons_succ, List.getElem_cons_zero, Act.put, List.setIfInBounds_toArray, List.set_cons_zero, List.set_cons_succ]
  refine wpAnyH_take (i := 16) (v := ?_) rfl (by kernel_rfl) (by kernel_rfl) (by kernel_rfl) (fun _ _ _ h => h) (Or.inl ⟨by rfl, ?_⟩) (by assumption) ?_
  rotate_left
  · intro W hS
    try dsimp only at hS
    go_simp
    try with_reducible rfl
  simp only [List.getElem_toArray, List.getElem_cons_succ, List.getElem_cons_zero, Act.put, List.setIfInBounds_toArray, List.set_cons_zero, List.set_cons_succ]
  refine wpAnyH_take (i := 17) (v := ?_) rfl (by kernel_rfl) (by kernel_rfl) (by kernel_rfl) (fun _ _ _ h => h) (Or.inl ⟨by rfl, ?_⟩) (by assumption) ?_
  rotate_left
  · intro W hS
    try dsimp only at hS
    go_simp
    try with_reducible rfl
  simp only [List.getElem_toArray, List.getElem_cons_succ, List.getElem_cons_zero, Act.put, List.setIfInBounds_toArray, List.set_cons_zero, List.set_cons_succ]
  refine wpAnyH_take (i := 18) (v := ?_) rfl (by kernel_rfl) (by kernel_rfl) (by kernel_rfl) (fun _ _ _ h => h) (Or.inl ⟨by rfl, ?_⟩) (by assumption) ?_
  rotate_left
  · intro W hS
    try dsimp only at hS
    go_simp
    try with_reducible rfl
  simp only [List.getElem_toArray, List.getElem_cons_succ, List.getElem_cons_zero, Act.put, List.setIfInBounds_toArray, List.set_cons_zero, List.set_cons_succ]
  refine wpAnyH_take (i := 19) (v := ?_) rfl (by kernel_rfl) (by kernel_rfl) (by kernel_rfl) (fun _ _ _ h => h) (Or.inl ⟨by rfl, ?_⟩) (by assumption) ?_
  rotate_left
  · intro W hS
    try dsimp only at hS
    go_simp
    try with_reducible rfl
  simp only [List.getElem_toArray, List.getElem_cons_succ, List.getElem_cons_zero, Act.put, List.setIfInBounds_toArray, List.set_cons_zero, List.set_cons_succ]
  refine wpAnyH_take (i := 20) (v := ?_) rfl (by kernel_rfl) (by kernel_rfl) (by kernel_rfl) (fun _ _ _ h => h) (Or.inl ⟨by rfl, ?_⟩) (by assumption) ?_
  rotate_left
  · intro W hS
    try dsimp only at hS
    go_simp
    try with_reducible rfl
  simp only [List.getElem_toArray, List.getElem_cons_succ, List.getElem_cons_zero, Act.put, List.setIfInBounds_toArray, List.set_cons_zero, List.set_cons_succ]
  refine wpAnyH_take (i := 21) (v := ?_) rfl (by kernel_rfl) (by kernel_rfl) (by kernel_rfl) (fun _ _ _ h => h) (Or.inl ⟨by rfl, ?_⟩) (by assumption) ?_
  rotate_left
  · intro W hS
    try dsimp only at hS
    go_simp
    try with_reducible rfl
  simp only [List.getElem_toArray, List.getElem_cons_succ, List.getElem_cons_zero, Act.put, List.setIfInBounds_toArray, List.set_cons_zero, List.set_cons_succ]
  refine wpAnyH_take (i := 22) (v := ?_) rfl (by kernel_rfl) (by kernel_rfl) (by kernel_rfl) (fun _ _ _ h => h) (Or.inl ⟨by rfl, ?_⟩) (by assumption) ?_
  rotate_left
  · intro W hS
    try dsimp only at hS
    go_simp
    try with_reducible rfl
  simp only [List.getElem_toArray, List.getElem_cons_succ, List.getElem_cons_zero, Act.put, List.setIfInBounds_toArray, List.set_cons_zero, List.set_cons_succ]
  refine wpAnyH_take (i := 23) (v := ?_) rfl (by kernel_rfl) (by kernel_rfl) (by kernel_rfl) (fun _ _ _ h => h) (Or.inl ⟨by rfl, ?_⟩) (by assumption) ?_
  rotate_left
  · intro W hS
    try dsimp only at hS
    go_simp
    try with_reducible rfl
  simp only [List.getElem_toArray, List.getElem_cons_succ, List.getElem_cons_zero, Act.put, List.setIfInBounds_toArray, List.set_cons_zero, List.set_cons_succ]
  refine wpAnyH_take (i := 24) (v := ?_) rfl (by kernel_rfl) (by kernel_rfl) (by kernel_rfl) (fun _ _ _ h => h) (Or.inl ⟨by rfl, ?_⟩) (by assumption) ?_
  rotate_left
  · intro W hS
    try dsimp only at hS
    go_simp
    try with_reducible rfl
  simp only [List.getElem_toArray, List.getElem_cons_succ, List.getElem_cons_zero, Act.put, List.setIfInBounds_toArray, List.set_cons_zero, List.set_cons_succ]
  refine wpAnyH_take (i := 25) (v := ?_) rfl (by kernel_rfl) (by kernel_rfl) (by kernel_rfl) (fun _ _ _ h => h) (Or.inl ⟨by rfl, ?_⟩) (by assumption) ?_
  rotate_left
  · intro W hS
    try dsimp only at hS
    go_simp
    try with_reducible rfl
  simp only [List.getElem_toArray, List.getElem_cons_succ, List.getElem_cons_zero, Act.put, List.setIfInBounds_toArray, List.set_cons_zero, List.set_cons_succ]
  refine wpAnyH_take (i := 26) (v := ?_) rfl (by kernel_rfl) (by kernel_rfl) (by kernel_rfl) (fun _ _ _ h => h) (Or.inl ⟨by rfl, ?_⟩) (by assumption) ?_
  rotate_left
  · intro W hS
    try dsimp only at hS
    go_simp
    try with_reducible rfl
  simp only [List.getElem_toArray, List.getElem_cons_succ, List.getElem_cons_zero, Act.put, List.setIfInBounds_toArray, List.set_cons_zero, List.set_cons_succ]
  refine wpAnyH_take (i := 27) (v := ?_) rfl (by kernel_rfl) (by kernel_rfl) (by kernel_rfl) (fun _ _ _ h => h) (Or.inl ⟨by rfl, ?_⟩) (by assumption) ?_
  rotate_left
  · intro W hS
    try dsimp only at hS
    go_simp
    try with_reducible rfl
  simp only [List.getElem_toArray, List.getElem_cons_succ, List.getElem_cons_zero, Act.put, List.setIfInBounds_toArray, List.set_cons_zero, List.set_cons_succ]
  refine wpAnyH_take (i := 28) (v := ?_) rfl (by kernel_rfl) (by kernel_rfl) (by kernel_rfl) (fun _ _ _ h => h) (Or.inl ⟨by rfl, ?_⟩) (by assumption) ?_
  rotate_left
  · intro W hS
    try dsimp only at hS
    go_simp
    try with_reducible rfl
  simp only [List.getElem_toArray, List.getElem_cons_succ, List.getElem_cons_zero, Act.put, List.setIfInBounds_toArray, List.set_cons_zero, List.set_cons_succ]
  refine wpAnyH_take (i := 29) (v := ?_) rfl (by kernel_rfl) (by kernel_rfl) (by kernel_rfl) (fun _ _ _ h => h) (Or.inl ⟨by rfl, ?_⟩) (by assumption) ?_
  rotate_left
  · intro W hS
    try dsimp only at hS
    go_simp
    try with_reducible rfl
  simp only [List.getElem_toArray, List.getElem_cons_succ, List.getElem_cons_zero, Act.put, List.setIfInBounds_toArray, List.set_cons_zero, List.set_cons_succ]
  refine wpAnyH_take (i := 30) (v := ?_) rfl (by kernel_rfl) (by kernel_rfl) (by kernel_rfl) (fun _ _ _ h => h) (Or.inl ⟨by rfl, ?_⟩) (by assumption) ?_
  rotate_left
  · intro W hS
    try dsimp only at hS
    go_simp
    try with_reducible rfl
  simp only [List.getElem_toArray, List.getElem_cons_succ, List.getElem_cons_zero, Act.put, List.setIfInBounds_toArray, List.set_cons_zero, List.set_cons_succ]
  refine wpAnyH_take (i := 31) (v := ?_) rfl (by kernel_rfl) (by kernel_rfl) (by kernel_rfl) (fun _ _ _ h => h) (Or.inl ⟨by rfl, ?_⟩) (by assumption) ?_
  rotate_left
  · intro W hS
    try dsimp only at hS
    go_simp
    try with_reducible rfl
  simp only [List.getElem_toArray, List.getElem_cons_succ, List.getElem_cons_zero, Act.put, List.setIfInBounds_toArray, List.set_cons_zero, List.set_cons_succ]
  refine wpAnyH_take (i := 32) (v := ?_) rfl (by kernel_rfl) (by kernel_rfl) (by kernel_rfl) (fun _ _ _ h => h) (Or.inl ⟨by rfl, ?_⟩) (by assumption) ?_
  rotate_left
  · intro W hS
    try dsimp only at hS
    go_simp
    try with_reducible rfl
  simp only [List.getElem_toArray, List.getElem_cons_succ, List.getElem_cons_zero, Act.put, List.setIfInBounds_toArray, List.set_cons_zero, List.set_cons_succ]
  refine wpAnyH_take (i := 33) (v := ?_) rfl (by kernel_rfl) (by kernel_rfl) (by kernel_rfl) (fun _ _ _ h => h) (Or.inl ⟨by rfl, ?_⟩) (by assumption) ?_
  rotate_left
  · intro W hS
    try dsimp only at hS
    go_simp
    try with_reducible rfl
  simp only [List.getElem_toArray, List.getElem_cons_succ, List.getElem_cons_zero, Act.put, List.setIfInBounds_toArray, List.set_cons_zero, List.set_cons_succ]
  refine wpAnyH_take (i := 34) (v := ?_) rfl (by kernel_rfl) (by kernel_rfl) (by kernel_rfl) (fun _ _ _ h => h) (Or.inl ⟨by rfl, ?_⟩) (by assumption) ?_
  rotate_left
  · intro W hS
    try dsimp only at hS
    go_simp
    try with_reducible rfl
  simp only [List.getElem_toArray, List.getElem_cons_succ, List.getElem_cons_zero, Act.put, List.setIfInBounds_toArray, List.set_cons_zero, List.set_cons_succ]
  refine wpAnyH_take (i := 36) (v := ?_) rfl (by kernel_rfl) (by kernel_rfl) (by kernel_rfl) (fun _ _ _ h => h) (Or.inl ⟨by rfl, ?_⟩) (by assumption) ?_
  rotate_left
  · intro W hS
    try dsimp only at hS
    go_simp
    try with_reducible rfl
  simp only [List.getElem_toArray, List.getElem_cons_succ, List.getElem_cons_zero, Act.put, List.setIfInBounds_toArray, List.set_cons_zero, List.set_cons_succ]
  refine wpAnyH_take (i := 37) (v := ?_) rfl (by kernel_rfl) (by kernel_rfl) (by kernel_rfl) (fun _ _ _ h => h) (Or.inl ⟨by rfl, ?_⟩) (by assumption) ?_
  rotate_left
  · intro W hS
    try dsimp only at hS
    go_simp
    try with_reducible rfl
  simp only [List.getElem_toArray, List.getElem_cons_succ, List.getElem_cons_zero, Act.put, List.setIfInBounds_toArray, List.set_cons_zero, List.set_cons_succ]
  refine wpAnyH_ready (rs := [35]) (by kernel_rfl) (by simp) ?_
  refine AllReadyH.cons rfl (fun K hK => ?_) AllReadyH.nil
  go_simp
  with_reducible refine (HN1.out _ HBx6.out).mono ?_
  rintro e x7 ⟨rfl, hbx7⟩
  have HBx7 := Lib.hid (below_then HBx6.out hbx7)
  clear hbx7
  refine hK.out _ _ (HCELL.out _ HBx7.out) (fun hHeld => ?_)
  clear hK K
  try simp only [List.getElem_toArray, List.getElem_cons_succ, List.getElem_cons_zero, Act.put, List.setIfInBounds_toArray, List.set_cons_zero, List.set_cons_succ]
  refine wpAnyH_ready (rs := [38]) (by kernel_rfl) (by simp) ?_
  refine AllReadyH.cons rfl (fun K hK => ?_) AllReadyH.nil
  go_simp
  with_reducible refine (HN2.out x7).mono ?_
  rintro e x8 ⟨rfl, hbx8⟩
  have HBx8 := Lib.hid (below_then HBx7.out hbx8)
  clear hbx8
  refine hK.out _ _ (HCELL.out _ HBx8.out) (fun hHeld => ?_)
  clear hK K
  try simp only [List.getElem_toArray, List.getElem_cons_succ, List.getElem_cons_zero, Act.put, List.setIfInBounds_toArray, List.set_cons_zero, List.set_cons_succ]
  refine wpAnyH_take (i := 39) (v := ?_) rfl (by kernel_rfl) (by kernel_rfl) (by kernel_rfl) (fun _ _ _ h => h) (Or.inl ⟨by rfl, ?_⟩) (by assumption) ?_
  rotate_left
  · intro W hS
    try dsimp only at hS
    go_simp
    try with_reducible rfl
  simp only [List.getElem_toArray, List.getElem_cons_succ, List.getElem_cons_zero, Act.put, List.setIfInBounds_toArray, List.set_cons_zero, List.set_cons_succ]
  refine wpAnyH_take (i := 40) (v := ?_) rfl (by kernel_rfl) (by kernel_rfl) (by kernel_rfl) (fun _ _ _ h => h) (Or.inl ⟨by rfl, ?_⟩) (by assumption) ?_
  rotate_left
  · intro W hS
    try dsimp only at hS
    go_simp
    try with_reducible rfl
  simp only [List.getElem_toArray, List.getElem_cons_succ, List.getElem_cons_zero, Act.put, List.setIfInBounds_toArray, List.set_cons_zero, List.set_cons_succ]
  refine wpAnyH_take (i := 41) (v := ?_) rfl (by kernel_rfl) (by kernel_rfl) (by kernel_rfl) (fun _ _ _ h => h) (Or.inl ⟨by rfl, ?_⟩) (by assumption) ?_
  rotate_left
  · intro W hS
    try dsimp only at hS
    go_simp
    try with_reducible rfl
  simp only [List.getElem_toArray, List.getElem_cons_succ, List.getElem_cons_zero, Act.put, List.setIfInBounds_toArray, List.set_cons_zero, List.set_cons_succ]
  refine wpAnyH_done (by kernel_rfl) ?_ _
  go_wp2_with fail
  go_ret
  exact ⟨rfl, HEND.out _ HBx8.out⟩

end Go.Proofs.YtacfcfbleogioaaDoor
