/-
 From a row's list of laid variables to what the walks ask of the world; the wrap of a row that lists variables and keeps the world's shape; a world in which the listed variables hold what the program's text lays. No condition.
-/
import Derived.Test.YtocnedpclllbhaaGreatDoorVI
import Derived.Test.YtocnedpclllbhaaGreatDoorVF
import Derived.Lib.QuietBelow
import Derived.LaidMore
import Derived.LaidSub
import Derived.LaidHandle
import Derived.Lib.LaidTab
import Derived.Test.YtocnedpclllbhaaGreatDoorRows
import Derived.HandedShaped
import Derived.Lib.LaidU8T
import Derived.PinnedBridge
import Derived.Lay
import Derived.ChangeOld
import Derived.OpenShut
import Derived.ShutString
import Derived.LaidEql
import Derived.LaidOnce
import Derived.SevenTiedAt
namespace Go.Proofs.YtocnedpclllbhaaGreatDoor
open Go.RowKit Go.Lib Go.Joins Go.Sort

set_option maxRecDepth 100000 in
set_option maxHeartbeats 1000000 in
theorem find_nil (w : World) : Calls Tryz.prog 33 #[.nilIface] w (FindOut 0 0 w) := by
  go_enter_defers Tryz.func33, Tryz.ntmps33
  go_wp2
  simp [bodyPostD, Go.Leaves, results, Tryz.results33, go_sem]
  exact ⟨rfl, (Below.refl _ _).alloc (Nat.le_refl _) _⟩
set_option maxRecDepth 100000 in
theorem code_nil (w : World) : Calls Tryz.prog 15 #[.nilIface] w (Leaves1 (.int .i64 0) w) := by
  have H := Lib.hid (find_nil w)
  have fl := field0
  go_enter Tryz.func15, Tryz.ntmps15
  go_wp2_with fail
  refine H.out.mono ?_
  rintro e w' ⟨rfl, hb⟩
  have HB := Lib.hid hb
  clear hb
  go_wp2_with fail
  go_ret
  exact ⟨rfl, HB.out⟩
set_option maxRecDepth 100000 in
set_option maxHeartbeats 16000000 in
theorem writes_law {w : World} {dv : Value} {q : List Tr × Tr × List Tr} {bv av : Value} {r : Nr} {rb ra : List Nr} (h : DcIn w dv q bv av r rb ra) (hzB : szL q.1 ≤ 9999999) (hzR : q.2.1.sz ≤ 10000000) (hzA : szL q.2.2 ≤ 9999999) (hE : EnvAt w) (hg : Handle w) (h15 : 13 ≤ w.heap.size) : Calls Tryz.prog 3 #[dv] w (Leaves (.bool true) w) := by
  have e1 := h.val
  unfold docV at e1
  have HDC : Hid (∀ W, Below w.heap.size w W → DcIn W dv q bv av r rb ra) := Lib.hid (fun W hW => h.keep hW)
  have HSM : Hid (∀ W, Below w.heap.size w W → Calls Tryz.prog 5 #[dv, .int .i64 3000] W (Leaves (.bool (smallD q)) W)) := Lib.hid (fun W hW => rsmall11_calls (h.keep hW) hzB hzR hzA (Nat.le_trans (cnts_small _) hzB) (Nat.le_trans (cnt_small _) hzR) (Nat.le_trans (cnts_small _) hzA))
  obtain ⟨k, n, x, rav, rkv⟩ := r
  obtain ⟨s1, hs1⟩ : ∃ s, strB n = s := ⟨_, rfl⟩
  obtain ⟨t1, ht1⟩ : ∃ s, strB x = s := ⟨_, rfl⟩
  dsimp only at e1
  rw [hs1, ht1] at e1
  obtain ⟨g1, g2, g3, h4, rows, h5, _⟩ := h.root.kids
  obtain ⟨u1, u2, u3, hu⟩ := h4.slice
  obtain ⟨u4, u5, u6, hu2⟩ := h5.slice
  dsimp only at hu hu2
  subst hu
  subst hu2
  have hrB := h.rowB
  have hiB := h.inB
  have hrA := h.rowA
  have hiA := h.inA
  have hro := h.root
  obtain ⟨x1, x2, x3, rfl⟩ := hrB.slice
  obtain ⟨x4, x5, x6, rfl⟩ := hrA.slice
  obtain ⟨wA, hwA⟩ : ∃ W, w.alloc (.cells #[.slice x1 x2 x3, .int .i64 k, .string s1, .string t1, .slice u1 u2 u3, .slice u4 u5 u6, .slice x4 x5 x6] 27) = W := ⟨_, rfl⟩
  have hbA : Below w.heap.size w wA := by rw [← hwA]; exact (Below.refl _ _).alloc (Nat.le_refl _) _
  have hA : wA.heap[w.heap.size]? = some (.cells #[.slice x1 x2 x3, .int .i64 k, .string s1, .string t1, .slice u1 u2 u3, .slice u4 u5 u6, .slice x4 x5 x6] 27 (0, 0)) := by rw [← hwA]; exact heap_alloc_new w _
  have HCELL : Hid (∀ W, Below wA.heap.size wA W → W.cell? ⟨w.heap.size, 0, none⟩ = some (.slice x1 x2 x3) ∧ W.cell? ⟨w.heap.size, 1, none⟩ = some (.int .i64 k) ∧ W.cell? ⟨w.heap.size, 2, none⟩ = some (.string s1) ∧ W.cell? ⟨w.heap.size, 3, none⟩ = some (.string t1) ∧ W.cell? ⟨w.heap.size, 4, none⟩ = some (.slice u1 u2 u3) ∧ W.cell? ⟨w.heap.size, 5, none⟩ = some (.slice u4 u5 u6) ∧ W.cell? ⟨w.heap.size, 6, none⟩ = some (.slice x4 x5 x6)) := Lib.hid (fun W hW => by
    have h1 := block_below hW hA
    exact ⟨(cell_of_block h1 0).trans rfl, (cell_of_block h1 1).trans rfl, (cell_of_block h1 2).trans rfl, (cell_of_block h1 3).trans rfl, (cell_of_block h1 4).trans rfl, (cell_of_block h1 5).trans rfl, (cell_of_block h1 6).trans rfl⟩)
  have HKR : Hid (∀ W, Below wA.heap.size wA W → NodeIn W Any ⟨k, n, x, .slice u1 u2 u3, .slice u4 u5 u6⟩ q.2.1) := Lib.hid (fun W hW => hro.keep (keeps_below (below_then hbA hW) Non) (fun _ _ h => h) (fun _ h => h))
  have HKB : Hid (∀ W, Below wA.heap.size wA W → RowIn W Any (.slice x1 x2 x3) rb ∧ NodesIn W Any rb q.1) := Lib.hid (fun W hW => ⟨hrB.keep (keeps_below (below_then hbA hW) Non) (fun _ _ h => h) (fun _ h => h), hiB.keep (keeps_below (below_then hbA hW) Non) (fun _ _ h => h) (fun _ h => h)⟩)
  have HAW := Lib.hid (awake11_calls wA (hE.below hbA) (hg.below hbA) (Nat.le_trans h15 hbA.size))
  have HE := Lib.hid hE
  have HG := Lib.hid hg
  have HBA := Lib.hid hbA
  have HWA := Lib.hid hwA
  have HS1 := Lib.hid hs1
  have HT1 := Lib.hid ht1
  rw [e1] at HDC HSM ⊢
  have hcl : q.1.length ≤ cntL q.1 ∧ q.2.2.length ≤ cntL q.2.2 := ⟨cntL_len _, cntL_len _⟩
  have HCL := Lib.hid hcl
  obtain ⟨z0, z1, z2, z3, z4, z5, z6⟩ := HCELL.out wA (Below.refl _ _)
  rw [← HWA.out] at z0 z1 z2 z3 z4 z5 z6
  clear h hzB hzR hzA hE hg h15 hs1 ht1 g1 g2 g3 h4 h5 hrB hiB hrA hiA hro hwA hbA hA e1 hcl
  go_enter Tryz.func3, Tryz.ntmps3
  go_wp2_with fail
  rw [HWA.out]
  with_reducible refine HAW.out.mono ?_
  rintro e w1 ⟨rfl, hb1⟩
  have HB1 := Lib.hid hb1
  clear hb1 z0 z1 z2 z3 z4 z5 z6 HAW
  obtain ⟨z0, z1, z2, z3, z4, z5, z6⟩ := HCELL.out w1 HB1.out
  have HS := Lib.hid (HSM.out w1 (below_then HBA.out HB1.out))
  cases hsm : smallD q with
  | false =>
    rw [hsm] at HS
    clear hsm
    go_wp2_with fail
    with_reducible refine HS.out.mono ?_
    rintro e w2 ⟨rfl, hb2⟩
    have HB2 := Lib.hid (below_then HB1.out hb2)
    clear hb2 z0 z1 z2 z3 z4 z5 z6
    go_wp2_with fail
    go_ret
    exact ⟨rfl, below_then HBA.out HB2.out⟩
  | true =>
    rw [hsm] at HS
    have HFS := Lib.hid (few_small hsm)
    clear hsm
    go_wp2_with fail
    with_reducible refine HS.out.mono ?_
    rintro e w2 ⟨rfl, hb2⟩
    have HB2 := Lib.hid (below_then HB1.out hb2)
    clear hb2 z0 z1 z2 z3 z4 z5 z6 HS
    obtain ⟨z0, z1, z2, z3, z4, z5, z6⟩ := HCELL.out w2 HB2.out
    have HD := Lib.hid (pdoc_calls (HDC.out w2 (below_then HBA.out HB2.out)) HFS.out.1 (HE.out.below (below_then HBA.out HB2.out)) HFS.out.2.1)
    go_wp2_with fail
    with_reducible refine HD.out.mono ?_
    rintro e w5 ⟨hb5, hres⟩
    have HB5 := Lib.hid (below_then HB2.out hb5)
    have HRES := Lib.hid hres
    clear hb5 hres z0 z1 z2 z3 z4 z5 z6 HD
    obtain ⟨z0, z1, z2, z3, z4, z5, z6⟩ := HCELL.out w5 HB5.out
    have hcl := HCL.out
    have hfs := HFS.out
    have hin : ∀ dq os, Below w.heap.size w (grow (redrawn w5 dq) os) := fun dq os => below_then (below_then HBA.out HB5.out) (below_regrown w5 dq os)
    have hinA : ∀ dq os, Below wA.heap.size wA (grow (redrawn w5 dq) os) := fun dq os => below_then HB5.out (below_regrown w5 dq os)
    have hcB := cnts_small q.1
    have hcA := cnts_small q.2.2
    have hcR := cnt_small q.2.1
    have hrl : (wrN q.2.1).length ≤ 1073741824 := by have := wr_sz q.2.1; omega
    have hbl : (wrL q.1).length ≤ 1073741824 := by have := wrs_sz q.1; omega
    have c1 := fun dq os => Calls.regrown_of (pmay11_calls (HDC.out _ (hin dq os)) hfs.1 (HE.out.below (hin dq os)) hfs.2.1)
    have c2 := fun dq os => Calls.regrown_of (rmay11_calls (HDC.out _ (hin dq os)) hfs.2.1 (by omega) (by omega) (by omega) (by omega) (by omega) (by omega))
    have c3 := fun dq os => Calls.regrown_of (pfair_calls (HKR.out _ (hinA dq os)) (by omega) (short_sz _ (by omega)) (HE.out.below (hin dq os)))
    have c4 := fun dq os => Calls.regrown_of (rfair_calls 1000000 (HKR.out _ (hinA dq os)) (by omega) (Nat.le_refl _))
    have c5 := fun dq os => Calls.regrown_of (pnode1_calls (HKR.out _ (hinA dq os)) hrl (by omega))
    have c6 := fun dq os => Calls.regrown_of (rwr_calls _ (HKR.out _ (hinA dq os)) (Nat.le_refl _) hrl)
    have c7 := fun dq os => Calls.regrown_of (pnodes_calls (w0 := grow (redrawn w5 dq) os) ⟨rb, (HKB.out _ (hinA dq os)).1, (HKB.out _ (hinA dq os)).2⟩ hbl (by omega))
    have c8 := fun dq os => Calls.regrown_of (rwrs_calls (HKB.out _ (hinA dq os)).1 (HKB.out _ (hinA dq os)).2 hbl)
    unfold nodeV at c3 c4 c5 c6
    dsimp only at c3 c4 c5 c6
    rw [HS1.out, HT1.out] at c3 c4 c5 c6
    obtain ⟨mb, hmb⟩ : ∃ b, mayB q.1 q.2.1 q.2.2 = b := ⟨_, rfl⟩
    obtain ⟨fb, hfb⟩ : ∃ b, fairT q.2.1 = b := ⟨_, rfl⟩
    obtain ⟨zn, hzn⟩ : ∃ b, strB (wrN q.2.1) = b := ⟨_, rfl⟩
    obtain ⟨zl, hzl⟩ : ∃ b, strB (wrL q.1) = b := ⟨_, rfl⟩
    rw [hmb] at c1 c2
    rw [hfb] at c3 c4
    rw [hzn] at c5 c6
    rw [hzl] at c7 c8
    have HMB := Lib.hid hmb
    have d0 := fun dq os => cell_regrown z0 dq os
    have d1 := fun dq os => cell_regrown z1 dq os
    have d2 := fun dq os => cell_regrown z2 dq os
    have d3 := fun dq os => cell_regrown z3 dq os
    have d4 := fun dq os => cell_regrown z4 dq os
    have d5 := fun dq os => cell_regrown z5 dq os
    have d6 := fun dq os => cell_regrown z6 dq os
    have kn : (zn.toList == zn.toList) = true := beq_self_eq_true _
    have kl : (zl.toList == zl.toList) = true := beq_self_eq_true _
    have HIN := Lib.hid hin
    have HINA := Lib.hid hinA
    clear hcl hfs hcB hcA hcR hrl hbl hmb hfb hzn hzl hin hinA
    rcases HRES.out with ⟨hm, rfl⟩ | ⟨hm, b, rfl, hch⟩
    · obtain rfl : mb = true := HMB.out.symm.trans hm
      clear hm
      go_upto_region 6 with (fail)
      clear z0 z1 z2 z3 z4 z5 z6
      refine wp_region_quiet_below (by kernel_rfl) (by kernel_rfl) ?_
      repeat (go_big_quiet_step (first | with_reducible exact c1 _ _ | with_reducible exact c2 _ _ | with_reducible exact c3 _ _ | with_reducible exact c4 _ _ | with_reducible exact c5 _ _ | with_reducible exact c6 _ _ | with_reducible exact c7 _ _ | with_reducible exact c8 _ _))
      refine wpQuiet_nil ?_
      intro _ hw'
      obtain ⟨⟨dq, osq⟩, hw''⟩ := hw'
      subst hw''
      obtain ⟨W7, hW7⟩ : ∃ W, grow (redrawn w5 dq) osq = W := ⟨_, rfl⟩
      have HB7 : Hid (Below wA.heap.size wA W7) := Lib.hid (by rw [← hW7]; exact HINA.out dq osq)
      have HB57 : Hid (Below w5.heap.size w5 W7) := Lib.hid (by rw [← hW7]; exact below_regrown w5 dq osq)
      rw [hW7]
      clear hW7 c1 c2 c3 c4 c5 c6 c7 c8 d0 d1 d2 d3 d4 d5 d6
      have HMY := rmay11_calls (HDC.out W7 (below_then HBA.out HB7.out)) HFS.out.2.1 (by have := HFS.out; omega) (by have := HFS.out; omega) (by have := HFS.out; omega) (by have := HFS.out; have := HCL.out; have := cnts_small q.1; omega) (by have := HFS.out; have := cnt_small q.2.1; omega) (by have := HFS.out; have := HCL.out; have := cnts_small q.2.2; omega)
      rw [HMB.out] at HMY
      have HMY := Lib.hid HMY
      obtain ⟨z0, z1, z2, z3, z4, z5, z6⟩ := HCELL.out W7 HB7.out
      go_wp2_with fail
      with_reducible refine HMY.out.mono ?_
      rintro e w8 ⟨rfl, hb8⟩
      have HB8 := Lib.hid (below_then HB7.out hb8)
      have HB58 := Lib.hid (below_then HB57.out hb8)
      clear hb8 z0 z1 z2 z3 z4 z5 z6 HMY
      obtain ⟨z0, z1, z2, z3, z4, z5, z6⟩ := HCELL.out w8 HB8.out
      have HCO := Lib.hid (code_nil w8)
      go_wp2_with fail
      with_reducible refine HCO.out.mono ?_
      rintro e w9 ⟨rfl, hb9⟩
      have HB9 := Lib.hid (below_then HB8.out hb9)
      clear hb9 z0 z1 z2 z3 z4 z5 z6 HCO
      obtain ⟨z0, z1, z2, z3, z4, z5, z6⟩ := HCELL.out w9 HB9.out
      have HWR := rwritten_calls (HDC.out w9 (below_then HBA.out HB9.out)) HFS.out.2.1
      obtain ⟨zd, hzd⟩ : ∃ b, strB (wrD q.1 q.2.1 q.2.2) = b := ⟨_, rfl⟩
      rw [hzd] at HWR
      rw [hzd]
      have kd : (zd.toList == zd.toList) = true := beq_self_eq_true _
      have HWR := Lib.hid HWR
      clear hzd
      go_wp2_with fail
      with_reducible refine HWR.out.mono ?_
      rintro e w10 ⟨rfl, hb10⟩
      have HB10 := Lib.hid (below_then HB9.out hb10)
      clear hb10 z0 z1 z2 z3 z4 z5 z6 HWR
      go_wp2_with fail
      go_ret
      exact ⟨rfl, below_then HBA.out HB10.out⟩
    · obtain rfl : mb = false := HMB.out.symm.trans hm
      have HCH := Lib.hid hch
      clear hm hch
      go_upto_region 6 with (fail)
      clear z0 z1 z2 z3 z4 z5 z6
      refine wp_region_quiet_below (by kernel_rfl) (by kernel_rfl) ?_
      repeat (go_big_quiet_step (first | with_reducible exact c1 _ _ | with_reducible exact c2 _ _ | with_reducible exact c3 _ _ | with_reducible exact c4 _ _ | with_reducible exact c5 _ _ | with_reducible exact c6 _ _ | with_reducible exact c7 _ _ | with_reducible exact c8 _ _))
      refine wpQuiet_nil ?_
      intro _ hw'
      obtain ⟨⟨dq, osq⟩, hw''⟩ := hw'
      subst hw''
      obtain ⟨W7, hW7⟩ : ∃ W, grow (redrawn w5 dq) osq = W := ⟨_, rfl⟩
      have HB7 : Hid (Below wA.heap.size wA W7) := Lib.hid (by rw [← hW7]; exact HINA.out dq osq)
      have HB57 : Hid (Below w5.heap.size w5 W7) := Lib.hid (by rw [← hW7]; exact below_regrown w5 dq osq)
      rw [hW7]
      clear hW7 c1 c2 c3 c4 c5 c6 c7 c8 d0 d1 d2 d3 d4 d5 d6
      have HMY := rmay11_calls (HDC.out W7 (below_then HBA.out HB7.out)) HFS.out.2.1 (by have := HFS.out; omega) (by have := HFS.out; omega) (by have := HFS.out; omega) (by have := HFS.out; have := HCL.out; have := cnts_small q.1; omega) (by have := HFS.out; have := cnt_small q.2.1; omega) (by have := HFS.out; have := HCL.out; have := cnts_small q.2.2; omega)
      rw [HMB.out] at HMY
      have HMY := Lib.hid HMY
      obtain ⟨z0, z1, z2, z3, z4, z5, z6⟩ := HCELL.out W7 HB7.out
      go_wp2_with fail
      with_reducible refine HMY.out.mono ?_
      rintro e w8 ⟨rfl, hb8⟩
      have HB8 := Lib.hid (below_then HB7.out hb8)
      have HB58 := Lib.hid (below_then HB57.out hb8)
      clear hb8 z0 z1 z2 z3 z4 z5 z6 HMY
      obtain ⟨z0, z1, z2, z3, z4, z5, z6⟩ := HCELL.out w8 HB8.out
      have HCO := Lib.hid (code_chain 80 0 _ _ w8 (by decide) (HCH.out.below HB58.out) (HG.out.below (below_then HBA.out HB8.out)))
      go_wp2_with fail
      with_reducible refine HCO.out.mono ?_
      rintro e w9 ⟨rfl, hb9⟩
      have HB9 := Lib.hid (below_then HB8.out hb9)
      clear hb9 z0 z1 z2 z3 z4 z5 z6 HCO
      go_wp2_with fail
      go_ret
      exact ⟨rfl, below_then HBA.out HB9.out⟩
end Go.Proofs.YtocnedpclllbhaaGreatDoor
namespace Go.Proofs.YtocnedpclllbhaaGreatDoor
open Go.ChangeShapes Go.WideShapes Go.ChangeAt Go.RowKit Go.Lib

def Tryz.lays237_ren : Go.Shelf.Ren := ⟨fun n => n, fun | 9 => 9 | 40 => 57 | 4 => 4 | 3 => 3 | 105 => 83 | 21 => 21 | 0 => 0 | 5 => 5 | 119 => 117 | 46 => 121 | 139 => 120 | 138 => 119 | n => n, fun | 3 => 1 | 4 => 2 | n => n⟩
theorem et : Tryz.prog.globalNamed "errors.errorType" = some 0 := by kernel_rfl
def laidL : List (String × DataW Unit) := Rows.xoutWritesUptoRow.laid

theorem laidOut : laidOutB Tryz.prog = true := by kernel_rfl

theorem u8x : U8Extra Tryz.prog Tryz.lays237_ren := ⟨by kernel_rfl, by kernel_rfl, by kernel_rfl, by kernel_rfl, by kernel_rfl, by kernel_rfl, by kernel_rfl⟩

theorem accept_data : (Rows.laid_unicode_utf8_acceptRanges : DataW Unit) = acceptData := by kernel_rfl

theorem flat_even : ∀ (t : List (Int × Int)) (i : Nat), (flatT t)[2 * i]? = (t[i]?).map (fun p => .int .i32 p.1)
  | [], i => by simp [flatT]
  | p :: t, 0 => rfl
  | p :: t, i + 1 => by
    have := flat_even t i
    simp only [flatT, List.flatMap_cons] at *
    rw [show 2 * (i + 1) = 2 * i + 2 from by omega]
    simpa using this
theorem flat_odd : ∀ (t : List (Int × Int)) (i : Nat), (flatT t)[2 * i + 1]? = (t[i]?).map (fun p => .int .i32 p.2)
  | [], i => by simp [flatT]
  | p :: t, 0 => rfl
  | p :: t, i + 1 => by
    have := flat_odd t i
    simp only [flatT, List.flatMap_cons] at *
    rw [show 2 * (i + 1) + 1 = 2 * i + 1 + 2 from by omega]
    simpa using this

def pairData (p : Int × Int) : DataW Unit := tabData .i32 [p.1, p.2]
def tabDataW (t : List (Int × Int)) : DataW Unit := .agg (t.map pairData)

theorem under38 : Tryz.prog.underlying 123 = some (.array 2 21) := by kernel_rfl
theorem under21 : Tryz.prog.underlying 21 = some (.int .i32) := by kernel_rfl
theorem cells38 : Tryz.prog.cellsOf 123 = 2 := by kernel_rfl
theorem cells21 : Tryz.prog.cellsOf 21 = 1 := by kernel_rfl

theorem tabAt_of_reads {w : World} {name : String} {t : List (Int × Int)} {g : Nat} {ty : TypeId} {n : Nat} (hn : t.length = n) (hg : Tryz.prog.globalNamed name = some g) (hty : (Tryz.prog.globals[g]?).map (·.type) = some ty)
    (hu : Tryz.prog.underlying ty = some (.array n 123)) (h : VarReads Tryz.prog w name (tabDataW t)) : TabAt g t w := by
  obtain ⟨g', t', cs, fuel, p, hg', hty', hvar, hd⟩ := h
  obtain rfl := Option.some.inj (hg.symm.trans hg')
  obtain rfl := Option.some.inj (hty.symm.trans hty')
  have pair : ∀ i q, t[i]? = some q → w.cell? ⟨g, 2 * i, none⟩ = some (.int .i32 q.1) ∧ w.cell? ⟨g, 2 * i + 1, none⟩ = some (.int .i32 q.2) := by
    intro i q hq
    have hi : i < n := by rw [← hn]; exact (List.getElem?_eq_some_iff.1 hq).1
    obtain ⟨fuel', d, r, hdi, he⟩ := array_elem hu hd i hi
    rw [List.getElem?_map, hq] at hdi
    obtain rfl := Option.some.inj hdi
    rw [cells38] at he
    have hcs := cells_of_tab under38 under21 cells21 cells38 he
    have e0 := congrArg (·[0]?) hcs
    have e1 := congrArg (·[1]?) hcs
    simp only [List.getElem?_take, List.getElem?_drop] at e0 e1
    constructor
    · rw [World.var?_cell hg hvar (2 * i), ← Array.getElem?_toList]
      simpa [Nat.mul_comm] using e0
    · rw [World.var?_cell hg hvar (2 * i + 1), ← Array.getElem?_toList]
      simpa [Nat.mul_comm] using e1
  intro j v hj
  rw [Nat.zero_add]
  rcases Nat.mod_two_eq_zero_or_one j with h | h
  · obtain ⟨i, rfl⟩ : ∃ i, j = 2 * i := ⟨j / 2, by omega⟩
    rw [flat_even] at hj
    obtain ⟨q, hq, rfl⟩ := Option.map_eq_some_iff.1 hj
    exact (pair i q hq).1
  · obtain ⟨i, rfl⟩ : ∃ i, j = 2 * i + 1 := ⟨j / 2, by omega⟩
    rw [flat_odd] at hj
    obtain ⟨q, hq, rfl⟩ := Option.map_eq_some_iff.1 hj
    exact (pair i q hq).2

theorem u8t : U8Types Tryz.prog Tryz.lays237_ren := ⟨Tryz.underlying5, Tryz.underlying117, Tryz.underlying119, Tryz.underlying120⟩
theorem met_reads {w : World} (h : laidMetH Tryz.prog laidL w) {n : String} {d : DataW Unit} (hm : (n, d) ∈ laidL) (hd : d.handleName?.isNone = true) : VarReads Tryz.prog w n d :=
  Lib.laidMet.reads (laidMetH_iff.1 h).1 (List.mem_filter.2 ⟨hm, hd⟩)
theorem laid_of_met {w : World} (h : laidMetH Tryz.prog laidL w) : Laid w := by
  have a0 : VarReads Tryz.prog w "unicode/utf8.acceptRanges" acceptData := accept_data ▸ met_reads h (d := Rows.laid_unicode_utf8_acceptRanges) (.tail _ (.tail _ (.tail _ (.head _)))) rfl
  have a1 : VarReads Tryz.prog w "recension/utf.chars" (tabDataW charsT) := (show (Rows.laid_recension_utf_chars : DataW Unit) = tabDataW charsT by kernel_rfl) ▸ met_reads h (d := Rows.laid_recension_utf_chars) (.tail _ (.tail _ (.tail _ (.tail _ (.tail _ (.tail _ (.tail _ (.head _)))))))) rfl
  have a2 : VarReads Tryz.prog w "recension/utf.first" (tabDataW firstsT) := (show (Rows.laid_recension_utf_first : DataW Unit) = tabDataW firstsT by kernel_rfl) ▸ met_reads h (d := Rows.laid_recension_utf_first) (.tail _ (.tail _ (.tail _ (.tail _ (.tail _ (.tail _ (.tail _ (.tail _ (.head _))))))))) rfl
  have a3 : VarReads Tryz.prog w "recension/utf.further" (tabDataW furtherT) := (show (Rows.laid_recension_utf_further : DataW Unit) = tabDataW furtherT by kernel_rfl) ▸ met_reads h (d := Rows.laid_recension_utf_further) (.tail _ (.tail _ (.tail _ (.tail _ (.tail _ (.tail _ (.tail _ (.tail _ (.tail _ (.head _)))))))))) rfl
  have a4 : VarReads Tryz.prog w "unicode/utf8.first" firstData := Pinned.utf8First_eq ▸ met_reads h (d := Rows.laid_unicode_utf8_first) (.tail _ (.tail _ (.tail _ (.tail _ (.tail _ (.tail _ (.tail _ (.tail _ (.tail _ (.tail _ (.tail _ (.head _)))))))))))) (by kernel_rfl)
  exact ⟨utf8Tabs_of_readsT u8t u8x a4 a0, tabAt_of_reads rfl (by kernel_rfl) (by kernel_rfl) under39 a1, tabAt_of_reads rfl (by kernel_rfl) (by kernel_rfl) under40 a2, tabAt_of_reads rfl (by kernel_rfl) (by kernel_rfl) under39 a3⟩
theorem gFold : Tryz.prog.globalNamed "unicode.asciiFold" = some 6 := by kernel_rfl
theorem tFold : (Tryz.prog.globals[6]?).map (·.type) = some 156 := by kernel_rfl
theorem cellsU16 : Tryz.prog.cellsOf 155 = 1 := by kernel_rfl
theorem cellsFold : Tryz.prog.cellsOf 156 = 128 := by kernel_rfl
theorem fold_data : (Rows.laid_unicode_asciiFold : DataW Unit) = Lib.tabData .u16 ((List.range 128).map fun i => (foldN i : Int)) := by kernel_rfl
theorem fold_of_met {w : World} (h : laidMetH Tryz.prog laidL w) : ∀ i, i < 128 → w.cell? ⟨6, i, none⟩ = some (.int .u16 (foldN i : Int)) := by
  obtain ⟨h1, _⟩ := laidMetH_iff.1 h
  have h2 := h1.filter (fun x => x.1 == "unicode.asciiFold")
  have e : ((laidL.filter fun x => x.2.handleName?.isNone).filter fun x => x.1 == "unicode.asciiFold") = [("unicode.asciiFold", Rows.laid_unicode_asciiFold)] := by rfl
  rw [e, fold_data] at h2
  have h3 := Lib.tabIs_of_head gFold tFold Tryz.underlying156 Tryz.underlying155 cellsU16 cellsFold h2
  intro i hi
  have h4 := h3.cell gFold i (by rw [List.length_map, List.length_range]; exact hi)
  rw [h4]
  rw [List.getD_eq_getElem?_getD, List.getElem?_map, List.getElem?_range hi]
  rfl
theorem zrt : (Tryz.prog.cutTypes.find? (·.1 == "internal/reflectlite.rtype")).map (·.2) = some 138 := by kernel_rfl
theorem handle_of_met {W : World} (h : laidMetH Tryz.prog laidL W) : Handle W := by
  obtain ⟨_, h2⟩ := laidMetH_iff.1 h
  obtain ⟨name, u, ty, e1, e2, e3, e4, e5⟩ := h2 ("errors.errorType", Rows.laid_errors_errorType) (List.mem_filter.2 ⟨.tail _ (.tail _ (.tail _ (.tail _ (.head _)))), by rfl⟩)
  have en : name = [101, 114, 114, 111, 114] := (Option.some.inj e1).symm
  subst en
  obtain rfl := Option.some.inj (zrt.symm.trans e2)
  have hone : ((List.range Tryz.prog.types.size).filter fun t => Tryz.prog.rowNamed t [101, 114, 114, 111, 114]) = [31] := by kernel_rfl
  have hm : ty ∈ (List.range Tryz.prog.types.size).filter fun t => Tryz.prog.rowNamed t [101, 114, 114, 111, 114] := List.mem_filter.2 ⟨List.mem_range.2 e3, e4⟩
  rw [hone] at hm
  obtain rfl := List.mem_singleton.1 hm
  have hh : typeHandle Tryz.prog 31 = .pointer (some ⟨13, 31, none⟩) := by kernel_rfl
  rw [hh] at e5
  simpa [Handle] using World.var?_cell et e5 0
theorem maxLen_of_shape {w : World} (h : w.ShapedOpen Tryz.prog) : MaxLen w :=
  cell_of_shapedOpen_int h (g := 5) (t := 3) (by decide +kernel) (zero := #[.int .i64 0]) (by kernel_rfl) rfl (by kernel_rfl) (by kernel_rfl) (by kernel_rfl)

theorem env_of_met {W : World} (h : laidMetH Tryz.prog laidL W) (hs : W.ShapedOpen Tryz.prog) : EnvAt W :=
  ⟨laid_of_met h, maxLen_of_shape hs, fold_of_met h⟩
theorem many_of_met {W : World} (h : laidMetH Tryz.prog laidL W) : 13 ≤ W.heap.size := by
  obtain ⟨g', t', cs, fuel, p, hg', hty', hvar, hd⟩ := met_reads h (d := Rows.laid_math_bits_deBruijn64tab) (.tail _ (.head _)) rfl
  have hg : Tryz.prog.globalNamed "math/bits.deBruijn64tab" = some 12 := by kernel_rfl
  simp only [World.var?, hg, Option.bind_some] at hvar
  split at hvar
  · rename_i h
    exact lt_of_block h
  · cases hvar

variable {H : Type} {enc : TypeId × Value → H}

end Go.Proofs.YtocnedpclllbhaaGreatDoor
namespace Go.Proofs.YtocnedpclllbhaaGreatDoor
open Go.ChangeShapes Go.WideShapes Go.ChangeAt Go.RowKit Go.Lib
/-- The listed variables that are no handle. -/
def zl : List (String × DataW Unit) := laidL.filter fun x => x.2.handleName?.isNone
noncomputable def zbase (os : Os) : World := (World.holding Tryz.prog os ⟨#[], #[], []⟩).setCell ⟨0, 0, none⟩ (.iface 138 (.agg #[.pointer (some ⟨13, 31, none⟩)]))
noncomputable def zw (os : Os) : World := (zbase os).layVars Tryz.prog zl
theorem zw_os (os : Os) : (zw os).os = os := World.layVars_os _ _ _
set_option maxRecDepth 100000 in
theorem zplain (os : Os) (args : Array Value) : laidMet Tryz.prog zl ((zw os).forCall (fun _ _ => 0) ⟨#[], args, []⟩).memory := by
  have e1 : (zl.filter fun x => (zl.map (·.1)).contains x.1) = zl := List.filter_eq_self.2 fun x hx => List.contains_iff_mem.2 (List.mem_map.2 ⟨x, hx, rfl⟩)
  have e2 : (zl.filter fun x => !(zl.map (·.1)).contains x.1) = [] := List.filter_eq_nil_iff.2 fun x hx => by rw [List.contains_iff_mem.2 (List.mem_map.2 ⟨x, hx, rfl⟩)]; simp
  have h : laidMet Tryz.prog zl (zw os) := laidMet_layVars (w0 := zbase os) (zl.map (·.1)) [] (by rw [e1]; rfl) (by rw [e1]; kernel_rfl) (by rw [e1]; kernel_rfl) (by rw [e2]; exact LaidIn.none)
  exact h.of_heap (by simp [World.memory, World.forCall, Input.heap])
set_option maxRecDepth 100000 in
theorem zmet (os : Os) (args : Array Value) : laidMetH Tryz.prog laidL ((zw os).forCall (fun _ _ => 0) ⟨#[], args, []⟩).memory :=
  laidMetH_of_parts3 (fuel := 8) (zplain os args) (by kernel_rfl) (by kernel_rfl)
end Go.Proofs.YtocnedpclllbhaaGreatDoor
