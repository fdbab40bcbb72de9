/-
 xout's May, and the reference's Small of a document. Conditions: the document lies in memory, and has no more than 2 to the 20 nodes; its texts are no longer than 2 to the 30; the laid variables hold what their initialisers lay.
-/
import Derived.Test.YtocnedpclllbhaaGreatDoorVB
import Derived.Lib.QuietBelow
namespace Go.Proofs.YtocnedpclllbhaaGreatDoor
open Go.RowKit Go.Lib Go.Joins Go.Sort

set_option maxRecDepth 100000 in
set_option maxHeartbeats 8000000 in
theorem rwritten_calls {w : World} {dv : Value} {q : List Tr × Tr × List Tr} {bv av : Value} {r : Nr} {rb ra : List Nr} (h : DcIn w dv q bv av r rb ra) (hs : (wrD q.1 q.2.1 q.2.2).length ≤ 1073741824) : Calls Tryz.prog 16 #[dv] w (Leaves (.string (strB (wrD q.1 q.2.1 q.2.2))) w) := by
  have e1 := h.val
  unfold docV at e1
  have hsl : (wrL q.1).length + ((wrN q.2.1).length + (wrL q.2.2).length) ≤ 1073741824 := by
    unfold wrD at hs
    rw [List.length_append, List.length_append] at hs
    exact hs
  have hzb : (strB (wrL q.1)).size ≤ 1073741824 := by rw [strB_size]; omega
  have hzr : (strB (wrN q.2.1)).size ≤ 1073741824 := by rw [strB_size]; omega
  have hza : (strB (wrL q.2.2)).size ≤ 1073741824 := by rw [strB_size]; omega
  have HF : Hid (strB (wrL q.1) ++ strB (wrN q.2.1) ++ strB (wrL q.2.2) = strB (wrD q.1 q.2.1 q.2.2)) := Lib.hid (by
    rw [strB_app, strB_app, List.append_assoc]
    rfl)
  obtain ⟨k, n, x, rav, rkv⟩ := r
  obtain ⟨s1, hs1⟩ : ∃ s, strB n = s := ⟨_, rfl⟩
  obtain ⟨t1, ht1⟩ : ∃ s, strB x = s := ⟨_, rfl⟩
  dsimp only at e1
  rw [hs1, ht1] at e1
  obtain ⟨g1, g2, g3, h4, rows, h5, _⟩ := h.root.kids
  obtain ⟨u1, u2, u3, hu⟩ := h4.slice
  obtain ⟨u4, u5, u6, hu2⟩ := h5.slice
  dsimp only at hu hu2
  subst hu
  subst hu2
  have hrB := h.rowB
  have hiB := h.inB
  have hrA := h.rowA
  have hiA := h.inA
  have hro := h.root
  obtain ⟨x1, x2, x3, rfl⟩ := hrB.slice
  obtain ⟨x4, x5, x6, rfl⟩ := hrA.slice
  obtain ⟨wA, hwA⟩ : ∃ W, w.alloc (.cells #[.slice x1 x2 x3, .int .i64 k, .string s1, .string t1, .slice u1 u2 u3, .slice u4 u5 u6, .slice x4 x5 x6] 27) = W := ⟨_, rfl⟩
  have hbA : Below w.heap.size w wA := by rw [← hwA]; exact (Below.refl _ _).alloc (Nat.le_refl _) _
  have hA : wA.heap[w.heap.size]? = some (.cells #[.slice x1 x2 x3, .int .i64 k, .string s1, .string t1, .slice u1 u2 u3, .slice u4 u5 u6, .slice x4 x5 x6] 27 (0, 0)) := by rw [← hwA]; exact heap_alloc_new w _
  have c1 := fun dq os => Calls.regrown_of (rwrs_calls (w := grow (redrawn wA dq) os) (hrB.keep (keeps_below (below_then hbA (below_regrown wA dq os)) Non) (fun _ _ h => h) (fun _ h => h)) (hiB.keep (keeps_below (below_then hbA (below_regrown wA dq os)) Non) (fun _ _ h => h) (fun _ h => h)) (by omega))
  have c2 := fun dq os => Calls.regrown_of (rwr_calls _ (w := grow (redrawn wA dq) os) (hro.keep (keeps_below (below_then hbA (below_regrown wA dq os)) Non) (fun _ _ h => h) (fun _ h => h)) (Nat.le_refl _) (by omega))
  have c3 := fun dq os => Calls.regrown_of (rwrs_calls (w := grow (redrawn wA dq) os) (hrA.keep (keeps_below (below_then hbA (below_regrown wA dq os)) Non) (fun _ _ h => h) (fun _ h => h)) (hiA.keep (keeps_below (below_then hbA (below_regrown wA dq os)) Non) (fun _ _ h => h) (fun _ h => h)) (by omega))
  unfold nodeV at c2
  dsimp only at c2
  rw [hs1, ht1] at c2
  obtain ⟨zb, hzb'⟩ : ∃ z, strB (wrL q.1) = z := ⟨_, rfl⟩
  obtain ⟨zr, hzr'⟩ : ∃ z, strB (wrN q.2.1) = z := ⟨_, rfl⟩
  obtain ⟨za, hza'⟩ : ∃ z, strB (wrL q.2.2) = z := ⟨_, rfl⟩
  rw [hzb'] at c1 hzb HF
  rw [hzr'] at c2 hzr HF
  rw [hza'] at c3 hza HF
  have d0 := fun dq os => cell_regrown ((cell_of_block hA 0).trans rfl) dq os
  have d1 := fun dq os => cell_regrown ((cell_of_block hA 1).trans rfl) dq os
  have d2 := fun dq os => cell_regrown ((cell_of_block hA 2).trans rfl) dq os
  have d3 := fun dq os => cell_regrown ((cell_of_block hA 3).trans rfl) dq os
  have d4 := fun dq os => cell_regrown ((cell_of_block hA 4).trans rfl) dq os
  have d5 := fun dq os => cell_regrown ((cell_of_block hA 5).trans rfl) dq os
  have d6 := fun dq os => cell_regrown ((cell_of_block hA 6).trans rfl) dq os
  have hq1 : ¬ (9223372036854775807 < zb.size + zr.size) := by omega
  have hq2 : ¬ (9223372036854775807 < zb.size + zr.size + za.size) := by omega
  have HWA := Lib.hid hwA
  have HBA := Lib.hid hbA
  obtain ⟨Q, hQ⟩ : ∃ Q, strB (wrD q.1 q.2.1 q.2.2) = Q := ⟨_, rfl⟩
  rw [hQ] at HF ⊢
  rw [e1]
  clear h hs hsl hs1 ht1 g1 g2 g3 h4 h5 hrB hiB hrA hiA hro hwA hbA hA hzb' hzr' hza' hQ e1
  go_enter Tryz.func16, Tryz.ntmps16
  go_upto_region 1 with (fail)
  rw [HWA.out]
  refine wp_region_quiet_below (by kernel_rfl) (by kernel_rfl) ?_
  repeat (go_big_quiet_step (first | with_reducible exact c1 _ _ | with_reducible exact c2 _ _ | with_reducible exact c3 _ _))
  refine wpQuiet_nil ?_
  intro _ hw'
  obtain ⟨⟨dq, osq⟩, hw''⟩ := hw'
  subst hw''
  go_wp2_with fail
  go_ret
  exact ⟨by rw [← HF.out]; rfl, below_then HBA.out (below_regrown wA dq osq)⟩
end Go.Proofs.YtocnedpclllbhaaGreatDoor
namespace Go.Proofs.YtocnedpclllbhaaGreatDoor
open Go.RowKit Go.Lib Go.Joins

set_option maxRecDepth 100000 in
set_option maxHeartbeats 8000000 in
theorem pmay11_calls {w : World} {dv : Value} {q : List Tr × Tr × List Tr} {bv av : Value} {r : Nr} {rb ra : List Nr} (h : DcIn w dv q bv av r rb ra) (hf : FewD q) (hE : EnvAt w) (hs : (wrD q.1 q.2.1 q.2.2).length ≤ 1073741824) : Calls Tryz.prog 7 #[dv] w (Leaves (.bool (mayB q.1 q.2.1 q.2.2)) w) := by
  have e1 := h.val
  unfold docV at e1
  have HPD : Hid (∀ W, Below w.heap.size w W → Calls Tryz.prog 18 #[dv] W (Leaves (.tuple #[.string (docS q), .bool (mayB q.1 q.2.1 q.2.2)]) W)) := Lib.hid (fun W hW => pdocument_calls (h.keep hW) hf (hE.below hW) hs)
  obtain ⟨k, n, x, rav, rkv⟩ := r
  obtain ⟨s1, hs1⟩ : ∃ s, strB n = s := ⟨_, rfl⟩
  obtain ⟨t1, ht1⟩ : ∃ s, strB x = s := ⟨_, rfl⟩
  dsimp only at e1
  rw [hs1, ht1] at e1
  obtain ⟨g1, g2, g3, h4, rows, h5, _⟩ := h.root.kids
  obtain ⟨u1, u2, u3, hu⟩ := h4.slice
  obtain ⟨u4, u5, u6, hu2⟩ := h5.slice
  dsimp only at hu hu2
  subst hu
  subst hu2
  have hrB := h.rowB
  have hiB := h.inB
  have hrA := h.rowA
  have hiA := h.inA
  have hro := h.root
  obtain ⟨x1, x2, x3, rfl⟩ := hrB.slice
  obtain ⟨x4, x5, x6, rfl⟩ := hrA.slice
  obtain ⟨wA, hwA⟩ : ∃ W, w.alloc (.cells #[.slice x1 x2 x3, .int .i64 k, .string s1, .string t1, .slice u1 u2 u3, .slice u4 u5 u6, .slice x4 x5 x6] 27) = W := ⟨_, rfl⟩
  have hbA : Below w.heap.size w wA := by rw [← hwA]; exact (Below.refl _ _).alloc (Nat.le_refl _) _
  have hA : wA.heap[w.heap.size]? = some (.cells #[.slice x1 x2 x3, .int .i64 k, .string s1, .string t1, .slice u1 u2 u3, .slice u4 u5 u6, .slice x4 x5 x6] 27 (0, 0)) := by rw [← hwA]; exact heap_alloc_new w _
  have z0 := (cell_of_block hA 0).trans rfl
  have z1 := (cell_of_block hA 1).trans rfl
  have z2 := (cell_of_block hA 2).trans rfl
  have z3 := (cell_of_block hA 3).trans rfl
  have z4 := (cell_of_block hA 4).trans rfl
  have z5 := (cell_of_block hA 5).trans rfl
  have z6 := (cell_of_block hA 6).trans rfl
  obtain ⟨mb, hmb⟩ : ∃ b, mayB q.1 q.2.1 q.2.2 = b := ⟨_, rfl⟩
  obtain ⟨ds, hds⟩ : ∃ b, docS q = b := ⟨_, rfl⟩
  rw [hmb, hds] at HPD
  rw [e1] at HPD
  rw [hmb, e1]
  have HC := Lib.hid (HPD.out wA hbA)
  have HBA := Lib.hid hbA
  have HWA := Lib.hid hwA
  rw [← hwA] at z0 z1 z2 z3 z4 z5 z6
  clear h hf hE hs hs1 ht1 g1 g2 g3 h4 h5 hrB hiB hrA hiA hro hwA hbA hA hmb hds e1
  go_enter Tryz.func7, Tryz.ntmps7
  go_wp2_with fail
  rw [HWA.out]
  with_reducible refine HC.out.mono ?_
  rintro e w2 ⟨rfl, hb2⟩
  have HB2 := Lib.hid (below_then HBA.out hb2)
  clear hb2 z0 z1 z2 z3 z4 z5 z6
  go_wp2_with fail
  go_ret
  exact ⟨rfl, HB2.out⟩
set_option maxRecDepth 100000 in
set_option maxHeartbeats 4000000 in
theorem small10_calls {w : World} {r : Nr} {t : Tr} (h : NodeIn w Any r t) (_hc : t.count ≤ 10000000) (hz : t.sz ≤ 10000000) : Calls Tryz.prog 17 #[nodeV r, .int .i64 3000] w (Leaves (.bool (decide (t.sz ≤ 3000))) w) := by
  obtain ⟨g1, g2, g3, h4, rows, h5, _⟩ := h.kids
  obtain ⟨u1, u2, u3, hu⟩ := h4.slice
  obtain ⟨u4, u5, u6, hu2⟩ := h5.slice
  obtain ⟨k, n, x, rav, rkv⟩ := r
  dsimp only at hu hu2
  subst hu
  subst hu2
  obtain ⟨s1, hs1⟩ : ∃ s, strB n = s := ⟨_, rfl⟩
  obtain ⟨t1, ht1⟩ : ∃ s, strB x = s := ⟨_, rfl⟩
  obtain ⟨S, hS⟩ : ∃ z, t.sz = z := ⟨_, rfl⟩
  obtain ⟨w0, hw0⟩ : ∃ W, w.alloc (.cells #[.int .i64 k, .string s1, .string t1, .slice u1 u2 u3, .slice u4 u5 u6] 25) = W := ⟨_, rfl⟩
  have hb0 : Below w.heap.size w w0 := by rw [← hw0]; exact (Below.refl _ _).alloc (Nat.le_refl _) _
  have hA : w0.heap[w.heap.size]? = some (.cells #[.int .i64 k, .string s1, .string t1, .slice u1 u2 u3, .slice u4 u5 u6] 25 (0, 0)) := by rw [← hw0]; exact heap_alloc_new w _
  have HS := small_calls (most := 3000) (by decide) _ (h.keep (keeps_below hb0 Non) (fun _ _ h => h) (fun _ h => h)) (Nat.le_refl _) hz
  unfold nodeV at HS ⊢
  dsimp only at HS ⊢
  rw [hs1, ht1, hS, show ((3000 : Nat) : Int) = 3000 from rfl] at HS
  rw [hs1, ht1, hS]
  unfold SmallOut at HS
  have HS := Lib.hid HS
  have z0 := (cell_of_block hA 0).trans rfl
  have z1 := (cell_of_block hA 1).trans rfl
  have z2 := (cell_of_block hA 2).trans rfl
  have z3 := (cell_of_block hA 3).trans rfl
  have z4 := (cell_of_block hA 4).trans rfl
  have HB0 := Lib.hid hb0
  have HW0 := Lib.hid hw0
  rw [← hw0] at z0 z1 z2 z3 z4
  clear h _hc hz h4 h5 hs1 ht1 hS g1 g2 g3 hA hb0 hw0
  go_enter Tryz.func17, Tryz.ntmps17
  go_wp2_with fail
  rw [HW0.out]
  with_reducible refine HS.out.mono ?_
  rintro e w2 ⟨v, rfl, hv1, hv2, hb2⟩
  have HB2 := Lib.hid (below_then HB0.out hb2)
  clear hb2 z0 z1 z2 z3 z4
  by_cases hv : v ≤ 3000
  · have hvI : (v : Int) ≤ 3000 := by omega
    have hd : decide ((v : Int) ≤ 3000) = true := decide_eq_true hvI
    have HF : Hid (decide (S ≤ 3000) = true) := Lib.hid (by have := hv2 (by exact hv); exact decide_eq_true (by omega))
    clear hv1 hv2 hv
    go_wp2_with fail
    go_ret
    exact ⟨by rw [HF.out]; rfl, HB2.out⟩
  · have hvI : ¬ ((v : Int) ≤ 3000) := by omega
    have hd : decide ((v : Int) ≤ 3000) = false := decide_eq_false hvI
    have HF : Hid (decide (S ≤ 3000) = false) := Lib.hid (decide_eq_false (by omega))
    clear hv1 hv2 hv
    go_wp2_with fail
    go_ret
    exact ⟨by rw [HF.out]; rfl, HB2.out⟩
end Go.Proofs.YtocnedpclllbhaaGreatDoor
