/-
 A tree of few nodes and characters has few nodes, short texts, and is short when written. Of no program. No condition.
-/
import Derived.Test.YtocnedpclllbhaaGreatDoorVG
import Derived.Test.YtocnedpclllbhaaGreatDoorVC
namespace Go.Proofs.YtocnedpclllbhaaGreatDoor
open Go.RowKit Go.Lib Go.Joins

theorem kids_node {w : World} {v : Value} {rows : List Nr} {ks : List Tr} (hr : RowIn w Any v rows) (hn : NodesIn w Any rows ks) : NodeIn w Any ⟨0, [], [], .slice none 0 0, v⟩ (.mk 0 [] [] [] ks) := .mk ⟨0, [], [], .slice none 0 0, v⟩ [] ks rows (AttIn.nil w Any) hr hn.1 hn.2
/-- Whether a document is such as is gone through. -/
def smallD (q : List Tr × Tr × List Tr) : Bool := decide (1 + szL q.1 ≤ 3000) && decide (q.2.1.sz ≤ 3000) && decide (1 + szL q.2.2 ≤ 3000)
theorem kids_sz (ks : List Tr) : (Tr.mk 0 [] [] [] ks).sz = 1 + szL ks := by
  rw [sz_mk]
  show 1 + 0 + 0 + 0 + szL ks = _
  omega
set_option maxRecDepth 100000 in
set_option maxHeartbeats 8000000 in
theorem rsmall11_calls {w : World} {dv : Value} {q : List Tr × Tr × List Tr} {bv av : Value} {r : Nr} {rb ra : List Nr} (h : DcIn w dv q bv av r rb ra) (hzB : szL q.1 ≤ 9999999) (hzR : q.2.1.sz ≤ 10000000) (hzA : szL q.2.2 ≤ 9999999) (hcB : cntL q.1 ≤ 9999999) (hcR : q.2.1.count ≤ 10000000) (hcA : cntL q.2.2 ≤ 9999999) : Calls Tryz.prog 5 #[dv, .int .i64 3000] w (Leaves (.bool (smallD q)) w) := by
  have e1 := h.val
  unfold docV at e1
  obtain ⟨k, n, x, rav, rkv⟩ := r
  obtain ⟨s1, hs1⟩ : ∃ s, strB n = s := ⟨_, rfl⟩
  obtain ⟨t1, ht1⟩ : ∃ s, strB x = s := ⟨_, rfl⟩
  dsimp only at e1
  rw [hs1, ht1] at e1
  obtain ⟨g1, g2, g3, h4, rows, h5, _⟩ := h.root.kids
  obtain ⟨u1, u2, u3, hu⟩ := h4.slice
  obtain ⟨u4, u5, u6, hu2⟩ := h5.slice
  dsimp only at hu hu2
  subst hu
  subst hu2
  have hrB := h.rowB
  have hiB := h.inB
  have hrA := h.rowA
  have hiA := h.inA
  have hro := h.root
  obtain ⟨x1, x2, x3, rfl⟩ := hrB.slice
  obtain ⟨x4, x5, x6, rfl⟩ := hrA.slice
  obtain ⟨wA, hwA⟩ : ∃ W, w.alloc (.cells #[.slice x1 x2 x3, .int .i64 k, .string s1, .string t1, .slice u1 u2 u3, .slice u4 u5 u6, .slice x4 x5 x6] 27) = W := ⟨_, rfl⟩
  have hbA : Below w.heap.size w wA := by rw [← hwA]; exact (Below.refl _ _).alloc (Nat.le_refl _) _
  have hA : wA.heap[w.heap.size]? = some (.cells #[.slice x1 x2 x3, .int .i64 k, .string s1, .string t1, .slice u1 u2 u3, .slice u4 u5 u6, .slice x4 x5 x6] 27 (0, 0)) := by rw [← hwA]; exact heap_alloc_new w _
  have HSB := fun W (hW : Below wA.heap.size wA W) => small10_calls (kids_node (hrB.keep (keeps_below (below_then hbA hW) Non) (fun _ _ h => h) (fun _ h => h)) (hiB.keep (keeps_below (below_then hbA hW) Non) (fun _ _ h => h) (fun _ h => h))) (by rw [count_mk, List.length_nil]; omega) (by rw [kids_sz]; omega)
  have HSR := fun W (hW : Below wA.heap.size wA W) => small10_calls (hro.keep (keeps_below (below_then hbA hW) Non) (fun _ _ h => h) (fun _ h => h)) hcR hzR
  have HSA := fun W (hW : Below wA.heap.size wA W) => small10_calls (kids_node (hrA.keep (keeps_below (below_then hbA hW) Non) (fun _ _ h => h) (fun _ h => h)) (hiA.keep (keeps_below (below_then hbA hW) Non) (fun _ _ h => h) (fun _ h => h))) (by rw [count_mk, List.length_nil]; omega) (by rw [kids_sz]; omega)
  unfold nodeV at HSB HSR HSA
  dsimp only at HSB HSR HSA
  rw [kids_sz, show strB [] = (⟨#[]⟩ : ByteArray) from rfl] at HSB HSA
  rw [hs1, ht1] at HSR
  unfold smallD
  obtain ⟨d1, hd1⟩ : ∃ b, decide (1 + szL q.1 ≤ 3000) = b := ⟨_, rfl⟩
  obtain ⟨d2, hd2⟩ : ∃ b, decide (q.2.1.sz ≤ 3000) = b := ⟨_, rfl⟩
  obtain ⟨d3, hd3⟩ : ∃ b, decide (1 + szL q.2.2 ≤ 3000) = b := ⟨_, rfl⟩
  rw [hd1] at HSB
  rw [hd2] at HSR
  rw [hd3] at HSA
  rw [hd1, hd2, hd3, e1]
  have HSB := Lib.hid HSB
  have HSR := Lib.hid HSR
  have HSA := Lib.hid HSA
  have HCELL : Hid (∀ W, Below wA.heap.size wA W → W.cell? ⟨w.heap.size, 0, none⟩ = some (.slice x1 x2 x3) ∧ W.cell? ⟨w.heap.size, 1, none⟩ = some (.int .i64 k) ∧ W.cell? ⟨w.heap.size, 2, none⟩ = some (.string s1) ∧ W.cell? ⟨w.heap.size, 3, none⟩ = some (.string t1) ∧ W.cell? ⟨w.heap.size, 4, none⟩ = some (.slice u1 u2 u3) ∧ W.cell? ⟨w.heap.size, 5, none⟩ = some (.slice u4 u5 u6) ∧ W.cell? ⟨w.heap.size, 6, none⟩ = some (.slice x4 x5 x6)) := Lib.hid (fun W hW => by
    have h1 := block_below hW hA
    exact ⟨(cell_of_block h1 0).trans rfl, (cell_of_block h1 1).trans rfl, (cell_of_block h1 2).trans rfl, (cell_of_block h1 3).trans rfl, (cell_of_block h1 4).trans rfl, (cell_of_block h1 5).trans rfl, (cell_of_block h1 6).trans rfl⟩)
  obtain ⟨z0, z1, z2, z3, z4, z5, z6⟩ := HCELL.out wA (Below.refl _ _)
  have HBA := Lib.hid hbA
  have HWA := Lib.hid hwA
  rw [← HWA.out] at z0 z1 z2 z3 z4 z5 z6
  clear h hzB hzR hzA hcB hcR hcA hs1 ht1 g1 g2 g3 h4 h5 hrB hiB hrA hiA hro hwA hbA hA hd1 hd2 hd3 e1
  go_enter Tryz.func5, Tryz.ntmps5
  go_wp2_with fail
  rw [HWA.out]
  with_reducible refine (HSB.out wA (Below.refl _ _)).mono ?_
  rintro e w1 ⟨rfl, hb1⟩
  have HB1 := Lib.hid hb1
  clear hb1 z0 z1 z2 z3 z4 z5 z6
  obtain ⟨z0, z1, z2, z3, z4, z5, z6⟩ := HCELL.out w1 HB1.out
  cases d1 with
  | false =>
    go_wp2_with fail
    go_ret
    exact ⟨rfl, below_then HBA.out HB1.out⟩
  | true =>
    go_wp2_with fail
    with_reducible refine (HSR.out w1 HB1.out).mono ?_
    rintro e w2 ⟨rfl, hb2⟩
    have HB2 := Lib.hid (below_then HB1.out hb2)
    clear hb2 z0 z1 z2 z3 z4 z5 z6
    obtain ⟨z0, z1, z2, z3, z4, z5, z6⟩ := HCELL.out w2 HB2.out
    cases d2 with
    | false =>
      go_wp2_with fail
      go_ret
      exact ⟨rfl, below_then HBA.out HB2.out⟩
    | true =>
      go_wp2_with fail
      with_reducible refine (HSA.out w2 HB2.out).mono ?_
      rintro e w3 ⟨rfl, hb3⟩
      have HB3 := Lib.hid (below_then HB2.out hb3)
      clear hb3 z0 z1 z2 z3 z4 z5 z6
      go_wp2_with fail
      go_ret
      exact ⟨rfl, below_then HBA.out HB3.out⟩

theorem at_count : ∀ l : List (List UInt8 × List UInt8), l.length ≤ atSz l
  | [] => Nat.zero_le _
  | a :: l => by
    have ih := at_count l
    rw [atSz_sum] at ih ⊢
    rw [List.map_cons, List.sum_cons, List.length_cons]
    omega
theorem at_wr : ∀ l : List (List UInt8 × List UInt8), (attrsB l).length ≤ 6 * atSz l
  | [] => Nat.zero_le _
  | a :: l => by
    have ih := at_wr l
    have h1 := esc_size true a.2
    rw [atSz_sum] at ih ⊢
    have e : (attrsB (a :: l)).length = (attrB a).length + (attrsB l).length := by
      unfold attrsB
      rw [List.flatMap_cons, List.length_append]
    have e2 : (attrB a).length = a.1.length + (escS true a.2).length + 4 := by
      unfold attrB
      simp only [List.length_cons, List.length_append, List.length_nil]
      omega
    rw [e, e2, List.map_cons, List.sum_cons]
    omega
mutual
theorem cnt_small : ∀ t : Tr, t.count ≤ t.sz
  | .mk k n x a ks => by
    have h1 := cnts_small ks
    have h2 := at_count a
    rw [count_mk, sz_mk]
    omega
theorem cnts_small : ∀ l : List Tr, cntL l ≤ szL l
  | [] => by rw [cntL]; exact Nat.zero_le _
  | t :: l => by
    have h1 := cnt_small t
    have h2 := cnts_small l
    rw [cntL, szL]
    omega
end
mutual
theorem wr_sz : ∀ t : Tr, (wrN t).length ≤ 12 * t.sz
  | .mk k n x a ks => by
    have h1 := wrs_sz ks
    have h2 := at_wr a
    have h3 := esc_size false x
    rw [wr_mk, sz_mk]
    split
    · split
      · simp only [List.length_cons, List.length_append, List.length_nil]
        omega
      · simp only [List.length_cons, List.length_append, List.length_nil]
        omega
    · split
      · omega
      · split
        · simp only [List.length_cons, List.length_append, List.length_nil]
          omega
        · split
          · split
            · simp only [List.length_cons, List.length_append, List.length_nil]
              omega
            · simp only [List.length_cons, List.length_append, List.length_nil]
              omega
          · exact Nat.zero_le _
theorem wrs_sz : ∀ l : List Tr, (wrL l).length ≤ 12 * szL l
  | [] => by rw [wrL]; exact Nat.zero_le _
  | t :: l => by
    have h1 := wr_sz t
    have h2 := wrs_sz l
    rw [wrL, szL, List.length_append]
    omega
end
mutual
theorem short_sz : ∀ t : Tr, t.sz ≤ 1000000 → ShortN t
  | .mk k n x a ks, h => by
    rw [sz_mk] at h
    rw [short_mk]
    refine ⟨⟨?_, ?_, fun b hb => ?_⟩, shorts_sz ks (by omega)⟩
    · show n.length ≤ _
      omega
    · show x.length ≤ _
      omega
    · have hb' : b ∈ a := hb
      obtain ⟨i, hi⟩ := List.mem_iff_getElem?.1 hb'
      have := at_mem hi
      exact ⟨by omega, by omega⟩
theorem shorts_sz : ∀ l : List Tr, szL l ≤ 1000000 → ShortL l
  | [], _ => trivial
  | t :: l, h => by
    rw [szL] at h
    exact ⟨short_sz t (by omega), shorts_sz l (by omega)⟩
end
theorem few_small {q : List Tr × Tr × List Tr} (h : smallD q = true) : FewD q ∧ (wrD q.1 q.2.1 q.2.2).length ≤ 1073741824 ∧ szL q.1 ≤ 3000 ∧ q.2.1.sz ≤ 3000 ∧ szL q.2.2 ≤ 3000 := by
  unfold smallD at h
  rw [Bool.and_eq_true, Bool.and_eq_true, decide_eq_true_iff, decide_eq_true_iff, decide_eq_true_iff] at h
  obtain ⟨⟨h1, h2⟩, h3⟩ := h
  have c1 := cnts_small q.1
  have c2 := cnt_small q.2.1
  have c3 := cnts_small q.2.2
  refine ⟨⟨by omega, by omega, by omega, shorts_sz _ (by omega), short_sz _ (by omega), shorts_sz _ (by omega)⟩, ?_, by omega, by omega, by omega⟩
  have w1 := wrs_sz q.1
  have w2 := wr_sz q.2.1
  have w3 := wrs_sz q.2.2
  unfold wrD
  rw [List.length_append, List.length_append]
  omega
end Go.Proofs.YtocnedpclllbhaaGreatDoor
