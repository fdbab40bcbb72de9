/-
 Nodes beside a root, and whether a document may be written but for its length. Conditions: the document lies in memory, and has no more than 2 to the 20 nodes; its texts are no longer than 2 to the 30; the laid variables hold what their initialisers lay.
-/
import Derived.Test.YtocnedpclllbhaaGreatDoorWL
namespace Go.Proofs.YtocnedpclllbhaaGreatDoor
open Go.RowKit Go.Lib Go.Joins

set_option maxRecDepth 100000 in
set_option maxHeartbeats 4000000 in
theorem paside_calls {w : World} {v : Value} {rows : List Nr} {ks : List Tr} (hr : RowIn w Any v rows) (hn : NodesIn w Any rows ks) (hc : cntL ks ≤ 1000000) (hs : ShortL ks) (hE : EnvAt w) : Calls Tryz.prog 55 #[v] w (Leaves (.bool (asideB ks)) w) := by
  obtain ⟨a, c, rfl, hcl, hm, _, hcell⟩ := hr
  obtain ⟨n, hnl⟩ : ∃ n, rows.length = n := ⟨_, rfl⟩
  have hn2 : ks.length = n := by rw [← hnl]; exact hn.1.symm
  rw [hnl] at hcl ⊢
  have HN := Lib.hid hnl
  have HN2 := Lib.hid hn2
  have HCL := Lib.hid hcell
  have HNS := Lib.hid hn
  have HC := Lib.hid hc
  have HSH := Lib.hid hs
  have HE := Lib.hid hE
  have HMX : Hid (n ≤ maxLen) := Lib.hid (by omega)
  obtain ⟨Q, hQ⟩ : ∃ Q, asideB ks = Q := ⟨_, rfl⟩
  rw [hQ]
  have HQ : Hid (Q = asideB (ks.drop 0)) := Lib.hid (by rw [List.drop_zero]; exact hQ.symm)
  clear hnl hn2 hcell hn hc hs hE hQ hcl hm
  go_enter Tryz.func55, Tryz.ntmps55
  go_wp2_with fail
  go_loopg [7] n (fun g s wr => ∃ i : Nat, s = .int .i64 (i : Int) ∧ g + i = n ∧ Q = asideB (ks.drop i) ∧ Below w.heap.size w wr)
  case atStart => exact ⟨0, rfl, rfl, HQ.out, Below.refl _ _⟩
  case round =>
    obtain ⟨i, rfl, hg, hq, hb⟩ := hrel
    have HQ2 := Lib.hid hq
    have HB := Lib.hid hb
    clear hq hb HQ
    cases gk with
    | zero =>
      obtain rfl : i = n := by omega
      have hge : ¬ ((i : Int) < (i : Int)) := by omega
      have HF : Hid (Q = true) := Lib.hid (by rw [HQ2.out, List.drop_eq_nil_of_le (by have := HN2.out; omega)]; rfl)
      go_wp2_with fail
      go_ret
      exact ⟨by rw [HF.out]; rfl, HB.out⟩
    | succ g =>
      have hlt : (i : Int) < (n : Int) := by omega
      have hi0 : (0 : Int) ≤ (i : Int) := by omega
      have hadd : IntKind.i64.wrap ((i : Int) + 1) = ((i + 1 : Nat) : Int) := IntWalk.i64_in _ (by have := HMX.out; unfold maxLen at this; omega)
      obtain ⟨r, hr⟩ : ∃ r, rows[i]? = some r := ⟨_, List.getElem?_eq_getElem (by rw [HN.out]; omega)⟩
      obtain ⟨t, ht⟩ : ∃ t, ks[i]? = some t := ⟨_, List.getElem?_eq_getElem (by rw [HN2.out]; omega)⟩
      rcases HCL.out with h0 | ⟨b, o, rfl, _, hcell⟩
      · rw [h0] at hr; simp at hr
      obtain ⟨y0, y1, y2, y3, y4⟩ := (hcell i r hr).keep (keeps_below HB.out Non) (fun h => h)
      have hnt := HNS.out.2 i r t hr ht
      have hkk := hnt.kids.1
      rw [hkk] at y0
      have hcnt : t.count ≤ 1000000 := Nat.le_trans (cnt_in ht) HC.out
      have hsh : ShortN t := by
        have h1 := HSH.out
        obtain ⟨h2, h3⟩ := List.getElem?_eq_some_iff.1 ht
        rw [← List.take_append_drop i ks, List.drop_eq_getElem_cons h2, h3, shortL_app] at h1
        exact h1.2.1
      have hst : asideB (ks.drop i) = ((t.kind == 3 || t.kind == 4) && fairT t && asideB (ks.drop (i + 1))) := by
        obtain ⟨h2, h3⟩ := List.getElem?_eq_some_iff.1 ht
        rw [List.drop_eq_getElem_cons h2, h3]
        unfold asideB
        rw [List.all_cons]
      obtain ⟨sn, hsn⟩ : ∃ s, strB r.name = s := ⟨_, rfl⟩
      obtain ⟨st, hst2⟩ : ∃ s, strB r.text = s := ⟨_, rfl⟩
      obtain ⟨k, hk⟩ : ∃ k, t.kind = k := ⟨_, rfl⟩
      obtain ⟨fq, hfq⟩ : ∃ q, fairT t = q := ⟨_, rfl⟩
      rw [hsn] at y1
      rw [hst2] at y2
      rw [hk] at y0 hst
      obtain ⟨x0, hx0⟩ : ∃ W, wr.alloc (.cells #[.int .i64 k, .string sn, .string st, r.av, r.kv] 25) = W := ⟨_, rfl⟩
      have hbx : Below wr.heap.size wr x0 := by rw [← hx0]; exact (Below.refl _ _).alloc (Nat.le_refl _) _
      have HBX := Lib.hid (below_then HB.out hbx)
      have hblk : x0.heap[wr.heap.size]? = some (.cells #[.int .i64 k, .string sn, .string st, r.av, r.kv] 25 (0, 0)) := by rw [← hx0]; exact heap_alloc_new wr _
      have d0 : x0.cell? ⟨wr.heap.size, 0, none⟩ = some (.int .i64 k) := (cell_of_block hblk 0).trans rfl
      have d1 : x0.cell? ⟨wr.heap.size, 1, none⟩ = some (.string sn) := (cell_of_block hblk 1).trans rfl
      have d2 : x0.cell? ⟨wr.heap.size, 2, none⟩ = some (.string st) := (cell_of_block hblk 2).trans rfl
      have d3 : x0.cell? ⟨wr.heap.size, 3, none⟩ = some r.av := (cell_of_block hblk 3).trans rfl
      have d4 : x0.cell? ⟨wr.heap.size, 4, none⟩ = some r.kv := (cell_of_block hblk 4).trans rfl
      have HFAIR : Hid (Calls Tryz.prog 9 #[.agg #[.int .i64 k, .string sn, .string st, r.av, r.kv]] x0 (Leaves (.bool fq) x0)) := Lib.hid (by
        have h1 := pfair_calls (hnt.keep (keeps_below HBX.out Non) (fun _ _ h => h) (fun _ h => h)) hcnt hsh (HE.out.below HBX.out)
        unfold nodeV at h1
        rw [hkk, hk, hsn, hst2, hfq] at h1
        exact h1)
      rw [hfq] at hst
      have HQ3 : Hid (Q = ((k == 3 || k == 4) && fq && asideB (ks.drop (i + 1)))) := Lib.hid (by rw [HQ2.out, hst])
      obtain ⟨va1, va2, va3, hav⟩ := hnt.kids.2.2.2.1.slice
      obtain ⟨_, hkr, _⟩ := hnt.kids.2.2.2.2
      obtain ⟨vk1, vk2, vk3, hkv⟩ := hkr.slice
      rw [hav] at y3 hx0 HFAIR hblk d3
      rw [hkv] at y4 hx0 HFAIR hblk d4
      clear hkr hr ht hcell hnt hkk hcnt hsh hst hsn hst2 hk hfq hbx hblk HQ2 hav hkv
      by_cases h3 : k = 3
      · have e1 : (k == 3) = true := by rw [h3]; rfl
        have e2 : (k != 3) = false := by rw [bne, e1]; rfl
        rw [e1] at HQ3
        clear h3
        go_wp2_with fail
        with_reducible refine HFAIR.out.mono ?_
        rintro e x1 ⟨rfl, hb1⟩
        have HB1 := Lib.hid (below_then HBX.out hb1)
        clear hb1
        cases fq with
        | false =>
          have HF : Hid (Q = false) := Lib.hid (by rw [HQ3.out]; rfl)
          go_wp2_with fail
          go_ret
          exact ⟨by rw [HF.out]; rfl, HB1.out⟩
        | true =>
          have HF : Hid (Q = asideB (ks.drop (i + 1))) := Lib.hid (by rw [HQ3.out]; rfl)
          go_wp2_with fail
          go_roundg g
          case measure => omega
          case rel => exact ⟨i + 1, rfl, by omega, HF.out, HB1.out⟩
      · have e1 : (k == 3) = false := beq_eq_false_iff_ne.2 h3
        have e2 : (k != 3) = true := by rw [bne, e1]; rfl
        by_cases h4 : k = 4
        · have e3 : (k == 4) = true := by rw [h4]; rfl
          have e4 : (k != 4) = false := by rw [bne, e3]; rfl
          rw [e1, e3] at HQ3
          clear h3 h4
          go_wp2_with fail
          with_reducible refine HFAIR.out.mono ?_
          rintro e x1 ⟨rfl, hb1⟩
          have HB1 := Lib.hid (below_then HBX.out hb1)
          clear hb1
          cases fq with
          | false =>
            have HF : Hid (Q = false) := Lib.hid (by rw [HQ3.out]; rfl)
            go_wp2_with fail
            go_ret
            exact ⟨by rw [HF.out]; rfl, HB1.out⟩
          | true =>
            have HF : Hid (Q = asideB (ks.drop (i + 1))) := Lib.hid (by rw [HQ3.out]; rfl)
            go_wp2_with fail
            go_roundg g
            case measure => omega
            case rel => exact ⟨i + 1, rfl, by omega, HF.out, HB1.out⟩
        · have e3 : (k == 4) = false := beq_eq_false_iff_ne.2 h4
          have e4 : (k != 4) = true := by rw [bne, e3]; rfl
          have HF : Hid (Q = false) := Lib.hid (by rw [HQ3.out, e1, e3]; rfl)
          clear h3 h4
          go_wp2_with fail
          go_ret
          exact ⟨by rw [HF.out]; rfl, HBX.out⟩
/-- A document in memory. -/
structure DcIn (w : World) (dv : Value) (q : List Tr × Tr × List Tr) (bv av : Value) (r : Nr) (rb ra : List Nr) : Prop where
  val : dv = docV bv (.int .i64 (r.kind : Int)) (.string (strB r.name)) (.string (strB r.text)) r.av r.kv av
  root : NodeIn w Any r q.2.1
  rowB : RowIn w Any bv rb
  inB : NodesIn w Any rb q.1
  rowA : RowIn w Any av ra
  inA : NodesIn w Any ra q.2.2
theorem DcIn.keep {w w' : World} {dv : Value} {q : List Tr × Tr × List Tr} {bv av : Value} {r : Nr} {rb ra : List Nr} (h : DcIn w dv q bv av r rb ra) (hb : Below w.heap.size w w') : DcIn w' dv q bv av r rb ra :=
  ⟨h.val, h.root.keep (keeps_below hb Non) (fun _ _ h => h) (fun _ h => h), h.rowB.keep (keeps_below hb Non) (fun _ _ h => h) (fun _ h => h), h.inB.keep (keeps_below hb Non) (fun _ _ h => h) (fun _ h => h), h.rowA.keep (keeps_below hb Non) (fun _ _ h => h) (fun _ h => h), h.inA.keep (keeps_below hb Non) (fun _ _ h => h) (fun _ h => h)⟩
/-- A document of few nodes and short texts. -/
structure FewD (q : List Tr × Tr × List Tr) : Prop where
  cntB : cntL q.1 ≤ 1000000
  cntR : q.2.1.count ≤ 1000000
  cntA : cntL q.2.2 ≤ 1000000
  shB : ShortL q.1
  shR : ShortN q.2.1
  shA : ShortL q.2.2
/-- Whether a document may be written, but for its length. -/
def wholeB (q : List Tr × Tr × List Tr) : Bool := asideB q.1 && asideB q.2.2 && (q.2.1.kind == 1) && fairT q.2.1 && decide (q.1.length + q.2.1.count + q.2.2.length ≤ 4096) && decide (q.2.1.depth ≤ 32)
set_option maxRecDepth 100000 in
set_option maxHeartbeats 8000000 in
theorem pwhole_calls {w : World} {dv : Value} {q : List Tr × Tr × List Tr} {bv av : Value} {r : Nr} {rb ra : List Nr} (h : DcIn w dv q bv av r rb ra) (hf : FewD q) (hE : EnvAt w) : Calls Tryz.prog 35 #[dv] w (Leaves (.bool (wholeB q)) w) := by
  obtain ⟨before, root, after⟩ := q
  have hkd := h.root.kids.1
  change r.kind = root.kind at hkd
  have hdv := h.val
  rw [hkd] at hdv
  unfold docV at hdv
  obtain ⟨sn, hsn⟩ : ∃ s, strB r.name = s := ⟨_, rfl⟩
  obtain ⟨st, hst⟩ : ∃ s, strB r.text = s := ⟨_, rfl⟩
  obtain ⟨k, hk⟩ : ∃ k, root.kind = k := ⟨_, rfl⟩
  rw [hsn, hst, hk] at hdv
  obtain ⟨va, vk, hva, hvk, hvs⟩ : ∃ va vk, r.av = va ∧ r.kv = vk ∧ (∃ a n c a2 n2 c2, va = .slice a n c ∧ vk = .slice a2 n2 c2) := by
    obtain ⟨_, _, _, h4, rows, h5, _⟩ := h.root.kids
    obtain ⟨a, n, c, h6⟩ := h4.slice
    obtain ⟨a2, n2, c2, h7⟩ := h5.slice
    exact ⟨_, _, rfl, rfl, a, n, c, a2, n2, c2, h6, h7⟩
  rw [hva, hvk] at hdv
  obtain ⟨w0, hw0⟩ : ∃ W, w.alloc (.cells #[bv, .int .i64 k, .string sn, .string st, va, vk, av] 27) = W := ⟨_, rfl⟩
  have hb0 : Below w.heap.size w w0 := by rw [← hw0]; exact (Below.refl _ _).alloc (Nat.le_refl _) _
  have hblk : w0.heap[w.heap.size]? = some (.cells #[bv, .int .i64 k, .string sn, .string st, va, vk, av] 27 (0, 0)) := by rw [← hw0]; exact heap_alloc_new w _
  have hlt : w.heap.size < w0.heap.size := lt_of_block hblk
  have HCELL : Hid (∀ W, Below w0.heap.size w0 W → W.cell? ⟨w.heap.size, 0, none⟩ = some bv ∧ W.cell? ⟨w.heap.size, 1, none⟩ = some (.int .i64 k) ∧ W.cell? ⟨w.heap.size, 2, none⟩ = some (.string sn) ∧ W.cell? ⟨w.heap.size, 3, none⟩ = some (.string st) ∧ W.cell? ⟨w.heap.size, 4, none⟩ = some va ∧ W.cell? ⟨w.heap.size, 5, none⟩ = some vk ∧ W.cell? ⟨w.heap.size, 6, none⟩ = some av) := Lib.hid (fun W hW => by
    have h1 := block_below hW hblk
    exact ⟨(cell_of_block h1 0).trans rfl, (cell_of_block h1 1).trans rfl, (cell_of_block h1 2).trans rfl, (cell_of_block h1 3).trans rfl, (cell_of_block h1 4).trans rfl, (cell_of_block h1 5).trans rfl, (cell_of_block h1 6).trans rfl⟩)
  have HD : Hid (∀ W, Below w0.heap.size w0 W → DcIn W dv (before, root, after) bv av r rb ra) := Lib.hid (fun W hW => h.keep (below_then hb0 hW))
  have HE : Hid (∀ W, Below w0.heap.size w0 W → EnvAt W) := Lib.hid (fun W hW => hE.below (below_then hb0 hW))
  have HFW := Lib.hid hf
  have hnode : nodeV r = .agg #[.int .i64 k, .string sn, .string st, va, vk] := by unfold nodeV; rw [hkd, hk, hsn, hst, hva, hvk]
  have HASB : Hid (∀ W, Below w0.heap.size w0 W → Calls Tryz.prog 55 #[bv] W (Leaves (.bool (asideB before)) W)) := Lib.hid (fun W hW => paside_calls (HD.out W hW).rowB (HD.out W hW).inB HFW.out.cntB HFW.out.shB (HE.out W hW))
  have HASA : Hid (∀ W, Below w0.heap.size w0 W → Calls Tryz.prog 55 #[av] W (Leaves (.bool (asideB after)) W)) := Lib.hid (fun W hW => paside_calls (HD.out W hW).rowA (HD.out W hW).inA HFW.out.cntA HFW.out.shA (HE.out W hW))
  have HFAIR : Hid (∀ W, Below w0.heap.size w0 W → Calls Tryz.prog 9 #[.agg #[.int .i64 k, .string sn, .string st, va, vk]] W (Leaves (.bool (fairT root)) W)) := Lib.hid (fun W hW => by rw [← hnode]; exact pfair_calls (HD.out W hW).root HFW.out.cntR HFW.out.shR (HE.out W hW))
  have HCNT : Hid (∀ W, Below w0.heap.size w0 W → Calls Tryz.prog 56 #[.agg #[.int .i64 k, .string sn, .string st, va, vk]] W (Leaves (.int .i64 (root.count : Int)) W)) := Lib.hid (fun W hW => by rw [← hnode]; exact count_calls (HD.out W hW).root HFW.out.cntR)
  have HDEP : Hid (∀ W, Below w0.heap.size w0 W → Calls Tryz.prog 57 #[.agg #[.int .i64 k, .string sn, .string st, va, vk]] W (Leaves (.int .i64 (root.depth : Int)) W)) := Lib.hid (fun W hW => by rw [← hnode]; exact depth_calls (HD.out W hW).root HFW.out.cntR)
  have hlb : ∃ a c, bv = .slice a before.length c := by obtain ⟨a, c, e, _⟩ := h.rowB; exact ⟨a, c, by rw [e, h.inB.1]⟩
  have hla : ∃ a c, av = .slice a after.length c := by obtain ⟨a, c, e, _⟩ := h.rowA; exact ⟨a, c, by rw [e, h.inA.1]⟩
  obtain ⟨ba, bc, hbv⟩ := hlb
  obtain ⟨aa, ac, hav⟩ := hla
  have hnb : before.length ≤ 1000000 := Nat.le_trans (cntL_len _) hf.cntB
  have hna : after.length ≤ 1000000 := Nat.le_trans (cntL_len _) hf.cntA
  have hnr : root.count ≤ 1000000 := hf.cntR
  have hnd : root.depth ≤ root.count := depth_le_count root
  obtain ⟨nb, hnb2⟩ : ∃ n, before.length = n := ⟨_, rfl⟩
  obtain ⟨na, hna2⟩ : ∃ n, after.length = n := ⟨_, rfl⟩
  obtain ⟨nr, hnr2⟩ : ∃ n, root.count = n := ⟨_, rfl⟩
  obtain ⟨nd, hnd2⟩ : ∃ n, root.depth = n := ⟨_, rfl⟩
  have HQ : Hid (wholeB (before, root, after) = (asideB before && asideB after && (k == 1) && fairT root && decide (nb + nr + na ≤ 4096) && decide (nd ≤ 32))) := Lib.hid (by unfold wholeB; dsimp only; rw [hk, hnb2, hna2, hnr2, hnd2])
  rw [hnb2] at hbv hnb
  rw [hna2] at hav hna
  rw [hnr2] at HCNT hnr hnd
  rw [hnd2] at HDEP hnd
  obtain ⟨Q, hQ⟩ : ∃ Q, wholeB (before, root, after) = Q := ⟨_, rfl⟩
  rw [hQ] at HQ ⊢
  obtain ⟨q1, hq1⟩ : ∃ x, asideB before = x := ⟨_, rfl⟩
  obtain ⟨q2, hq2⟩ : ∃ x, asideB after = x := ⟨_, rfl⟩
  obtain ⟨q3, hq3⟩ : ∃ x, fairT root = x := ⟨_, rfl⟩
  rw [hq1] at HASB HQ
  rw [hq2] at HASA HQ
  rw [hq3] at HFAIR HQ
  subst hbv hav
  have HBD : Hid (nb ≤ 1000000 ∧ na ≤ 1000000 ∧ nr ≤ 1000000 ∧ nd ≤ 1000000) := Lib.hid ⟨hnb, hna, hnr, by omega⟩
  have HB0 := Lib.hid hb0
  have HW0 := Lib.hid hw0
  rw [hdv]
  obtain ⟨u1, u2, u3, u4, u5, u6, rfl, rfl⟩ := hvs
  obtain ⟨z0, z1, z2, z3, z4, z5, z6⟩ := HCELL.out w0 (Below.refl _ _)
  clear h hf hE hkd hdv hsn hst hk hva hvk hw0 hb0 hblk hlt hnode hnb hna hnr hnd hnb2 hna2 hnr2 hnd2 hQ hq1 hq2 hq3
  go_enter Tryz.func35, Tryz.ntmps35
  go_wp2_with fail
  rw [HW0.out]
  with_reducible refine (HASB.out _ (Below.refl _ _)).mono ?_
  rintro e w1 ⟨rfl, hb1⟩
  have HB1 := Lib.hid hb1
  obtain ⟨z0, z1, z2, z3, z4, z5, z6⟩ := HCELL.out w1 hb1
  clear hb1
  cases q1 with
  | false =>
    have HF : Hid (Q = false) := Lib.hid (by rw [HQ.out]; rfl)
    go_wp2_with fail
    go_ret
    exact ⟨by rw [HF.out]; rfl, below_then HB0.out HB1.out⟩
  | true =>
    go_wp2_with fail
    with_reducible refine (HASA.out _ HB1.out).mono ?_
    rintro e w2 ⟨rfl, hb2⟩
    have HB2 := Lib.hid (below_then HB1.out hb2)
    obtain ⟨z0, z1, z2, z3, z4, z5, z6⟩ := HCELL.out w2 HB2.out
    clear hb2
    cases q2 with
    | false =>
      have HF : Hid (Q = false) := Lib.hid (by rw [HQ.out]; rfl)
      go_wp2_with fail
      go_ret
      exact ⟨by rw [HF.out]; rfl, below_then HB0.out HB2.out⟩
    | true =>
      by_cases hk1 : k = 1
      · have e1 : (k == 1) = true := by rw [hk1]; rfl
        have e2 : (k != 1) = false := by rw [bne, e1]; rfl
        rw [e1] at HQ
        clear hk1
        go_wp2_with fail
        with_reducible refine (HFAIR.out _ HB2.out).mono ?_
        rintro e w3 ⟨rfl, hb3⟩
        have HB3 := Lib.hid (below_then HB2.out hb3)
        obtain ⟨z0, z1, z2, z3, z4, z5, z6⟩ := HCELL.out w3 HB3.out
        clear hb3
        cases q3 with
        | false =>
          have HF : Hid (Q = false) := Lib.hid (by rw [HQ.out]; rfl)
          go_wp2_with fail
          go_ret
          exact ⟨by rw [HF.out]; rfl, below_then HB0.out HB3.out⟩
        | true =>
          have hs1 : IntKind.i64.wrap ((nb : Int) + (nr : Int)) = (nb : Int) + (nr : Int) := IntWalk.i64_in _ (by have := HBD.out; omega)
          have hs2 : IntKind.i64.wrap ((nb : Int) + (nr : Int) + (na : Int)) = (nb : Int) + (nr : Int) + (na : Int) := IntWalk.i64_in _ (by have := HBD.out; omega)
          go_upto_region 3 with (fail)
          obtain ⟨y0, hy0⟩ : ∃ W, w3.drew = W := ⟨_, rfl⟩
          have hb3y : Below w3.heap.size w3 y0 := by rw [← hy0]; exact ⟨rfl, rfl, rfl, Nat.le_refl _, fun _ _ => rfl⟩
          have HBY := Lib.hid (below_then HB3.out hb3y)
          have HCELLY := Lib.hid (HCELL.out y0 HBY.out)
          clear hb3y z0 z1 z2 z3 z4 z5 z6
          refine wp_region_z (S := fun W => W.cell? ⟨w.heap.size, 0, none⟩ = some (.slice ba nb bc) ∧ W.cell? ⟨w.heap.size, 1, none⟩ = some (.int .i64 k) ∧ W.cell? ⟨w.heap.size, 2, none⟩ = some (.string sn) ∧ W.cell? ⟨w.heap.size, 3, none⟩ = some (.string st) ∧ W.cell? ⟨w.heap.size, 4, none⟩ = some (.slice u1 u2 u3) ∧ W.cell? ⟨w.heap.size, 5, none⟩ = some (.slice u4 u5 u6) ∧ W.cell? ⟨w.heap.size, 6, none⟩ = some (.slice aa na ac)) 11 (by kernel_rfl) (by rw [hy0]; exact HCELLY.out) (fun hHeld => ?_)
          rw [hy0] at hHeld ⊢
          refine wpAnyZ_take (i := 0) (f := 13) (v := ?_) rfl (by kernel_rfl) (by kernel_rfl) (by kernel_rfl) (by kernel_rfl) (by kernel_rfl) (fun _ _ _ h => h) (Or.inl ⟨by rfl, ?_⟩) (by assumption) ?_
          rotate_left
          · intro W hS
            try dsimp only at hS
            try obtain ⟨p0, p1, p2, p3, p4, p5, p6⟩ := hS
            go_simp
            try with_reducible rfl
          try simp only [List.getElem_toArray, List.getElem_cons_zero, Act.put, List.setIfInBounds_toArray, List.set_cons_zero, List.set_cons_succ]
          refine wpAnyZ_take (i := 1) (f := 13) (v := ?_) rfl (by kernel_rfl) (by kernel_rfl) (by kernel_rfl) (by kernel_rfl) (by kernel_rfl) (fun _ _ _ h => h) (Or.inl ⟨by rfl, ?_⟩) (by assumption) ?_
          rotate_left
          · intro W hS
            try dsimp only at hS
            try obtain ⟨p0, p1, p2, p3, p4, p5, p6⟩ := hS
            go_simp
            try with_reducible rfl
          try simp only [List.getElem_toArray, List.getElem_cons_succ, List.getElem_cons_zero, Act.put, List.setIfInBounds_toArray, List.set_cons_zero, List.set_cons_succ]
          refine wpAnyZ_take (i := 2) (f := 13) (v := ?_) rfl (by kernel_rfl) (by kernel_rfl) (by kernel_rfl) (by kernel_rfl) (by kernel_rfl) (fun _ _ _ h => h) (Or.inl ⟨by rfl, ?_⟩) (by assumption) ?_
          rotate_left
          · intro W hS
            try dsimp only at hS
            try obtain ⟨p0, p1, p2, p3, p4, p5, p6⟩ := hS
            go_simp
            try with_reducible rfl
          try simp only [List.getElem_toArray, List.getElem_cons_succ, List.getElem_cons_zero, Act.put, List.setIfInBounds_toArray, List.set_cons_zero, List.set_cons_succ]
          refine wpAnyZ_take (i := 3) (f := 13) (v := ?_) rfl (by kernel_rfl) (by kernel_rfl) (by kernel_rfl) (by kernel_rfl) (by kernel_rfl) (fun _ _ _ h => h) (Or.inl ⟨by rfl, ?_⟩) (by assumption) ?_
          rotate_left
          · intro W hS
            try dsimp only at hS
            try obtain ⟨p0, p1, p2, p3, p4, p5, p6⟩ := hS
            go_simp
            try with_reducible rfl
          try simp only [List.getElem_toArray, List.getElem_cons_succ, List.getElem_cons_zero, Act.put, List.setIfInBounds_toArray, List.set_cons_zero, List.set_cons_succ]
          refine wpAnyZ_take (i := 4) (f := 13) (v := ?_) rfl (by kernel_rfl) (by kernel_rfl) (by kernel_rfl) (by kernel_rfl) (by kernel_rfl) (fun _ _ _ h => h) (Or.inl ⟨by rfl, ?_⟩) (by assumption) ?_
          rotate_left
          · intro W hS
            try dsimp only at hS
            try obtain ⟨p0, p1, p2, p3, p4, p5, p6⟩ := hS
            go_simp
            try with_reducible rfl
          try simp only [List.getElem_toArray, List.getElem_cons_succ, List.getElem_cons_zero, Act.put, List.setIfInBounds_toArray, List.set_cons_zero, List.set_cons_succ]
          refine wpAnyZ_take (i := 7) (f := 13) (v := ?_) rfl (by kernel_rfl) (by kernel_rfl) (by kernel_rfl) (by kernel_rfl) (by kernel_rfl) (fun _ _ _ h => h) (Or.inl ⟨by rfl, ?_⟩) (by assumption) ?_
          rotate_left
          · intro W hS
            try dsimp only at hS
            try obtain ⟨p0, p1, p2, p3, p4, p5, p6⟩ := hS
            go_simp
            try with_reducible rfl
          try simp only [List.getElem_toArray, List.getElem_cons_succ, List.getElem_cons_zero, Act.put, List.setIfInBounds_toArray, List.set_cons_zero, List.set_cons_succ]
          refine wpAnyZ_take (i := 8) (f := 13) (v := ?_) rfl (by kernel_rfl) (by kernel_rfl) (by kernel_rfl) (by kernel_rfl) (by kernel_rfl) (fun _ _ _ h => h) (Or.inl ⟨by rfl, ?_⟩) (by assumption) ?_
          rotate_left
          · intro W hS
            try dsimp only at hS
            try obtain ⟨p0, p1, p2, p3, p4, p5, p6⟩ := hS
            go_simp
            try with_reducible rfl
          try simp only [List.getElem_toArray, List.getElem_cons_succ, List.getElem_cons_zero, Act.put, List.setIfInBounds_toArray, List.set_cons_zero, List.set_cons_succ]
          refine wpAnyZ_take (i := 9) (f := 13) (v := ?_) rfl (by kernel_rfl) (by kernel_rfl) (by kernel_rfl) (by kernel_rfl) (by kernel_rfl) (fun _ _ _ h => h) (Or.inl ⟨by rfl, ?_⟩) (by assumption) ?_
          rotate_left
          · intro W hS
            try dsimp only at hS
            try obtain ⟨p0, p1, p2, p3, p4, p5, p6⟩ := hS
            go_simp
            try with_reducible rfl
          try simp only [List.getElem_toArray, List.getElem_cons_succ, List.getElem_cons_zero, Act.put, List.setIfInBounds_toArray, List.set_cons_zero, List.set_cons_succ]
          refine wpAnyZ_one (i := 5) (by kernel_rfl) rfl (fun K hK => ?_)
          go_simp
          with_reducible refine (HCNT.out y0 HBY.out).mono ?_
          rintro e x1 ⟨rfl, hbx⟩
          have HBX := Lib.hid (below_then HBY.out hbx)
          clear hbx
          refine hK.out _ _ (HCELL.out x1 HBX.out) (fun hHeld => ?_)
          clear hK K
          try simp only [List.getElem_toArray, List.getElem_cons_succ, List.getElem_cons_zero, Act.put, List.setIfInBounds_toArray, List.set_cons_zero, List.set_cons_succ]
          refine wpAnyZ_take (i := 6) (f := 13) (v := ?_) rfl (by kernel_rfl) (by kernel_rfl) (by kernel_rfl) (by kernel_rfl) (by kernel_rfl) (fun _ _ _ h => h) (Or.inl ⟨by rfl, ?_⟩) (by assumption) ?_
          rotate_left
          · intro W hS
            try dsimp only at hS
            try obtain ⟨p0, p1, p2, p3, p4, p5, p6⟩ := hS
            go_simp
            try with_reducible rfl
          try simp only [List.getElem_toArray, List.getElem_cons_succ, List.getElem_cons_zero, Act.put, List.setIfInBounds_toArray, List.set_cons_zero, List.set_cons_succ]
          refine wpAnyZ_take (i := 10) (f := 13) (v := ?_) rfl (by kernel_rfl) (by kernel_rfl) (by kernel_rfl) (by kernel_rfl) (by kernel_rfl) (fun _ _ _ h => h) (Or.inl ⟨by rfl, ?_⟩) (by assumption) ?_
          rotate_left
          · intro W hS
            try dsimp only at hS
            try obtain ⟨p0, p1, p2, p3, p4, p5, p6⟩ := hS
            go_simp
            try with_reducible rfl
          try simp only [List.getElem_toArray, List.getElem_cons_succ, List.getElem_cons_zero, Act.put, List.setIfInBounds_toArray, List.set_cons_zero, List.set_cons_succ]
          refine wpAnyZ_last (by kernel_rfl) rfl (by kernel_rfl) (fun K hK => ?_)
          go_simp
          refine hK.out _ _ ?_
          clear hK K
          try simp only [List.getElem_toArray, List.getElem_cons_succ, List.getElem_cons_zero, Act.put, List.setIfInBounds_toArray, List.set_cons_zero, List.set_cons_succ]
          have HCELLX := HCELL.out x1 HBX.out
          obtain ⟨z0, z1, z2, z3, z4, z5, z6⟩ := HCELLX
          clear hHeld
          by_cases hle : nb + nr + na ≤ 4096
          · have hle2 : (nb : Int) + (nr : Int) + (na : Int) ≤ 4096 := by omega
            go_wp2_with fail
            with_reducible refine (HDEP.out x1 HBX.out).mono ?_
            rintro e x2 ⟨rfl, hbx⟩
            have HBX2 := Lib.hid (below_then HBX.out hbx)
            clear hbx
            have HF : Hid (Q = decide (nd ≤ 32)) := Lib.hid (by rw [HQ.out, decide_eq_true hle]; rfl)
            have HD2 : Hid (decide (nd ≤ 32) = decide ((nd : Int) ≤ 32)) := Lib.hid (by by_cases h : nd ≤ 32 <;> simp [h] <;> omega)
            go_wp2_with fail
            go_ret
            exact ⟨by rw [HF.out, HD2.out]; rfl, below_then HB0.out HBX2.out⟩
          · have hle2 : ¬ ((nb : Int) + (nr : Int) + (na : Int) ≤ 4096) := by omega
            have hle3 : decide ((nb : Int) + (nr : Int) + (na : Int) ≤ 4096) = false := decide_eq_false hle2
            have HF : Hid (Q = false) := Lib.hid (by rw [HQ.out, decide_eq_false hle]; rfl)
            go_wp2_with fail
            go_ret
            exact ⟨by rw [HF.out]; rfl, below_then HB0.out HBX.out⟩
      · have e1 : (k == 1) = false := beq_eq_false_iff_ne.2 hk1
        have e2 : (k != 1) = true := by rw [bne, e1]; rfl
        have HF : Hid (Q = false) := Lib.hid (by rw [HQ.out, e1]; rfl)
        clear hk1
        go_wp2_with fail
        go_ret
        exact ⟨by rw [HF.out]; rfl, below_then HB0.out HB2.out⟩

end Go.Proofs.YtocnedpclllbhaaGreatDoor
