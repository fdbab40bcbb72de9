/-
 The law XoutParsed: what is parsed is written, and parsed again it is the same.
-/
import Derived.Test.YtjpkkflhcjjefaaGreatDoorWQ
import Derived.Test.YtjpkkflhcjjefaaGreatDoorXRs
import Derived.Test.YtjpkkflhcjjefaaGreatDoorOZ
namespace Go.Proofs.YtjpkkflhcjjefaaGreatDoor
open Go.RowKit Go.Lib Go.Joins
set_option maxHeartbeats 32000000
set_option maxRecDepth 100000 in
theorem rnodes_same {w : World} {v1 v2 : Value} {r1 r2 : List Nr} {ks : List Tr} (h1 : RowIn w Any v1 r1) (n1 : NodesIn w Any r1 ks) (h2 : RowIn w Any v2 r2) (n2 : NodesIn w Any r2 ks) (hc : cntL ks ≤ 900000) : Calls Tryz.prog 47 #[v1, v2] w (Leaves (.bool true) w) := by
 have a1 : NodeIn w Any ⟨0, [], [], .slice none 0 0, v1⟩ (.mk 0 [] [] [] ks) := .mk ⟨0, [], [], .slice none 0 0, v1⟩ [] ks r1 (AttIn.nil w Any) h1 n1.1 n1.2
 have a2 : NodeIn w Any ⟨0, [], [], .slice none 0 0, v2⟩ (.mk 0 [] [] [] ks) := .mk ⟨0, [], [], .slice none 0 0, v2⟩ [] ks r2 (AttIn.nil w Any) h2 n2.1 n2.2
 have HS := hid (rsame_calls 1000000 a1 a2 (by rw [Tr.count, List.length_nil]; omega) (Nat.le_refl _))
 rw [eqB_refl] at HS
 obtain ⟨x1, x2, x3, rfl⟩ := h1.slice
 obtain ⟨y1, y2, y3, rfl⟩ := h2.slice
 unfold nodeV at HS
 dsimp only at HS
 rw [show strB [] = (⟨#[]⟩ : ByteArray) from rfl] at HS
 clear h1 n1 h2 n2 hc a1 a2
 go_enter Tryz.func47, Tryz.ntmps47
 go_wp2_with fail
 with_reducible refine HS.out.mono ?_
 rintro e w2 ⟨rfl, hb⟩
 have HB := hid hb
 clear hb
 go_wp2_with fail
 go_ret
 exact ⟨rfl, HB.out⟩
set_option maxRecDepth 100000 in
theorem rdocs_same {w : World} {d1 d2 : Value} {q : List Tr × Tr × List Tr} {b1 a1 b2 a2 : Value} {r1 r2 : Nr} {rb1 ra1 rb2 ra2 : List Nr} (h1 : DcIn w d1 q b1 a1 r1 rb1 ra1) (h2 : DcIn w d2 q b2 a2 r2 rb2 ra2) (hcB : cntL q.1 ≤ 900000) (hcR : q.2.1.count ≤ 900000) (hcA : cntL q.2.2 ≤ 900000) : Calls Tryz.prog 21 #[d1, d2] w (Leaves (.bool true) w) := by
 have e1 := h1.val
 have e2 := h2.val
 unfold docV at e1 e2
 obtain ⟨s1, hs1⟩ : ∃ s, strB r1.name = s := ⟨_, rfl⟩
 obtain ⟨t1, ht1⟩ : ∃ s, strB r1.text = s := ⟨_, rfl⟩
 obtain ⟨k1, hk1⟩ : ∃ k, r1.kind = k := ⟨_, rfl⟩
 obtain ⟨s2, hs2⟩ : ∃ s, strB r2.name = s := ⟨_, rfl⟩
 obtain ⟨t2, ht2⟩ : ∃ s, strB r2.text = s := ⟨_, rfl⟩
 obtain ⟨k2, hk2⟩ : ∃ k, r2.kind = k := ⟨_, rfl⟩
 rw [hs1, ht1, hk1] at e1
 rw [hs2, ht2, hk2] at e2
 obtain ⟨va1, vk1, hva1, hvk1, hvs1⟩ : ∃ va vk, r1.av = va ∧ r1.kv = vk ∧ (∃ a n c a2 n2 c2, va = .slice a n c ∧ vk = .slice a2 n2 c2) := by
  obtain ⟨_, _, _, h4, rows, h5, _⟩ := h1.root.kids
  obtain ⟨a, n, c, h6⟩ := h4.slice
  obtain ⟨a2, n2, c2, h7⟩ := h5.slice
  exact ⟨_, _, rfl, rfl, a, n, c, a2, n2, c2, h6, h7⟩
 obtain ⟨va2, vk2, hva2, hvk2, hvs2⟩ : ∃ va vk, r2.av = va ∧ r2.kv = vk ∧ (∃ a n c a2 n2 c2, va = .slice a n c ∧ vk = .slice a2 n2 c2) := by
  obtain ⟨_, _, _, h4, rows, h5, _⟩ := h2.root.kids
  obtain ⟨a, n, c, h6⟩ := h4.slice
  obtain ⟨a2, n2, c2, h7⟩ := h5.slice
  exact ⟨_, _, rfl, rfl, a, n, c, a2, n2, c2, h6, h7⟩
 rw [hva1, hvk1] at e1
 rw [hva2, hvk2] at e2
 obtain ⟨x1, x2, x3, rfl⟩ := h1.rowB.slice
 obtain ⟨x4, x5, x6, rfl⟩ := h1.rowA.slice
 obtain ⟨y1, y2, y3, rfl⟩ := h2.rowB.slice
 obtain ⟨y4, y5, y6, rfl⟩ := h2.rowA.slice
 obtain ⟨u1, u2, u3, u4, u5, u6, rfl, rfl⟩ := hvs1
 obtain ⟨p1, p2, p3, p4, p5, p6, rfl, rfl⟩ := hvs2
 obtain ⟨wA, hwA⟩ : ∃ W, w.alloc (.cells #[.slice x1 x2 x3, .int .i64 k1, .string s1, .string t1, .slice u1 u2 u3, .slice u4 u5 u6, .slice x4 x5 x6] 27) = W := ⟨_, rfl⟩
 have hbA : Below w.heap.size w wA := by rw [← hwA]; exact (Below.refl _ _).alloc (Nat.le_refl _) _
 have hA : wA.heap[w.heap.size]? = some (.cells #[.slice x1 x2 x3, .int .i64 k1, .string s1, .string t1, .slice u1 u2 u3, .slice u4 u5 u6, .slice x4 x5 x6] 27 (0, 0)) := by rw [← hwA]; exact heap_alloc_new w _
 have hsz : wA.heap.size = w.heap.size + 1 := by rw [← hwA]; simp
 obtain ⟨wB, hwB⟩ : ∃ W, wA.alloc (.cells #[.slice y1 y2 y3, .int .i64 k2, .string s2, .string t2, .slice p1 p2 p3, .slice p4 p5 p6, .slice y4 y5 y6] 27) = W := ⟨_, rfl⟩
 have hbB : Below wA.heap.size wA wB := by rw [← hwB]; exact (Below.refl _ _).alloc (Nat.le_refl _) _
 have hB : wB.heap[w.heap.size + 1]? = some (.cells #[.slice y1 y2 y3, .int .i64 k2, .string s2, .string t2, .slice p1 p2 p3, .slice p4 p5 p6, .slice y4 y5 y6] 27 (0, 0)) := by rw [← hsz, ← hwB]; exact heap_alloc_new wA _
 have hbw := below_then hbA hbB
 have HCELL : Hid (∀ W, Below wB.heap.size wB W → W.cell? ⟨w.heap.size, 0, none⟩ = some (.slice x1 x2 x3) ∧ W.cell? ⟨w.heap.size, 1, none⟩ = some (.int .i64 k1) ∧ W.cell? ⟨w.heap.size, 2, none⟩ = some (.string s1) ∧ W.cell? ⟨w.heap.size, 3, none⟩ = some (.string t1) ∧ W.cell? ⟨w.heap.size, 4, none⟩ = some (.slice u1 u2 u3) ∧ W.cell? ⟨w.heap.size, 5, none⟩ = some (.slice u4 u5 u6) ∧ W.cell? ⟨w.heap.size, 6, none⟩ = some (.slice x4 x5 x6)) := hid (fun W hW => by
  have h1 := block_below (below_then hbB hW) hA
  exact ⟨(cell_of_block h1 0).trans rfl, (cell_of_block h1 1).trans rfl, (cell_of_block h1 2).trans rfl, (cell_of_block h1 3).trans rfl, (cell_of_block h1 4).trans rfl, (cell_of_block h1 5).trans rfl, (cell_of_block h1 6).trans rfl⟩)
 have HCELM : Hid (∀ W, Below wB.heap.size wB W → W.cell? ⟨w.heap.size + 1, 0, none⟩ = some (.slice y1 y2 y3) ∧ W.cell? ⟨w.heap.size + 1, 1, none⟩ = some (.int .i64 k2) ∧ W.cell? ⟨w.heap.size + 1, 2, none⟩ = some (.string s2) ∧ W.cell? ⟨w.heap.size + 1, 3, none⟩ = some (.string t2) ∧ W.cell? ⟨w.heap.size + 1, 4, none⟩ = some (.slice p1 p2 p3) ∧ W.cell? ⟨w.heap.size + 1, 5, none⟩ = some (.slice p4 p5 p6) ∧ W.cell? ⟨w.heap.size + 1, 6, none⟩ = some (.slice y4 y5 y6)) := hid (fun W hW => by
  have h1 := block_below hW hB
  exact ⟨(cell_of_block h1 0).trans rfl, (cell_of_block h1 1).trans rfl, (cell_of_block h1 2).trans rfl, (cell_of_block h1 3).trans rfl, (cell_of_block h1 4).trans rfl, (cell_of_block h1 5).trans rfl, (cell_of_block h1 6).trans rfl⟩)
 have HNB : Hid (∀ W, Below wB.heap.size wB W → Calls Tryz.prog 47 #[.slice x1 x2 x3, .slice y1 y2 y3] W (Leaves (.bool true) W)) := hid (fun W hW => by
  have g1 := h1.keep (below_then hbw hW)
  have g2 := h2.keep (below_then hbw hW)
  exact rnodes_same g1.rowB g1.inB g2.rowB g2.inB hcB)
 have HNA : Hid (∀ W, Below wB.heap.size wB W → Calls Tryz.prog 47 #[.slice x4 x5 x6, .slice y4 y5 y6] W (Leaves (.bool true) W)) := hid (fun W hW => by
  have g1 := h1.keep (below_then hbw hW)
  have g2 := h2.keep (below_then hbw hW)
  exact rnodes_same g1.rowA g1.inA g2.rowA g2.inA hcA)
 have HSR : Hid (∀ W, Below wB.heap.size wB W → Calls Tryz.prog 22 #[.agg #[.int .i64 k1, .string s1, .string t1, .slice u1 u2 u3, .slice u4 u5 u6], .agg #[.int .i64 k2, .string s2, .string t2, .slice p1 p2 p3, .slice p4 p5 p6]] W (Leaves (.bool true) W)) := hid (fun W hW => by
  have g1 := h1.keep (below_then hbw hW)
  have g2 := h2.keep (below_then hbw hW)
  have g3 := rsame_calls 1000000 g1.root g2.root (by omega) (Nat.le_refl _)
  rw [eqB_refl] at g3
  unfold nodeV at g3
  rw [hk1, hs1, ht1, hva1, hvk1, hk2, hs2, ht2, hva2, hvk2] at g3
  exact g3)
 have HWA := hid hwA
 have HWB := hid hwB
 have HBW := hid hbw
 rw [e1, e2]
 obtain ⟨z0, z1, z2, z3, z4, z5, z6⟩ := HCELL.out wB (Below.refl _ _)
 obtain ⟨x0, x1', x2', x3', x4', x5', x6'⟩ := HCELM.out wB (Below.refl _ _)
 clear h1 h2 e1 e2 hs1 ht1 hk1 hs2 ht2 hk2 hva1 hvk1 hva2 hvk2 hwA hbA hA hsz hwB hbB hB hbw hcB hcR hcA
 go_enter Tryz.func21, Tryz.ntmps21
 go_wp2_with fail
 rw [HWA.out, HWB.out]
 with_reducible refine (HNB.out wB (Below.refl _ _)).mono ?_
 rintro e w2 ⟨rfl, hb⟩
 have HB2 := hid hb
 clear hb z0 z1 z2 z3 z4 z5 z6 x0 x1' x2' x3' x4' x5' x6'
 obtain ⟨z0, z1, z2, z3, z4, z5, z6⟩ := HCELL.out w2 HB2.out
 obtain ⟨x0, x1', x2', x3', x4', x5', x6'⟩ := HCELM.out w2 HB2.out
 go_wp2_with fail
 with_reducible refine (HSR.out w2 HB2.out).mono ?_
 rintro e w3 ⟨rfl, hb⟩
 have HB3 := hid (below_then HB2.out hb)
 clear hb z0 z1 z2 z3 z4 z5 z6 x0 x1' x2' x3' x4' x5' x6'
 obtain ⟨z0, z1, z2, z3, z4, z5, z6⟩ := HCELL.out w3 HB3.out
 obtain ⟨x0, x1', x2', x3', x4', x5', x6'⟩ := HCELM.out w3 HB3.out
 go_wp2_with fail
 with_reducible refine (HNA.out w3 HB3.out).mono ?_
 rintro e w4 ⟨rfl, hb⟩
 have HB4 := hid (below_then HB3.out hb)
 clear hb z0 z1 z2 z3 z4 z5 z6 x0 x1' x2' x3' x4' x5' x6'
 go_wp2_with fail
 go_ret
 exact ⟨rfl, below_then HBW.out HB4.out⟩
theorem esc_ge (v : Bool) : ∀ s : List UInt8, s.length ≤ (escS v s).length
 | [] => Nat.zero_le _
 | x :: s => by
  have h := esc_ge v s
  have h1 : 1 ≤ (escC v x).length := by
   unfold escC
   repeat' split
   all_goals simp
  show s.length + 1 ≤ (escC v x ++ escS v s).length
  rw [List.length_append]
  omega
theorem attrs_ge : ∀ (l : List (List UInt8 × List UInt8)) (a : List UInt8 × List UInt8), a ∈ l → a.1.length ≤ (attrsB l).length ∧ a.2.length ≤ (attrsB l).length
 | [], _, h => by cases h
 | b :: l, a, h => by
  show _ ≤ (attrB b ++ attrsB l).length ∧ _ ≤ (attrB b ++ attrsB l).length
  rw [List.length_append]
  rcases List.mem_cons.1 h with rfl | h
  ·have h2 := esc_ge true a.2
   have h3 : (attrB a).length = a.1.length + (escS true a.2).length + 4 := by
    unfold attrB
    simp only [List.length_cons, List.length_append, List.length_nil]
    omega
   omega
  ·have h2 := attrs_ge l a h
   omega
mutual
theorem short_of : ∀ t : Tr, FrN t → (wrN t).length ≤ 1073741823 → ShortN t
 | .mk k n x ats ks, hf, hl => by
  rw [fr_mk] at hf
  rw [wr_mk] at hl
  rw [ShortN]
  rcases hf with ⟨rfl, _, rfl, _, _, hk⟩ | ⟨rfl, rfl, hle⟩
  ·rw [if_pos rfl] at hl
   simp only [List.length_cons, List.length_append] at hl
   refine ⟨⟨by show n.length ≤ _; omega, Nat.zero_le _, fun a ha => ?_⟩, short_ofL _ ks hk ?_⟩
   ·have h := attrs_ge ats a ha
    omega
   ·cases ks with
    | nil => rw [wrL]; exact Nat.zero_le _
    | cons c cs =>
     rw [show (c :: cs : List Tr).isEmpty = false from rfl, if_neg (by decide)] at hl
     simp only [List.length_cons, List.length_append] at hl
     omega
  ·rcases hle with ⟨rfl, rfl, _⟩ | ⟨rfl, rfl, _⟩ | ⟨rfl, _⟩
   ·rw [if_neg (by decide), if_pos rfl] at hl
    have h := esc_ge false x
    exact ⟨⟨Nat.zero_le _, by show x.length ≤ _; omega, fun a ha => by cases ha⟩, trivial⟩
   ·rw [if_neg (by decide), if_neg (by decide), if_pos rfl] at hl
    simp only [List.length_cons, List.length_append] at hl
    exact ⟨⟨Nat.zero_le _, by show x.length ≤ _; omega, fun a ha => by cases ha⟩, trivial⟩
   ·rw [if_neg (by decide), if_neg (by decide), if_neg (by decide), if_pos rfl] at hl
    simp only [List.length_cons, List.length_append] at hl
    refine ⟨⟨by show n.length ≤ _; omega, ?_, fun a ha => by cases ha⟩, trivial⟩
    show x.length ≤ _
    by_cases hx : x = []
    ·rw [hx]; exact Nat.zero_le _
    ·rw [if_neg hx, List.length_cons] at hl
     omega
theorem short_ofL : ∀ (p : Bool) (ks : List Tr), FrL p ks → (wrL ks).length ≤ 1073741823 → ShortL ks
 | _, [], _, _ => trivial
 | p, t :: ts, hf, hl => by
  rw [FrL] at hf
  rw [wrL, List.length_append] at hl
  rw [ShortL]
  exact ⟨short_of t hf.1 (by omega), short_ofL _ ts hf.2.2 (by omega)⟩
end
theorem short_aside : ∀ ks : List Tr, AsideL ks → (wrL ks).length ≤ 1073741823 → ShortL ks
 | [], _, _ => trivial
 | t :: ts, hf, hl => by
  rw [wrL, List.length_append] at hl
  rw [ShortL]
  exact ⟨short_of t (hf t (List.mem_cons_self ..)).1 (by omega), short_aside ts (fun s hs => hf s (List.mem_cons_of_mem _ hs)) (by omega)⟩
theorem few_parsed {b : List UInt8} (hb : b.length ≤ 100000) {q : List Tr × Tr × List Tr} (e : parseS b = .ok q) : FewD q ∧ (wrD q.1 q.2.1 q.2.2).length ≤ 600000 ∧ cntL q.1 ≤ 900000 ∧ q.2.1.count ≤ 900000 ∧ cntL q.2.2 ≤ 900000 := by
 obtain ⟨f1, f2, f3, f4, v1, v2, v3, hc, hd⟩ := parse_fair e
 have hw := parse_wt e
 have hl := hw
 unfold wrD at hl
 rw [List.length_append, List.length_append] at hl
 exact ⟨⟨by omega, by omega, by omega, short_aside _ f1 (by omega), short_of _ f3 (by omega), short_aside _ f4 (by omega)⟩, by omega, by omega, by omega, by omega⟩
theorem DocIn.dc {w : World} {n0 : Nat} {dv : Value} {q : List Tr × Tr × List Tr} (h : DocIn w n0 dv q) : ∃ bv av r rb ra, DcIn w dv q bv av r rb ra := by
 obtain ⟨bv, av, r, rb, ra, h1, h2, h3, h4, h5, h6⟩ := h.ex
 exact ⟨bv, av, r, rb, ra, h1, h2, h3, h4, h5, h6⟩
theorem DocIn.forms {w : World} {n0 : Nat} {dv : Value} {q : List Tr × Tr × List Tr} (h : DocIn w n0 dv q) : ∃ x1 x2 x3 k s t u1 u2 u3 u4 u5 u6 x4 x5 x6, dv = .agg #[.slice x1 x2 x3, .int .i64 k, .string s, .string t, .slice u1 u2 u3, .slice u4 u5 u6, .slice x4 x5 x6] ∧
  ∃ bv av r rb ra, DcIn w (.agg #[.slice x1 x2 x3, .int .i64 k, .string s, .string t, .slice u1 u2 u3, .slice u4 u5 u6, .slice x4 x5 x6]) q bv av r rb ra := by
 obtain ⟨bv, av, r, rb, ra, hd⟩ := h.dc
 have hv := hd.val
 unfold docV at hv
 obtain ⟨_, _, _, h4, rows, h5, _⟩ := hd.root.kids
 obtain ⟨u1, u2, u3, h6⟩ := h4.slice
 obtain ⟨u4, u5, u6, h7⟩ := h5.slice
 obtain ⟨x1, x2, x3, h8⟩ := hd.rowB.slice
 obtain ⟨x4, x5, x6, h9⟩ := hd.rowA.slice
 rw [h6, h7, h8, h9] at hv
 exact ⟨x1, x2, x3, _, _, _, u1, u2, u3, u4, u5, u6, x4, x5, x6, hv, bv, av, r, rb, ra, by rw [← hv]; exact hd⟩
set_option maxRecDepth 100000 in
theorem parsed11_calls {w : World} {a : Option Addr} {c : Nat} {l : List UInt8} (hd : DocAt w a c l) (hE : EnvAt w) (hg : Handle w) (h15 : 15 ≤ w.heap.size) : Calls Tryz.prog 5 #[.slice a l.length c] w (Leaves (.bool true) w) := by
 have HAW := hid (awake11_calls w hE hg h15)
 have HD := hid hd
 have HE := hid hE
 have HG := hid hg
 have H15 := hid h15
 obtain ⟨n, hn⟩ : ∃ n, l.length = n := ⟨_, rfl⟩
 have HN := hid hn
 rw [hn]
 by_cases hl : 8192 < n
 ·have hz : (8192 : Int) < (n : Int) := by omega
  clear hd hE hg h15 hn hl
  go_enter Tryz.func5, Tryz.ntmps5
  go_wp2_with fail
  with_reducible refine HAW.out.mono ?_
  rintro e w1 ⟨rfl, hb⟩
  have HB1 := hid hb
  clear hb
  go_wp2_with fail
  go_ret
  exact ⟨rfl, HB1.out⟩
 have hz : ¬ ((8192 : Int) < (n : Int)) := by omega
 have HLE := hid (show n ≤ 8192 by omega)
 clear hd hE hg h15 hn hl
 go_enter Tryz.func5, Tryz.ntmps5
 go_wp2_with fail
 with_reducible refine HAW.out.mono ?_
 rintro e w1 ⟨rfl, hb⟩
 have HB1 := hid hb
 clear hb HAW
 have HA : Hid (Calls Tryz.prog 20 #[.slice a n c] w1 (ParseOut w1 (parseS l))) := hid (by
  have h := parse_calls (HD.out.keep HB1.out) (HE.out.below HB1.out) (HG.out.below HB1.out) (Nat.le_trans H15.out HB1.out.size)
  rw [HN.out] at h
  exact h)
 obtain ⟨P, hP⟩ : ∃ P, parseS l = P := ⟨_, rfl⟩
 rw [hP] at HA
 have HP := hid hP
 clear hP
 cases P with
 | error cp =>
  obtain ⟨cd, p⟩ := cp
  go_wp2_with fail
  with_reducible refine HA.out.mono ?_
  rintro e w3 ⟨ev, rfl, hc0, her, hb⟩
  unfold docZ docV
  obtain ⟨w4, hw4⟩ : ∃ W, w3.alloc (.cells #[.slice none 0 0, .int .i64 0, .string ⟨#[]⟩, .string ⟨#[]⟩, .slice none 0 0, .slice none 0 0, .slice none 0 0] 27) = W := ⟨_, rfl⟩
  have hb34 : Below w3.heap.size w3 w4 := by rw [← hw4]; exact (Below.refl _ _).alloc (Nat.le_refl _) _
  have hb4 := below_then HB1.out (below_then hb hb34)
  have HB4 := hid hb4
  have HER := hid (her.below hb34)
  have HCO := hid (code_calls _ _ ev w4 HER.out (HG.out.below hb4))
  have hcz : ((cd : Int) != 0) = true := by rw [bne_iff_ne]; omega
  have HW4 := hid hw4
  clear hb hb34 hb4 her hw4 HA hc0
  go_wp2_with fail
  rw [HW4.out]
  with_reducible refine HCO.out.mono ?_
  rintro e w5 ⟨rfl, hb5⟩
  have HB5 := hid (below_then HB4.out hb5)
  clear hb5
  go_wp2_with fail
  go_ret
  exact ⟨rfl, HB5.out⟩
 | ok q =>
  obtain ⟨hf, hwl, hc1, hc2, hc3⟩ := few_parsed (by have h1 := HN.out; have h2 := HLE.out; omega) HP.out
  have hw8 := parse_wt HP.out
  have HFW := hid hf
  have HWL : Hid ((wrD q.1 q.2.1 q.2.2).length ≤ 600000) := hid hwl
  have HCT := hid (And.intro hc1 (And.intro hc2 hc3))
  have HMY := hid (parsed_may (by have h1 := HN.out; have h2 := HLE.out; omega) HP.out)
  have HBK := hid (parsed_back (by have h1 := HN.out; have h2 := HLE.out; omega) HP.out)
  clear hf hwl hc1 hc2 hc3 hw8
  go_wp2_with fail
  with_reducible refine HA.out.mono ?_
  rintro e w3 ⟨dv, rfl, hdoc, hb⟩
  obtain ⟨x1, x2, x3, k, s, t, u1, u2, u3, u4, u5, u6, x4, x5, x6, rfl, bv, av, r, rb, ra, hdc⟩ := hdoc.forms
  obtain ⟨w4, hw4⟩ : ∃ W, w3.alloc (.cells #[.slice x1 x2 x3, .int .i64 k, .string s, .string t, .slice u1 u2 u3, .slice u4 u5 u6, .slice x4 x5 x6] 27) = W := ⟨_, rfl⟩
  have hb34 : Below w3.heap.size w3 w4 := by rw [← hw4]; exact (Below.refl _ _).alloc (Nat.le_refl _) _
  have hblk : w4.heap[w3.heap.size]? = some (.cells #[.slice x1 x2 x3, .int .i64 k, .string s, .string t, .slice u1 u2 u3, .slice u4 u5 u6, .slice x4 x5 x6] 27 (0, 0)) := by rw [← hw4]; exact heap_alloc_new w3 _
  have HBL := hid hblk
  have HB4 := hid (below_then HB1.out (below_then hb hb34))
  have HDC := hid (hdc.keep hb34)
  have HW4 := hid hw4
  have HCO := hid (code_nil w4)
  clear hb hb34 hdoc hdc hw4 hblk HA
  go_wp2_with fail
  rw [HW4.out]
  with_reducible refine HCO.out.mono ?_
  rintro e w5 ⟨rfl, hb5⟩
  have HB5 := hid hb5
  have HDO := hid (pdoc_calls (HDC.out.keep hb5) HFW.out (HE.out.below (below_then HB4.out hb5)) (by have := HWL.out; omega))
  have hblk := block_below hb5 HBL.out
  have z0 := (cell_of_block hblk 0).trans rfl
  have z1 := (cell_of_block hblk 1).trans rfl
  have z2 := (cell_of_block hblk 2).trans rfl
  have z3 := (cell_of_block hblk 3).trans rfl
  have z4 := (cell_of_block hblk 4).trans rfl
  have z5 := (cell_of_block hblk 5).trans rfl
  have z6 := (cell_of_block hblk 6).trans rfl
  clear hb5 hblk HCO
  go_wp2_with fail
  with_reducible refine HDO.out.mono ?_
  rintro e w6 ⟨hb6, ⟨_, rfl⟩ | ⟨hm, _⟩⟩
  case inr => exact absurd (HMY.out.symm.trans hm) (by decide)
  obtain ⟨ds, hdd⟩ : ∃ z, strB (wrD q.1 q.2.1 q.2.2) = z := ⟨_, rfl⟩
  have HDD := hid hdd
  rw [hdd]
  have HB6 := hid (below_then HB5.out hb6)
  have HCO2 := hid (code_nil w6)
  clear hb6 hdd z0 z1 z2 z3 z4 z5 z6 HDO
  go_wp2_with fail
  with_reducible refine HCO2.out.mono ?_
  rintro e w7 ⟨rfl, hb7⟩
  have HB7 := hid (below_then HB6.out hb7)
  have hb17 := below_then HB4.out HB7.out
  have HBW : Hid (Below w4.heap.size w4 (bytesWorld w7 5 ds)) := hid (below_then HB7.out (bytesWorld_below w7 ds))
  have HA2 : Hid (Calls Tryz.prog 20 #[.slice (some ⟨w7.heap.size, 0, none⟩) ds.size (grownCap w7 ds.size 0 5)] (bytesWorld w7 5 ds) (ParseOut (bytesWorld w7 5 ds) (.ok q))) := hid (by
   have h := parse_calls (doc_str w7 (wrD q.1 q.2.1 q.2.2) (by have := HWL.out; omega)) (HE.out.below (below_then hb17 (bytesWorld_below w7 _))) (HG.out.below (below_then hb17 (bytesWorld_below w7 _))) (Nat.le_trans H15.out (Nat.le_trans hb17.size (bytesWorld_below w7 _).size))
   rw [HBK.out, HDD.out] at h
   have h2 : ds.size = (wrD q.1 q.2.1 q.2.2).length := by rw [← HDD.out]; exact strB_size _
   rw [← h2] at h
   exact h)
  have kc := Lib.run_convert_string_bytes (P := Tryz.prog) w7 9 43 5 ds Tryz.underlying9 Tryz.underlying43 Tryz.underlying5
  clear hb7 hb17 HCO2
  go_wp2_with fail
  clear kc
  with_reducible refine HA2.out.mono ?_
  rintro e w8 ⟨dv2, rfl, hdoc, hb⟩
  obtain ⟨y1, y2, y3, k2, s2, t2, p1, p2, p3, p4, p5, p6, y4, y5, y6, rfl, bv2, av2, r2, rb2, ra2, hdc2⟩ := hdoc.forms
  obtain ⟨w9, hw9⟩ : ∃ W, w8.alloc (.cells #[.slice y1 y2 y3, .int .i64 k2, .string s2, .string t2, .slice p1 p2 p3, .slice p4 p5 p6, .slice y4 y5 y6] 27) = W := ⟨_, rfl⟩
  have hb89 : Below w8.heap.size w8 w9 := by rw [← hw9]; exact (Below.refl _ _).alloc (Nat.le_refl _) _
  have hblk2 : w9.heap[w8.heap.size]? = some (.cells #[.slice y1 y2 y3, .int .i64 k2, .string s2, .string t2, .slice p1 p2 p3, .slice p4 p5 p6, .slice y4 y5 y6] 27 (0, 0)) := by rw [← hw9]; exact heap_alloc_new w8 _
  have HBL2 := hid hblk2
  have HB9 := hid (below_then HBW.out (below_then hb hb89))
  have HDC2 := hid (hdc2.keep hb89)
  have HW9 := hid hw9
  have HDO2 := hid (pdoc_calls HDC2.out HFW.out (HE.out.below (below_then HB4.out HB9.out)) (by have := HWL.out; omega))
  have z0 := (cell_of_block hblk2 0).trans rfl
  have z1 := (cell_of_block hblk2 1).trans rfl
  have z2 := (cell_of_block hblk2 2).trans rfl
  have z3 := (cell_of_block hblk2 3).trans rfl
  have z4 := (cell_of_block hblk2 4).trans rfl
  have z5 := (cell_of_block hblk2 5).trans rfl
  have z6 := (cell_of_block hblk2 6).trans rfl
  clear hb hb89 hdoc hdc2 hw9 hblk2 HA2
  go_wp2_with fail
  rw [HW9.out]
  with_reducible refine HDO2.out.mono ?_
  rintro e w10 ⟨hb10, ⟨_, rfl⟩ | ⟨hm, _⟩⟩
  case inr => exact absurd (HMY.out.symm.trans hm) (by decide)
  rw [HDD.out]
  have HB10 := hid hb10
  have HCO3 := hid (code_nil w10)
  clear hb10 z0 z1 z2 z3 z4 z5 z6 HDO2
  go_wp2_with fail
  with_reducible refine HCO3.out.mono ?_
  rintro e w11 ⟨rfl, hb11⟩
  have HB11 := hid (below_then HB10.out hb11)
  have HDS := hid (rdocs_same (HDC2.out.keep HB11.out) (HDC.out.keep (below_then HB9.out HB11.out)) HCT.out.1 HCT.out.2.1 HCT.out.2.2)
  have hblk2 := block_below HB11.out HBL2.out
  have z0 := (cell_of_block hblk2 0).trans rfl
  have z1 := (cell_of_block hblk2 1).trans rfl
  have z2 := (cell_of_block hblk2 2).trans rfl
  have z3 := (cell_of_block hblk2 3).trans rfl
  have z4 := (cell_of_block hblk2 4).trans rfl
  have z5 := (cell_of_block hblk2 5).trans rfl
  have z6 := (cell_of_block hblk2 6).trans rfl
  have hblk := block_below (below_then HB9.out HB11.out) HBL.out
  have c0 := (cell_of_block hblk 0).trans rfl
  have c1 := (cell_of_block hblk 1).trans rfl
  have c2 := (cell_of_block hblk 2).trans rfl
  have c3 := (cell_of_block hblk 3).trans rfl
  have c4 := (cell_of_block hblk 4).trans rfl
  have c5 := (cell_of_block hblk 5).trans rfl
  have c6 := (cell_of_block hblk 6).trans rfl
  clear hb11 HCO3 hblk hblk2
  go_wp2_with fail
  with_reducible refine HDS.out.mono ?_
  rintro e w12 ⟨rfl, hb12⟩
  have HB12 := hid (below_then HB11.out hb12)
  have HCO4 := hid (code_nil w12)
  clear hb12 z0 z1 z2 z3 z4 z5 z6 c0 c1 c2 c3 c4 c5 c6
  go_wp2_with fail
  with_reducible refine HCO4.out.mono ?_
  rintro e w13 ⟨rfl, hb13⟩
  have HB13 := hid (below_then HB4.out (below_then HB9.out (below_then HB12.out hb13)))
  clear hb13
  go_wp2_with fail
  go_ret
  exact ⟨rfl, HB13.out⟩
end Go.Proofs.YtjpkkflhcjjefaaGreatDoor
