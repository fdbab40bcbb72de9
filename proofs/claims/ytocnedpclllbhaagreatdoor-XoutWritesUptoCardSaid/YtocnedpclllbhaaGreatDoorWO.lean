/-
 xout's document, Doc and May. Conditions: the document lies in memory, and has no more than 2 to the 20 nodes; what is written of it is no longer than 2 to the 30; the laid variables hold what their initialisers lay.
-/
import Derived.Test.YtocnedpclllbhaaGreatDoorWM
import Derived.Lib.AppendZeros
namespace Go.Proofs.YtocnedpclllbhaaGreatDoor
open Go.RowKit Go.Lib Go.Joins

/-- Nodes appended to a row of the call's own. -/
theorem Lv.appendRow {w : World} {n0 : Nat} {v : Value} {rows : List Nr} (h : Lv w n0 v rows) (hn0 : n0 ≤ w.heap.size) {v2 : Value} {rows2 : List Nr} (h2 : RowIn w Any v2 rows2) (h1 : ∀ x ∈ rows2, x.av.oneCell' = true ∧ x.kv.oneCell' = true) (hmx : rows.length + rows2.length ≤ 1000000000) :
    ∃ v' w', (∀ ty, (Builtin.append_ #[22, 22] ty #[v, v2]).run Tryz.prog w = .ok v' w') ∧ Lv w' n0 v' (rows ++ rows2) ∧ Below n0 w w' := by
  obtain ⟨a, c, rfl, hc, hm, hnil, hr⟩ := h2
  cases a with
  | none =>
    have hr0 : rows2 = [] := by
      rcases hr with h0 | ⟨b, o, e, _⟩
      · exact h0
      · cases e
    obtain rfl : c = 0 := hnil rfl
    subst hr0
    exact ⟨v, w, append_any_none (w := w) Tryz.underlying22 infoN h.row, by rw [List.append_nil]; exact h, Below.refl _ _⟩
  | some ad =>
    have hcells : ∀ j u, (nrC rows2)[j]? = some u → w.cell? (ad.add j) = some u := fun j u hj => by
      obtain ⟨i, x, hx, hk⟩ := nrC_get rows2 j u hj
      rcases hr with h0 | ⟨b, o, e, _, hcell⟩
      · rw [h0] at hx; simp at hx
      obtain rfl : ad = ⟨b, o, none⟩ := Option.some.inj e
      obtain ⟨y0, y1, y2, y3, y4⟩ := hcell i x hx
      rw [Addr.add_mid]
      rcases hk with ⟨rfl, rfl⟩ | ⟨rfl, rfl⟩ | ⟨rfl, rfl⟩ | ⟨rfl, rfl⟩ | ⟨rfl, rfl⟩
      · exact y0
      · exact y1
      · exact y2
      · exact y3
      · exact y4
    obtain ⟨v', w', hrun, hrow, hgrown, hown⟩ := append_any (w := w) Tryz.underlying22 infoN rfl (by decide) h.row (b := ad) (m := rows2.length) (c := c) (news := nrC rows2) (nrC_len _) hcells (nrC_one rows2 h1) (by unfold maxLen; omega) (by omega)
    refine ⟨v', w', hrun, ⟨by rw [List.length_append, nrC_app]; exact hrow, fun k hk => ?_⟩, (Below.refl n0 w).grown hgrown hn0 (fun k hk => h.new k hk)⟩
    rcases hown k hk with h3 | h3
    · exact h.new k h3
    · exact Nat.le_trans hn0 h3
theorem zeros_len (z : Array Value) : ∀ n, (Builtin.zeroCells z n).size = n * z.size := by
  intro n
  unfold Builtin.zeroCells
  simp
set_option maxRecDepth 100000 in
theorem grow_calls (n : Nat) (hn : n ≤ 3000000) (w : World) : Calls Tryz.prog 58 #[.slice none 0 0, .int .i64 (n : Int)] w (fun e w' => ∃ v, e = .returned v ∧ (∃ a c, v = .slice a 0 c) ∧ Lv w' w.heap.size v [] ∧ Below w.heap.size w w') := by
  have hw : IntKind.i64.wrap (n : Int) = (n : Int) := IntWalk.i64_in _ (by omega)
  have hn0 : ¬ ((n : Int) < 0) := by omega
  have hnd : decide ((n : Int) < 0) = false := decide_eq_false hn0
  by_cases h0 : n = 0
  · subst h0
    go_enter Tryz.func58, Tryz.ntmps58
    go_wp2_with fail
    go_ret
    exact ⟨_, rfl, ⟨_, _, rfl⟩, Lv.nil _ _, Below.refl _ _⟩
  · have hg : (0 : Int) < (n : Int) := by omega
    obtain ⟨i0, hi, hz, hsz, hby⟩ := info_parts infoN
    have hrun := fun ty => Lib.run_append_nil_zeros (P := Tryz.prog) w 22 3 ty 25 i0 _ .i64 .i64 Tryz.underlying22 Tryz.underlying3 hi hz n (by omega) (by omega) (by omega) (by rw [hby]; omega)
    have hc1 := grownCap_ge w n 0 25
    have hc2 := grownCap_le_maxLen w n 0 25 (by unfold maxLen; omega)
    obtain ⟨cap, hcap⟩ : ∃ cap, grownCap w n 0 25 = cap := ⟨_, rfl⟩
    rw [hcap] at hc1 hc2
    simp only [hcap] at hrun
    obtain ⟨cur, hcur⟩ : ∃ cur : Array Value, Builtin.zeroCells (Value.agg #[.int .i64 0, .string ⟨#[]⟩, .string ⟨#[]⟩, .slice none 0 0, .slice none 0 0]).cells n ++ Builtin.zeroCells (Value.agg #[.int .i64 0, .string ⟨#[]⟩, .string ⟨#[]⟩, .slice none 0 0, .slice none 0 0]).cells (cap - n) = cur := ⟨_, rfl⟩
    have hcs : cur.size = cap * 5 := by
      rw [← hcur, Array.size_append, zeros_len, zeros_len]
      show n * 5 + (cap - n) * 5 = cap * 5
      omega
    rw [hcur] at hrun
    obtain ⟨w1, hw1⟩ : ∃ W, w.drew.alloc (.cells cur 25) = W := ⟨_, rfl⟩
    rw [hw1] at hrun
    have hb1 : Below w.heap.size w w1 := by rw [← hw1]; exact (Below.drew (Below.refl _ w)).alloc (Nat.le_refl _) _
    have hg1 : w1.heap[w.heap.size]? = some (.cells cur 25 (0, 0)) := by rw [← hw1]; exact heap_alloc_new w.drew _
    have HL : Hid (Lv w1 w.heap.size (.slice (some ⟨w.heap.size, 0, none⟩) 0 cap) []) := Lib.hid ⟨⟨rfl, .inr ⟨w.heap.size, cap, cur, rfl, Nat.zero_le _, hg1, Nat.zero_le _, hc2, hcs, by simp [nrC]⟩⟩, fun k e => Nat.le_of_eq (Option.some.inj e)⟩
    have HB := Lib.hid hb1
    have HRUN := Lib.hid hrun
    have hz0 : (0 : Int) ≤ (cap : Int) := by omega
    have hz1 : (n : Int) ≤ (cap : Int) := by omega
    clear hi hz hsz hby hrun hcap hcur hcs hw1 hb1 hg1
    go_enter Tryz.func58, Tryz.ntmps58
    go_wp2_with (at_builtin; refine Lib.wpList_append_run _ rfl (.tmp 20) (.tmp 21) _ _ rfl _ _ rfl rfl _ _ (HRUN.out _) ?_)
    go_ret
    exact ⟨_, rfl, ⟨_, _, rfl⟩, HL.out, HB.out⟩
/-- How many nodes lists of nodes have. -/
def sumR : List (Value × List Nr) → Nat
  | [] => 0
  | x :: l => x.2.length + sumR l
theorem sumR_app : ∀ a b, sumR (a ++ b) = sumR a + sumR b
  | [], b => by rw [List.nil_append, sumR, Nat.zero_add]
  | x :: a, b => by rw [List.cons_append, sumR, sumR, sumR_app a b]; omega
theorem sumR_take (l : List (Value × List Nr)) (i : Nat) : sumR (l.take i) ≤ sumR l := by
  have h := sumR_app (l.take i) (l.drop i)
  rw [List.take_append_drop] at h
  omega
theorem sumR_next {l : List (Value × List Nr)} {i : Nat} {x : Value × List Nr} (h : l[i]? = some x) : sumR (l.take (i + 1)) = sumR (l.take i) + x.2.length := by
  rw [List.take_add_one, h, sumR_app]
  show _ = _ + _
  simp [sumR]
def joinR (l : List (Value × List Nr)) : List Nr := l.flatMap fun x => x.2
theorem joinR_len : ∀ l, (joinR l).length = sumR l
  | [] => rfl
  | x :: l => by
    show (x.2 ++ joinR l).length = _
    rw [List.length_append, joinR_len l, sumR]
theorem joinR_next {l : List (Value × List Nr)} {i : Nat} {x : Value × List Nr} (h : l[i]? = some x) : joinR (l.take (i + 1)) = joinR (l.take i) ++ x.2 := by
  unfold joinR
  rw [List.take_add_one, h, List.flatMap_append]
  simp
set_option maxRecDepth 100000 in
set_option maxHeartbeats 4000000 in
theorem concat_calls {w : World} {g : Nat} {vs : List (Value × List Nr)} (hc : ∀ i x, vs[i]? = some x → w.cell? ⟨g, i, none⟩ = some x.1) (hin : ∀ x ∈ vs, RowIn w Any x.1 x.2 ∧ ∀ y ∈ x.2, y.av.oneCell' = true ∧ y.kv.oneCell' = true) (hs : sumR vs ≤ 3000000) (hl : vs.length ≤ 1000) : Calls Tryz.prog 36 #[.slice (some ⟨g, 0, none⟩) vs.length vs.length] w (fun e w' => ∃ v, e = .returned v ∧ RowIn w' Any v (joinR vs) ∧ Below w.heap.size w w') := by
  obtain ⟨n, hn⟩ : ∃ n, vs.length = n := ⟨_, rfl⟩
  rw [hn] at hl ⊢
  have HC := Lib.hid hc
  have HIN := Lib.hid hin
  have HS := Lib.hid hs
  have HN := Lib.hid hn
  clear hc hin hs hn
  go_enter Tryz.func36, Tryz.ntmps36
  go_wp2_with fail
  go_loopg [3, 11] n (fun gk s3 s11 wr => ∃ i : Nat, s11 = .int .i64 (i : Int) ∧ gk + i = n ∧ s3 = .int .i64 ((sumR (vs.take i) : Nat) : Int) ∧ wr = w)
  case atStart => exact ⟨0, rfl, rfl, rfl, rfl⟩
  case round =>
    obtain ⟨i, rfl, hg, rfl, rfl⟩ := hrel
    have HG := Lib.hid hg
    cases gk with
    | zero =>
      obtain rfl : i = n := by omega
      have hge : ¬ ((i : Int) < (i : Int)) := by omega
      have htk : vs.take i = vs := List.take_of_length_le (by rw [HN.out]; exact Nat.le_refl _)
      rw [htk]
      obtain ⟨m, hm⟩ : ∃ m, sumR vs = m := ⟨_, rfl⟩
      rw [hm]
      have HGR := Lib.hid (grow_calls m (by rw [← hm]; exact HS.out) wr)
      clear htk hm
      go_wp2_with fail
      with_reducible refine HGR.out.mono ?_
      rintro e w1 ⟨v1, rfl, ⟨ga, gc, rfl⟩, hlv, hb1⟩
      have HL1 := Lib.hid hlv
      have HB1 := Lib.hid hb1
      clear hlv hb1
      go_wp2_with fail
      go_loopg [6, 27] i (fun gk s6 s27 wz => ∃ (j : Nat) (rows : List Nr), s27 = .int .i64 (j : Int) ∧ gk + j = i ∧ rows = joinR (vs.take j) ∧ Lv wz wr.heap.size s6 rows ∧ Below wr.heap.size wr wz)
      case atStart => exact ⟨0, _, rfl, rfl, rfl, HL1.out, HB1.out⟩
      case round =>
        obtain ⟨j, rows, rfl, hgj, hrows, hlv, hb⟩ := hrel
        have HL := Lib.hid hlv
        have HB := Lib.hid hb
        have HRW := Lib.hid hrows
        obtain ⟨la, lc, rfl, _⟩ := hlv.form
        clear hb hlv hrows
        cases gk with
        | zero =>
          obtain rfl : j = i := by omega
          have hgj2 : ¬ ((j : Int) < (j : Int)) := by omega
          have HF : Hid (RowIn _ Any (.slice la rows.length lc) (joinR vs)) := Lib.hid (by
            have h1 := HL.out.rowIn Any (fun _ _ => trivial)
            have h2 := HRW.out
            rw [List.take_of_length_le (by rw [HN.out]; exact Nat.le_refl _)] at h2
            rw [← h2]
            exact h1)
          go_wp2_with fail
          go_ret
          exact ⟨_, rfl, HF.out, HB.out⟩
        | succ g2 =>
          have hlt : (j : Int) < (i : Int) := by omega
          have hj0 : (0 : Int) ≤ (j : Int) := by omega
          have hadd : IntKind.i64.wrap ((j : Int) + 1) = ((j + 1 : Nat) : Int) := IntWalk.i64_in _ (by omega)
          obtain ⟨x, hx⟩ : ∃ x, vs[j]? = some x := ⟨_, List.getElem?_eq_getElem (by rw [HN.out]; omega)⟩
          have hcx := HC.out j x hx
          replace hcx := (HB.out.cell (lt_of_cell hcx)).trans hcx
          obtain ⟨hri, hone⟩ := HIN.out x (List.mem_of_getElem? hx)
          obtain ⟨xa, xn, xc, hxv⟩ := hri.slice
          have hsum := sumR_next hx
          have hsum2 := sumR_take vs (j + 1)
          have hlen : rows.length = sumR (vs.take j) := by rw [HRW.out, joinR_len]
          obtain ⟨v2, w2, hrun, hlv2, hb2⟩ := HL.out.appendRow HB.out.size (hri.keep (keeps_below HB.out Non) (fun _ _ h => h) (fun _ h => h)) hone (by have := HS.out; omega)
          rw [hxv] at hcx hrun
          have HRUN := Lib.hid hrun
          have HL2 := Lib.hid hlv2
          have HB2 := Lib.hid (HB.out.trans hb2)
          have HNX : Hid (rows ++ x.2 = joinR (vs.take (j + 1))) := Lib.hid (by rw [HRW.out, joinR_next hx])
          clear hx hri hone hxv hsum hsum2 hlen hrun hlv2 hb2
          go_wp2_with (at_builtin; refine wpList_step (fun K hK => step_append rfl (.tmp 31) (.tmp 32) _ _ rfl _ _ _ rfl rfl HRUN.out (hK _ _ ?_)))
          go_roundg g2
          case measure => omega
          case rel => exact ⟨j + 1, _, rfl, by omega, HNX.out, HL2.out, HB2.out⟩
    | succ g2 =>
      have hlt : (i : Int) < (n : Int) := by omega
      have hi0 : (0 : Int) ≤ (i : Int) := by omega
      have hadd : IntKind.i64.wrap ((i : Int) + 1) = ((i + 1 : Nat) : Int) := IntWalk.i64_in _ (by omega)
      obtain ⟨x, hx⟩ : ∃ x, vs[i]? = some x := ⟨_, List.getElem?_eq_getElem (by rw [HN.out]; omega)⟩
      have hcx := HC.out i x hx
      obtain ⟨hri, _⟩ := HIN.out x (List.mem_of_getElem? hx)
      obtain ⟨xa, xc, hxv, _⟩ := hri
      have hsum := sumR_next hx
      have hsum2 := sumR_take vs (i + 1)
      obtain ⟨m, hm⟩ : ∃ m, sumR (vs.take i) = m := ⟨_, rfl⟩
      obtain ⟨k, hk⟩ : ∃ k, x.2.length = k := ⟨_, rfl⟩
      rw [hm, hk] at hsum
      rw [hxv, hk] at hcx
      rw [hm]
      have hbd : m + k ≤ 3000000 := by have := HS.out; omega
      have hw1 : IntKind.i64.wrap ((m : Int) + (k : Int)) = ((m + k : Nat) : Int) := by rw [IntWalk.i64_in _ (by omega)]; omega
      have hnn : ¬ (((m + k : Nat) : Int) < 0) := by omega
      have HSM := Lib.hid hsum
      clear hx hxv hsum hsum2 hm hk
      go_wp2_with fail
      go_roundg g2
      case measure => omega
      case rel => exact ⟨i + 1, rfl, by omega, by rw [HSM.out]; exact congrArg (Value.int .i64) (by omega), rfl⟩


theorem NodesIn.app {w : World} {S : Nat → Prop} {r1 r2 : List Nr} {k1 k2 : List Tr} (h1 : NodesIn w S r1 k1) (h2 : NodesIn w S r2 k2) : NodesIn w S (r1 ++ r2) (k1 ++ k2) := by
  refine ⟨by rw [List.length_append, List.length_append, h1.1, h2.1], fun i x t hx ht => ?_⟩
  by_cases hi : i < r1.length
  · rw [List.getElem?_append_left hi] at hx
    rw [List.getElem?_append_left (by rw [← h1.1]; exact hi)] at ht
    exact h1.2 i x t hx ht
  · rw [List.getElem?_append_right (by omega)] at hx
    rw [List.getElem?_append_right (by rw [← h1.1]; omega), ← h1.1] at ht
    exact h2.2 _ x t hx ht
theorem NodesIn.one {w : World} {S : Nat → Prop} {r : Nr} {t : Tr} (h : NodeIn w S r t) : NodesIn w S [r] [t] := by
  have := (NodesIn.nil w S).snoc h
  simpa using this
/-- The nodes of a document, one row after another. -/
theorem together_calls {W : World} {dv bv av : Value} {before after : List Tr} {root : Tr} {r : Nr} {rb ra : List Nr} (h : DcIn W dv (before, root, after) bv av r rb ra) (hf : FewD (before, root, after)) {k : Int} {sn st : ByteArray} (hk : r.kind = k) (hsn : strB r.name = sn) (hst : strB r.text = st) :
    Calls Tryz.prog 36 #[.slice (some ⟨W.heap.size + 1, 0, none⟩) 3 3] ((W.alloc (.cells #[.int .i64 k, .string sn, .string st, r.av, r.kv] 25)).alloc (.cells #[bv, .slice (some ⟨W.heap.size, 0, none⟩) 1 1, av] 22))
      (fun e w' => ∃ v, e = .returned v ∧ (∃ a n c, v = .slice a n c) ∧ RestIn w' v (before ++ [root] ++ after) ∧ Below W.heap.size W w') := by
  subst hk hsn hst
  obtain ⟨w1, hw1⟩ : ∃ X, W.alloc (.cells #[.int .i64 r.kind, .string (strB r.name), .string (strB r.text), r.av, r.kv] 25) = X := ⟨_, rfl⟩
  rw [hw1]
  have hs1 : w1.heap.size = W.heap.size + 1 := by rw [← hw1]; simp
  obtain ⟨w2, hw2⟩ : ∃ X, w1.alloc (.cells #[bv, .slice (some ⟨W.heap.size, 0, none⟩) 1 1, av] 22) = X := ⟨_, rfl⟩
  rw [hw2]
  have hb1 : Below W.heap.size W w1 := by rw [← hw1]; exact (Below.refl _ _).alloc (Nat.le_refl _) _
  have hb2 : Below W.heap.size W w2 := by rw [← hw2]; exact hb1.alloc (by omega) _
  have hk1 : w2.heap[W.heap.size]? = some (.cells #[.int .i64 r.kind, .string (strB r.name), .string (strB r.text), r.av, r.kv] 25 (0, 0)) := by
    rw [← hw2, Lib.alloc_old _ _ _ (by omega), ← hw1]
    exact heap_alloc_new W _
  have hk2 : w2.heap[W.heap.size + 1]? = some (.cells #[bv, .slice (some ⟨W.heap.size, 0, none⟩) 1 1, av] 22 (0, 0)) := by rw [← hw2, ← hs1]; exact heap_alloc_new w1 _
  have hd := h.keep hb2
  have hnr : NrIn w2 W.heap.size 0 r := ⟨(cell_of_block hk1 0).trans rfl, (cell_of_block hk1 1).trans rfl, (cell_of_block hk1 2).trans rfl, (cell_of_block hk1 3).trans rfl, (cell_of_block hk1 4).trans rfl⟩
  have hrow : RowIn w2 Any (.slice (some ⟨W.heap.size, 0, none⟩) 1 1) [r] := ⟨_, 1, rfl, Nat.le_refl _, by unfold maxLen; decide, fun h => (by cases h), .inr ⟨W.heap.size, 0, rfl, trivial, fun i y hy => by
    match i, hy with
    | 0, hy => rw [← Option.some.inj hy]; exact hnr
    | i + 1, hy => simp at hy⟩⟩
  have hlb : rb.length ≤ 1000000 := by rw [hd.inB.1]; exact Nat.le_trans (cntL_len _) hf.cntB
  have hla : ra.length ≤ 1000000 := by rw [hd.inA.1]; exact Nat.le_trans (cntL_len _) hf.cntA
  have hcall := concat_calls (w := w2) (g := W.heap.size + 1) (vs := [(bv, rb), (.slice (some ⟨W.heap.size, 0, none⟩) 1 1, [r]), (av, ra)]) (fun i x hx => by
    match i, hx with
    | 0, hx => rw [← Option.some.inj hx]; exact (cell_of_block hk2 0).trans rfl
    | 1, hx => rw [← Option.some.inj hx]; exact (cell_of_block hk2 1).trans rfl
    | 2, hx => rw [← Option.some.inj hx]; exact (cell_of_block hk2 2).trans rfl
    | i + 3, hx => simp at hx) (fun x hx => by
    simp only [List.mem_cons, List.not_mem_nil, or_false] at hx
    rcases hx with rfl | rfl | rfl
    · exact ⟨hd.rowB, hd.inB.ones⟩
    · exact ⟨hrow, (NodesIn.one hd.root).ones⟩
    · exact ⟨hd.rowA, hd.inA.ones⟩) (by simp only [sumR, List.length_cons, List.length_nil]; omega) (by simp only [List.length_cons, List.length_nil]; omega)
  refine hcall.mono ?_
  rintro e w3 ⟨v, rfl, hr, hb⟩
  have hb3 := below_then hb2 hb
  have hd3 := h.keep hb3
  have hj : joinR [(bv, rb), (.slice (some ⟨W.heap.size, 0, none⟩) 1 1, [r]), (av, ra)] = rb ++ [r] ++ ra := by
    unfold joinR
    simp
  rw [hj] at hr
  exact ⟨v, rfl, hr.slice, ⟨_, hr, (hd3.inB.app (NodesIn.one hd3.root)).app hd3.inA⟩, hb3⟩
theorem may_whole (q : List Tr × Tr × List Tr) : mayB q.1 q.2.1 q.2.2 = (wholeB q && decide ((wrD q.1 q.2.1 q.2.2).length ≤ 65536)) := rfl
/-- What is written of a document that may be written. -/
def docS (q : List Tr × Tr × List Tr) : ByteArray := if mayB q.1 q.2.1 q.2.2 then strB (wrD q.1 q.2.1 q.2.2) else ⟨#[]⟩
set_option maxRecDepth 100000 in
set_option maxHeartbeats 8000000 in
theorem pdocument_calls {w : World} {dv : Value} {q : List Tr × Tr × List Tr} {bv av : Value} {r : Nr} {rb ra : List Nr} (h : DcIn w dv q bv av r rb ra) (hf : FewD q) (hE : EnvAt w) (hs : (wrD q.1 q.2.1 q.2.2).length ≤ 1073741824) : Calls Tryz.prog 18 #[dv] w (Leaves (.tuple #[.string (docS q), .bool (mayB q.1 q.2.1 q.2.2)]) w) := by
  obtain ⟨before, root, after⟩ := q
  have hdv := h.val
  unfold docV at hdv
  obtain ⟨sn, hsn⟩ : ∃ s, strB r.name = s := ⟨_, rfl⟩
  obtain ⟨st, hst⟩ : ∃ s, strB r.text = s := ⟨_, rfl⟩
  obtain ⟨k, hk⟩ : ∃ k, r.kind = k := ⟨_, rfl⟩
  rw [hsn, hst, hk] at hdv
  obtain ⟨va, vk, hva, hvk, hvs⟩ : ∃ va vk, r.av = va ∧ r.kv = vk ∧ (∃ a n c a2 n2 c2, va = .slice a n c ∧ vk = .slice a2 n2 c2) := by
    obtain ⟨_, _, _, h4, rows, h5, _⟩ := h.root.kids
    obtain ⟨a, n, c, h6⟩ := h4.slice
    obtain ⟨a2, n2, c2, h7⟩ := h5.slice
    exact ⟨_, _, rfl, rfl, a, n, c, a2, n2, c2, h6, h7⟩
  rw [hva, hvk] at hdv
  obtain ⟨w0, hw0⟩ : ∃ W, w.alloc (.cells #[bv, .int .i64 k, .string sn, .string st, va, vk, av] 27) = W := ⟨_, rfl⟩
  have hb0 : Below w.heap.size w w0 := by rw [← hw0]; exact (Below.refl _ _).alloc (Nat.le_refl _) _
  have hblk : w0.heap[w.heap.size]? = some (.cells #[bv, .int .i64 k, .string sn, .string st, va, vk, av] 27 (0, 0)) := by rw [← hw0]; exact heap_alloc_new w _
  have HCELL : Hid (∀ W, Below w0.heap.size w0 W → W.cell? ⟨w.heap.size, 0, none⟩ = some bv ∧ W.cell? ⟨w.heap.size, 1, none⟩ = some (.int .i64 k) ∧ W.cell? ⟨w.heap.size, 2, none⟩ = some (.string sn) ∧ W.cell? ⟨w.heap.size, 3, none⟩ = some (.string st) ∧ W.cell? ⟨w.heap.size, 4, none⟩ = some va ∧ W.cell? ⟨w.heap.size, 5, none⟩ = some vk ∧ W.cell? ⟨w.heap.size, 6, none⟩ = some av) := Lib.hid (fun W hW => by
    have h1 := block_below hW hblk
    exact ⟨(cell_of_block h1 0).trans rfl, (cell_of_block h1 1).trans rfl, (cell_of_block h1 2).trans rfl, (cell_of_block h1 3).trans rfl, (cell_of_block h1 4).trans rfl, (cell_of_block h1 5).trans rfl, (cell_of_block h1 6).trans rfl⟩)
  have HD : Hid (∀ W, Below w0.heap.size w0 W → DcIn W dv (before, root, after) bv av r rb ra) := Lib.hid (fun W hW => h.keep (below_then hb0 hW))
  have HWH : Hid (Calls Tryz.prog 35 #[dv] w0 (Leaves (.bool (wholeB (before, root, after))) w0)) := Lib.hid (pwhole_calls (HD.out w0 (Below.refl _ _)) hf (hE.below hb0))
  have HTG : Hid (∀ W, Below w0.heap.size w0 W → Calls Tryz.prog 36 #[.slice (some ⟨W.heap.size + 1, 0, none⟩) 3 3] ((W.alloc (.cells #[.int .i64 k, .string sn, .string st, va, vk] 25)).alloc (.cells #[bv, .slice (some ⟨W.heap.size, 0, none⟩) 1 1, av] 22))
      (fun e w' => ∃ v, e = .returned v ∧ (∃ a n c, v = .slice a n c) ∧ RestIn w' v (before ++ [root] ++ after) ∧ Below W.heap.size W w')) := Lib.hid (fun W hW => by
    have h1 := together_calls (HD.out W hW) hf hk hsn hst
    rw [hva, hvk] at h1
    exact h1)
  have HNO : Hid (∀ W v, RestIn W v (before ++ [root] ++ after) → Calls Tryz.prog 13 #[v] W (Leaves (.string (strB (wrD before root after))) W)) := Lib.hid (fun W v hR => by
    rw [wrD_nodes]
    refine pnodes_calls hR (by rw [← wrD_nodes]; exact hs) ?_
    rw [cntL_app, cntL_app, cntL_one]
    have h1 := hf.cntB
    have h2 := hf.cntR
    have h3 := hf.cntA
    dsimp only at h1 h2 h3
    omega)
  obtain ⟨Q, hQ⟩ : ∃ Q, wholeB (before, root, after) = Q := ⟨_, rfl⟩
  obtain ⟨s, hsb⟩ : ∃ s, strB (wrD before root after) = s := ⟨_, rfl⟩
  obtain ⟨n, hn⟩ : ∃ n, (wrD before root after).length = n := ⟨_, rfl⟩
  have hsz : s.size = n := by rw [← hsb, ← hn]; exact strB_size _
  have HM : Hid (mayB before root after = (Q && decide (n ≤ 65536))) := Lib.hid (by rw [← hQ, ← hn]; exact may_whole (before, root, after))
  have HS : Hid (docS (before, root, after) = if mayB before root after then s else ⟨#[]⟩) := Lib.hid (by rw [← hsb]; rfl)
  dsimp only at hs ⊢
  rw [hQ] at HWH
  rw [hsb] at HNO
  rw [hn] at hs
  obtain ⟨M, hM⟩ : ∃ M, mayB before root after = M := ⟨_, rfl⟩
  obtain ⟨D, hD⟩ : ∃ D, docS (before, root, after) = D := ⟨_, rfl⟩
  rw [hM] at HM HS ⊢
  rw [hD] at HS ⊢
  have hbv : ∃ a n c, bv = .slice a n c := h.rowB.slice
  have hav : ∃ a n c, av = .slice a n c := h.rowA.slice
  obtain ⟨ba, bn, bc, rfl⟩ := hbv
  obtain ⟨aa, an, ac, rfl⟩ := hav
  have HB0 := Lib.hid hb0
  have HW0 := Lib.hid hw0
  rw [hdv] at HWH ⊢
  obtain ⟨u1, u2, u3, u4, u5, u6, rfl, rfl⟩ := hvs
  obtain ⟨z0, z1, z2, z3, z4, z5, z6⟩ := HCELL.out w0 (Below.refl _ _)
  clear h hf hE hdv hsn hst hk hva hvk hw0 hb0 hblk hQ hsb hn hM hD HD
  go_enter Tryz.func18, Tryz.ntmps18
  go_wp2_with fail
  rw [HW0.out]
  with_reducible refine HWH.out.mono ?_
  rintro e w1 ⟨rfl, hb1⟩
  have HB1 := Lib.hid hb1
  obtain ⟨z0, z1, z2, z3, z4, z5, z6⟩ := HCELL.out w1 hb1
  clear hb1
  cases Q with
  | false =>
    have HF : Hid (M = false) := Lib.hid (by rw [HM.out]; rfl)
    have HF2 : Hid (D = ⟨#[]⟩) := Lib.hid (by rw [HS.out, HF.out]; rfl)
    go_wp2_with fail
    go_ret2
    exact ⟨by rw [HF.out, HF2.out]; rfl, below_then HB0.out HB1.out⟩
  | true =>
    have z7 : (w1.alloc (.cells #[.int .i64 k, .string sn, .string st, .slice u1 u2 u3, .slice u4 u5 u6] 25)).cell? ⟨w.heap.size, 6, none⟩ = some (.slice aa an ac) := (HCELL.out _ (HB1.out.alloc HB1.out.size _)).2.2.2.2.2.2
    go_wp2_with fail
    with_reducible refine (HTG.out w1 HB1.out).mono ?_
    rintro e w2 ⟨v, rfl, ⟨va, vn, vc, rfl⟩, hr, hb2⟩
    have HN2 := Lib.hid (HNO.out w2 _ hr)
    have HB2 := Lib.hid (below_then HB1.out hb2)
    clear hr hb2
    go_wp2_with fail
    with_reducible refine HN2.out.mono ?_
    rintro e w3 ⟨rfl, hb3⟩
    have HB3 := Lib.hid (below_then HB2.out hb3)
    clear hb3
    by_cases hle : n ≤ 65536
    · have hle2 : ¬ ((65536 : Int) < (n : Int)) := by omega
      have HF : Hid (M = true) := Lib.hid (by rw [HM.out, decide_eq_true hle]; rfl)
      have HF2 : Hid (D = s) := Lib.hid (by rw [HS.out, HF.out]; rfl)
      go_wp2_with fail
      go_ret2
      exact ⟨by rw [HF.out, HF2.out]; rfl, below_then HB0.out HB3.out⟩
    · have hle2 : (65536 : Int) < (n : Int) := by omega
      have HF : Hid (M = false) := Lib.hid (by rw [HM.out, decide_eq_false hle]; rfl)
      have HF2 : Hid (D = ⟨#[]⟩) := Lib.hid (by rw [HS.out, HF.out]; rfl)
      go_wp2_with fail
      go_ret2
      exact ⟨by rw [HF.out, HF2.out]; rfl, below_then HB0.out HB3.out⟩

end Go.Proofs.YtocnedpclllbhaaGreatDoor
