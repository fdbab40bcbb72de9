/-
 xtree's elements: the addresses of a slice's elements, in a slice of its own. Condition: the nodes lie in memory; there are no more than 2 to the 20 of them.
-/
import Derived.Test.YtocnedpclllbhaaGreatDoorXPt
namespace Go.Proofs.YtocnedpclllbhaaGreatDoor
open Go.RowKit Go.Lib Go.Joins

/-- A slice of pointers that nobody else has. -/
structure PRow (w : World) (n0 : Nat) (v : Value) (ps : List Addr) : Prop where
  row : w.ownsRow 0 49 1 v ps.length (ptrC ps)
  new : ∀ k, v.ownBlock = some k → n0 ≤ k
theorem PRow.nil (w : World) (n0 : Nat) : PRow w n0 (.slice none 0 0) [] := ⟨World.ownsRow_nil _ _ _ _, fun _ e => by cases e⟩
theorem PRow.keep {w w' : World} {O : Nat → Prop} {n0 : Nat} {v : Value} {ps : List Addr} (h : PRow w n0 v ps) (hk : Keeps O w w') (hO : ∀ k, v.ownBlock = some k → ¬ O k) : PRow w' n0 v ps := ⟨ownsRow_keep h.row hk hO, h.new⟩
theorem PRow.below {w w' : World} {n0 : Nat} {v : Value} {ps : List Addr} (h : PRow w n0 v ps) (hb : Below w.heap.size w w') : PRow w' n0 v ps := h.keep (keeps_below hb Non) (fun _ _ h => h)
theorem PRow.mono {w : World} {n0 n1 : Nat} {v : Value} {ps : List Addr} (h : PRow w n0 v ps) (hn : n1 ≤ n0) : PRow w n1 v ps := ⟨h.row, fun k e => Nat.le_trans hn (h.new k e)⟩
theorem PRow.form {w : World} {n0 : Nat} {v : Value} {ps : List Addr} (h : PRow w n0 v ps) : (v = .slice none 0 0 ∧ ps = []) ∨ ∃ g c, v = .slice (some ⟨g, 0, none⟩) ps.length c ∧ ps.length ≤ c ∧ c ≤ maxLen ∧ g < w.heap.size ∧ n0 ≤ g ∧ ∀ i p, ps[i]? = some p → w.cell? ⟨g, i, none⟩ = some (.pointer (some p)) := by
  rcases h.row.2 with ⟨h1, h0⟩ | ⟨g, cap, cur, h1, hg, hgb, hcap, hcm, hcur, htk⟩
  · exact .inl ⟨h1, List.length_eq_zero_iff.1 h0⟩
  · refine .inr ⟨g, cap, h1, hcap, hcm, lt_of_block hgb, h.new g (by rw [h1]; rfl), fun i p hp => ?_⟩
    have hc := h.row.cells (g := g) (by rw [h1]; rfl) i (.pointer (some p)) (by unfold ptrC; rw [List.getElem?_map, hp]; rfl)
    rw [Addr.add_mid, Nat.zero_add] at hc
    exact hc
theorem PRow.form0 {w : World} {n0 : Nat} {v : Value} (h : PRow w n0 v []) : ∃ a c, v = .slice a 0 c := by
  rcases h.form with ⟨h1, _⟩ | ⟨g, c, h1, _⟩
  · exact ⟨_, _, h1⟩
  · exact ⟨_, _, h1⟩
theorem PRow.formN {w : World} {n0 : Nat} {v : Value} {ps : List Addr} (h : PRow w n0 v ps) (hn : ps ≠ []) : ∃ g c, v = .slice (some ⟨g, 0, none⟩) ps.length c ∧ ps.length ≤ c ∧ c ≤ maxLen ∧ g < w.heap.size ∧ n0 ≤ g ∧ ∀ i p, ps[i]? = some p → w.cell? ⟨g, i, none⟩ = some (.pointer (some p)) := by
  rcases h.form with ⟨_, h0⟩ | h
  · exact absurd h0 hn
  · exact h
theorem ptrC_len (ps : List Addr) : (ptrC ps).length = ps.length := by unfold ptrC; rw [List.length_map]
theorem ptrC_app (ps qs : List Addr) : ptrC (ps ++ qs) = ptrC ps ++ ptrC qs := by unfold ptrC; rw [List.map_append]
theorem ptrC_one (ps : List Addr) : ∀ u ∈ ptrC ps, u.oneCell' = true := by
  intro u hu
  obtain ⟨p, _, rfl⟩ := List.mem_map.1 hu
  rfl
/-- Pointers appended. -/
theorem PRow.append {w : World} {n0 : Nat} {v : Value} {ps : List Addr} (h : PRow w n0 v ps) (hn : n0 ≤ w.heap.size) {b : Addr} {c : Nat} {qs : List Addr} (hq : ∀ i q, qs[i]? = some q → w.cell? (b.add i) = some (.pointer (some q))) (hmx : ps.length + qs.length ≤ 1000000000) :
    ∃ v' w', (∀ ty, (Builtin.append_ #[50, 50] ty #[v, .slice (some b) qs.length c]).run Tryz.prog w = .ok v' w') ∧ PRow w' n0 v' (ps ++ qs) ∧ Keeps (fun k => v.ownBlock = some k) w w' := by
  obtain ⟨v', w', hrun, hrow, hgrown, hown⟩ := append_any (w := w) Tryz.underlying50 infoP rfl (by decide) h.row (b := b) (m := qs.length) (c := c) (news := ptrC qs) (by rw [ptrC_len]; omega) (fun j u hj => by
    unfold ptrC at hj
    rw [List.getElem?_map] at hj
    cases hx : qs[j]? with
    | none => rw [hx] at hj; cases hj
    | some q =>
      rw [hx] at hj
      rw [hq j q hx]
      exact hj) (ptrC_one qs) (by unfold maxLen; omega) (by omega)
  refine ⟨v', w', hrun, ⟨?_, fun k e => ?_⟩, (Keeps.refl _ w).grown hgrown (fun k e => .inl e)⟩
  · rw [List.length_append, ptrC_app]
    exact hrow
  · rcases hown k e with h1 | h1
    · exact h.new k h1
    · omega
/-- What elements answers. -/
def ElemsOut (w : World) (ps : List Addr) (e : Ending) (w' : World) : Prop := ∃ v, e = .returned v ∧ PRow w' w.heap.size v ps ∧ Below w.heap.size w w'
set_option maxRecDepth 100000 in
set_option maxHeartbeats 4000000 in
theorem elements_calls {w : World} {S : Nat → Prop} {b o c : Nat} {rows : List Nr} (h : RowIn w S (.slice (some ⟨b, o, none⟩) rows.length c) rows) (hmx : rows.length ≤ 1000000) : Calls Tryz.prog 76 #[.slice (some ⟨b, o, none⟩) rows.length c] w (ElemsOut w (elemPs b o rows)) := by
  obtain ⟨a2, c2, e2, hc, hm, _, hr⟩ := h
  injection e2 with e3 e4 e5
  subst e3
  subst e5
  obtain ⟨n, hl⟩ : ∃ n, rows.length = n := ⟨_, rfl⟩
  obtain ⟨Q, hQ⟩ : ∃ Q, elemPs b o rows = Q := ⟨_, rfl⟩
  have HQ := Lib.hid hQ
  have HL := Lib.hid hl
  have HMX : Hid (n ≤ 1000000) := Lib.hid (by omega)
  have HR : Hid (∀ (i : Nat) (x : Nr), rows[i]? = some x → NrIn w b (o + i * 5) x) := Lib.hid (fun i x hx => by
    rcases hr with h0 | ⟨b2, o2, e6, _, hcell⟩
    · rw [h0] at hx; simp at hx
    · injection e6 with e6
      injection e6 with e6 e7
      subst e6
      subst e7
      exact hcell i x hx)
  rw [hl, hQ]
  clear hQ hr hl hc hm hmx e4
  go_enter Tryz.func76, Tryz.ntmps76
  go_wp2_with fail
  go_loopg [3, 7] n (fun g s3 s7 wr => ∃ i : Nat, i + g = n ∧ s7 = .int .i64 (i : Int) ∧ PRow wr w.heap.size s3 (elemPs b o (rows.take i)) ∧ Below w.heap.size w wr)
  case atStart => exact ⟨0, by omega, rfl, PRow.nil w _, Below.refl _ _⟩
  case round =>
    obtain ⟨i, hig, rfl, hp, hb⟩ := hrel
    have HP := Lib.hid hp
    have HB := Lib.hid hb
    clear hp hb
    cases gk with
    | zero =>
      obtain rfl : i = n := by omega
      have hge : ¬ ((i : Int) < (i : Int)) := by omega
      rw [List.take_of_length_le (by have := HL.out; omega), HQ.out] at HP
      go_wp2_with fail
      go_ret
      exact ⟨_, rfl, HP.out, HB.out⟩
    | succ g =>
      have hlt : (i : Int) < (n : Int) := by omega
      have hi0 : (0 : Int) ≤ (i : Int) := by omega
      have hadd : IntKind.i64.wrap ((i : Int) + 1) = ((i + 1 : Nat) : Int) := IntWalk.i64_in _ (by have := HMX.out; omega)
      obtain ⟨x, hx⟩ : ∃ x, rows[i]? = some x := ⟨_, List.getElem?_eq_getElem (by have := HL.out; omega)⟩
      have HNX : Hid (elemPs b o (rows.take (i + 1)) = elemPs b o (rows.take i) ++ if x.kind = 1 then [⟨b, o + i * 5, none⟩] else []) := Lib.hid (by
        rw [List.take_add_one, hx]
        show elemPs b o (rows.take i ++ [x]) = _
        rw [elemPs_snoc, List.length_take, Nat.min_eq_left (by have := HL.out; omega)])
      have HPL : Hid ((elemPs b o (rows.take i)).length ≤ n) := Lib.hid (Nat.le_trans (elemPs_len b _ o) (by rw [List.length_take]; omega))
      obtain ⟨y0, y1, y2, y3, y4⟩ := (HR.out i x hx).keep (keeps_below HB.out Non) (fun e => e)
      obtain ⟨xk, xn, xt, xa, xv⟩ := x
      dsimp only at y0 y1 y2 y3 y4 HNX
      have HE := Lib.hid (isElem_calls ⟨xk, xn, xt, xa, xv⟩ wr)
      unfold nodeV at HE
      dsimp only at HE
      obtain ⟨sn, hsn⟩ : ∃ s, strB xn = s := ⟨_, rfl⟩
      obtain ⟨st, hst⟩ : ∃ s, strB xt = s := ⟨_, rfl⟩
      rw [hsn] at y1 HE
      rw [hst] at y2 HE
      clear hx hsn hst
      by_cases h1 : xk = 1
      · have hb1 : (xk == 1) = true := by rw [h1]; rfl
        rw [hb1] at HE
        rw [if_pos h1] at HNX
        clear h1 hb1
        go_wp2_with fail
        with_reducible refine HE.out.mono ?_
        rintro e w2 ⟨rfl, hb⟩
        have HB2 := Lib.hid (below_then HB.out hb)
        have HP2 := Lib.hid (HP.out.below hb)
        clear hb HE
        obtain ⟨x1, hx1⟩ : ∃ W, w2.alloc (.cells #[.pointer (some ⟨b, o + i * 5, none⟩)] 49) = W := ⟨_, rfl⟩
        have hb1 : Below w2.heap.size w2 x1 := by rw [← hx1]; exact (Below.refl _ _).alloc (Nat.le_refl _) _
        have hp1 : x1.heap[w2.heap.size]? = some (.cells #[.pointer (some ⟨b, o + i * 5, none⟩)] 49 (0, 0)) := by rw [← hx1]; exact heap_alloc_new w2 _
        obtain ⟨v3, x2, hrun, hp3, hk3⟩ := (HP2.out.below hb1).append (Nat.le_trans HB2.out.size hb1.size) (b := ⟨w2.heap.size, 0, none⟩) (c := 1) (qs := [⟨b, o + i * 5, none⟩]) (fun j q hj => by
          match j, hj with
          | 0, hj =>
            rw [Addr.add_mid, cell_of_block hp1 0, ← Option.some.inj hj]
            rfl
          | j + 1, hj => simp at hj) (by have := HPL.out; have := HMX.out; show _ + 1 ≤ _; omega)
        have HRUN := Lib.hid hrun
        have HP3 := Lib.hid hp3
        have HB3 := Lib.hid ((below_then HB2.out hb1).trans (hk3.toBelow (Nat.le_trans HB2.out.size hb1.size) (fun k e => HP2.out.new k e)))
        clear hb1 hp1 hrun hp3 hk3
        go_wp2_with (at_builtin; (try rw [hx1]); refine wpList_step (fun K hK => step_append rfl (.tmp 15) (.tmp 19) _ _ rfl _ _ _ rfl rfl HRUN.out (hK _ _ ?_)))
        go_roundg g
        case measure => omega
        case rel => exact ⟨i + 1, by omega, rfl, by rw [HNX.out]; exact HP3.out, HB3.out⟩
      · have hb1 : (xk == 1) = false := beq_eq_false_iff_ne.2 h1
        rw [hb1] at HE
        rw [if_neg h1, List.append_nil] at HNX
        clear h1 hb1
        go_wp2_with fail
        with_reducible refine HE.out.mono ?_
        rintro e w2 ⟨rfl, hb⟩
        have HB2 := Lib.hid (below_then HB.out hb)
        have HP2 := Lib.hid (HP.out.below hb)
        clear hb HE
        go_wp2_with fail
        go_roundg g
        case measure => omega
        case rel => exact ⟨i + 1, by omega, rfl, by rw [HNX.out]; exact HP2.out, HB2.out⟩
set_option maxRecDepth 100000 in
theorem elements_nil (w : World) (a : Option Addr) (c : Nat) : Calls Tryz.prog 76 #[.slice a 0 c] w (ElemsOut w []) := by
  go_enter Tryz.func76, Tryz.ntmps76
  go_wp2_with fail
  go_loopg [3, 7] 0 (fun g s3 s7 wr => s7 = .int .i64 (0 : Int) ∧ s3 = .slice none 0 0 ∧ wr = w)
  case atStart => exact ⟨rfl, rfl, rfl⟩
  case round =>
    obtain ⟨rfl, rfl, rfl⟩ := hrel
    go_wp2_with fail
    go_ret
    exact ⟨_, rfl, PRow.nil wr _, Below.refl _ _⟩
theorem NodeIn.any {w : World} {S : Nat → Prop} {r : Nr} {t : Tr} (h : NodeIn w S r t) : NodeIn w Any r t := h.keep (Keeps.refl Non w) (fun _ _ h => h) (fun _ _ => trivial)
theorem RowIn.slice {w : World} {S : Nat → Prop} {v : Value} {rows : List Nr} (h : RowIn w S v rows) : ∃ a n c, v = .slice a n c := by
  obtain ⟨a, c, h1, _⟩ := h
  exact ⟨a, _, c, h1⟩
theorem AttIn.slice {w : World} {S : Nat → Prop} {v : Value} {l : List (List UInt8 × List UInt8)} (h : AttIn w S v l) : ∃ a n c, v = .slice a n c := by
  obtain ⟨a, c, h1, _⟩ := h
  exact ⟨a, _, c, h1⟩
theorem RowIn.any {w : World} {S : Nat → Prop} {v : Value} {rows : List Nr} (h : RowIn w S v rows) : RowIn w Any v rows := h.keep (Keeps.refl Non w) (fun _ _ h => h) (fun _ _ => trivial)
theorem NodesIn.any {w : World} {S : Nat → Prop} {rows : List Nr} {ks : List Tr} (h : NodesIn w S rows ks) : NodesIn w Any rows ks := h.keep (Keeps.refl Non w) (fun _ _ h => h) (fun _ _ => trivial)
theorem elements_any {w0 w : World} (hb : Below w0.heap.size w0 w) {v : Value} {rows : List Nr} {ks : List Tr} (h : RowIn w0 Any v rows) (hn : NodesIn w0 Any rows ks) (hmx : ks.length ≤ 1000000) : Calls Tryz.prog 76 #[v] w (fun e w' => ∃ ps, PtrsIn w0 Any ps (elemL ks) ∧ ElemsOut w ps e w') := by
  have hk := h.keep (S' := Any) (keeps_below hb Non) (fun _ _ h => h) (fun _ h => h)
  obtain ⟨a, c, rfl, hc, hm, hz, hr⟩ := h
  rcases hr with h0 | ⟨b, o, rfl, hS, hcell⟩
  · subst h0
    have h1 : ks = [] := List.length_eq_zero_iff.1 hn.1.symm
    subst h1
    exact (elements_nil w a c).mono (fun e w' h => ⟨[], trivial, h⟩)
  · exact (elements_calls (S := Any) hk (by rw [hn.1]; exact hmx)).mono (fun e w' h => ⟨_, elemPs_in hS hn hcell, h⟩)
theorem PRow.append_nil {w : World} {n0 : Nat} {v : Value} {ps : List Addr} (h : PRow w n0 v ps) : ∀ ty, (Builtin.append_ #[50, 50] ty #[v, .slice none 0 0]).run Tryz.prog w = .ok v w := append_any_none (w := w) Tryz.underlying50 infoP h.row

end Go.Proofs.YtocnedpclllbhaaGreatDoor
