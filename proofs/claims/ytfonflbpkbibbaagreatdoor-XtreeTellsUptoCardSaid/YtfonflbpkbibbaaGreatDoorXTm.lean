/-
  Attributes in a slice of the call's own, and append to it. Conditions: the slices lead to what they are said to; they are no longer than 2 to the 20. Attributes in memory, and whether two rows of them are the same, told by the reference. Condition: the slices lead to what they are said to. Trees in memory: nodes in a row, each with its attributes and its children; a tree that grows: open elements within one another, each the last one of its row. Condition: the slices lead to what they are said to.
-/
import Derived.Test.YtfonflbpkbibbaaGreatDoorXS
import Derived.Test.YtfonflbpkbibbaaGreatDoorXPf
import Derived.Maps.AppendAt
import Derived.Lib.AppendZerosOnto
import Derived.Lib.SliceRun
import Derived.Test.YtfonflbpkbibbaaGreatDoorXN
import Derived.Test.YtfonflbpkbibbaaGreatDoorXTr
namespace Go.Proofs.YtfonflbpkbibbaaGreatDoor
open Go.RowKit Go.Lib Go.Joins

theorem ownsRow_keep {w w' : World} {O : Nat → Prop} {base e size n : Nat} {v : Value} {xs : List Value} (h : w.ownsRow base e size v n xs) (hk : Keeps O w w') (hb : ∀ k, v.ownBlock = some k → ¬ O k) : w'.ownsRow base e size v n xs := by
  refine ⟨h.1, ?_⟩
  rcases h.2 with hn | ⟨g, cap, cur, rfl, h1, h2, h3⟩
  · exact .inl hn
  · exact .inr ⟨g, cap, cur, rfl, h1, (hk.block g (lt_of_block h2) (hb g rfl)).trans h2, h3⟩

/-- append, as one step. -/
theorem step_append {P : Program} {ops : Array Oper} {o : Oper} {a : Act} {w w' : World} {K : Act → World → Prop} {Q : Exit → Act → World → Prop} {E : Prop}
    (hg : o.guard = none) (s x : Operand) (t t' : TypeId) (hop : o.op = Op.call { callee := Callee.builtin Builtin.append, args := #[s, x], argTypes := #[t, t'] })
    (vs vx v : Value) (hs : a.eval s = vs) (hx : a.eval x = vx) (hrun : ∀ ty, (Builtin.append_ #[t, t'] ty #[vs, vx]).run P w = .ok v w') (hK : K (a.put o.dst v) w') :
    if Region.wanted o (yielded ops a.tmps) = true then Oper.wp P o a w K Q else E := by
  have hw : Region.wanted o (yielded ops a.tmps) = true := by simp [Region.wanted, hg]
  rw [if_pos hw]
  unfold Oper.wp
  simp [execOp, hop, resolve, invoke, builtin, hs, hx, hrun o.type, Result.andThen]
  exact hK

/-- .. where what it makes is known first. -/
theorem step_app {P : Program} {ops : Array Oper} {o : Oper} {a : Act} {w w' : World} {K : Act → World → Prop} {Q : Exit → Act → World → Prop} {E : Prop} {t t' : TypeId} {vs vx v : Value}
    (hrun : ∀ ty, (Builtin.append_ #[t, t'] ty #[vs, vx]).run P w = .ok v w') (s x : Operand) (hg : o.guard = none) (hop : o.op = Op.call { callee := Callee.builtin Builtin.append, args := #[s, x], argTypes := #[t, t'] })
    (hs : a.eval s = vs) (hx : a.eval x = vx) (hK : K (a.put o.dst v) w') :
    if Region.wanted o (yielded ops a.tmps) = true then Oper.wp P o a w K Q else E := step_append hg s x t t' hop vs vx v hs hx hrun hK

theorem append_any {w : World} {t e size bytes : Nat} {z : Value} (ht : Tryz.prog.underlying t = some (.slice e)) (hinfo : (Tryz.prog.info? e).map (fun i => (i.zero, i.size, i.bytes)) = some (some z, size, bytes)) (hzs : z.cells.size = size) (hsz : 0 < size)
    {v : Value} {n : Nat} {xs : List Value} (hown : w.ownsRow 0 e size v n xs) {b : Addr} {m c : Nat} {news : List Value} (hl : news.length = m * size) (hnews : ∀ j u, news[j]? = some u → w.cell? (b.add j) = some u) (h1 : ∀ u ∈ news, u.oneCell' = true)
    (hmx : n + m ≤ maxLen) (hbytes : (n + m) * bytes ≤ 140737488355328) :
    ∃ v' w', (∀ ty, (Builtin.append_ #[t, t] ty #[v, .slice (some b) m c]).run Tryz.prog w = .ok v' w') ∧ w'.ownsRow 0 e size v' (n + m) (xs ++ news) ∧ w.grownBy w' v.ownBlock ∧ ∀ k, v'.ownBlock = some k → v.ownBlock = some k ∨ w.heap.size ≤ k := by
  obtain ⟨i5, hi5, hj50, hj51, hj52⟩ := info_parts hinfo
  obtain ⟨v', w', hrun, h2, h3, h4⟩ := run_append_own (P := Tryz.prog) w 0 t t e i5 z size bytes ht hi5 hj50 hj51 hj52 hzs hsz v n xs hown b m c news hl hnews h1 hmx hbytes (Nat.zero_le _)
  refine ⟨v', w', fun ty => ?_, h2, h3, ?_⟩
  · rw [← hrun]
    rfl
  · subst hj51
    have h63 : n + m ≤ 9223372036854775807 := by simp only [maxLen] at hmx; omega
    rcases hown.2 with ⟨rfl, rfl⟩ | ⟨g, cap, cur, rfl, hbg, hg, hnc, hcm, hcs, htake⟩
    · by_cases hm : m = 0
      · intro k hk
        have := h4.2 ⟨rfl, hm⟩
        rw [this] at hk
        cases hk
      · have hr2 := run_append_nil (P := Tryz.prog) w t t e i5 z ht hi5 hj50 b m c news hl hnews (by omega) (by omega) (by rw [hj52]; rw [Nat.zero_add] at hbytes; omega)
        rw [hr2] at hrun
        have e := (Result.ok.inj hrun).1
        intro k hk
        rw [← e] at hk
        have : w.heap.size = k := Option.some.inj hk
        exact .inr (by omega)
    · by_cases hroom : n + m ≤ cap
      · have hfit : n * i5.size + news.length ≤ cur.size := by rw [hl, hcs, ← Nat.add_mul]; exact Nat.mul_le_mul_right _ hroom
        have hr2 := run_append_room (P := Tryz.prog) w t t e i5 ht hi5 g n cap cur hg b m c news hl hnews h1 hroom hfit
        rw [hr2] at hrun
        have e := (Result.ok.inj hrun).1
        intro k hk
        rw [← e] at hk
        exact .inl hk
      · have holds : ∀ j u, xs[j]? = some u → w.cell? ((⟨g, 0, none⟩ : Addr).add j) = some u := hown.cells (g := g) rfl
        have hr2 := run_append_grow (P := Tryz.prog) w t t e i5 z ht hi5 hj50 ⟨g, 0, none⟩ n cap xs hown.1 holds b m c news hl hnews (by omega) (by omega) (growslice_fits (by omega) (by rw [hj52]; exact hbytes))
        rw [hr2] at hrun
        have e := (Result.ok.inj hrun).1
        intro k hk
        rw [← e] at hk
        have : w.heap.size = k := Option.some.inj hk
        exact .inr (by omega)

theorem append_any_none {w : World} {t e size : Nat} {z : Value} {bytes : Nat} (ht : Tryz.prog.underlying t = some (.slice e)) (hinfo : (Tryz.prog.info? e).map (fun i => (i.zero, i.size, i.bytes)) = some (some z, size, bytes))
    {v : Value} {n : Nat} {xs : List Value} (hown : w.ownsRow 0 e size v n xs) : ∀ ty, (Builtin.append_ #[t, t] ty #[v, .slice none 0 0]).run Tryz.prog w = .ok v w := by
  obtain ⟨i5, hi5, hj50, hj51, hj52⟩ := info_parts hinfo
  intro ty
  exact run_append_owned_none (P := Tryz.prog) (w := w) 0 t ty e i5 size ht hi5 v n xs hown

/-- An attribute's cells. -/
def attC (x : List UInt8 × List UInt8) : List Value := [.string (strB x.1), .string (strB x.2)]
def attsC : List (List UInt8 × List UInt8) → List Value
  | [] => []
  | x :: t => .string (strB x.1) :: .string (strB x.2) :: attsC t
theorem attsC_app : ∀ (l m : List (List UInt8 × List UInt8)), attsC (l ++ m) = attsC l ++ attsC m
  | [], _ => rfl
  | x :: t, m => by rw [List.cons_append]; show _ :: _ :: attsC (t ++ m) = _; rw [attsC_app t m]; rfl
theorem attsC_len : ∀ l : List (List UInt8 × List UInt8), (attsC l).length = l.length * 2
  | [] => rfl
  | x :: t => by show (attsC t).length + 1 + 1 = _; rw [attsC_len t, List.length_cons]; omega
theorem attsC_at : ∀ {l : List (List UInt8 × List UInt8)} {i : Nat} {x : List UInt8 × List UInt8}, l[i]? = some x → (attsC l)[i * 2]? = some (.string (strB x.1)) ∧ (attsC l)[i * 2 + 1]? = some (.string (strB x.2))
  | [], _, _, h => by simp at h
  | y :: t, 0, x, h => by
    obtain rfl : y = x := by simpa using h
    exact ⟨rfl, rfl⟩
  | y :: t, i + 1, x, h => by
    rw [List.getElem?_cons_succ] at h
    obtain ⟨h1, h2⟩ := attsC_at h
    rw [show (i + 1) * 2 = i * 2 + 1 + 1 by omega]
    exact ⟨h1, h2⟩
theorem attsC_one : ∀ {l : List (List UInt8 × List UInt8)} {u : Value}, u ∈ attsC l → u.oneCell' = true
  | [], _, h => by cases h
  | x :: t, u, h => by
    have h2 : u = .string (strB x.1) ∨ u = .string (strB x.2) ∨ u ∈ attsC t := by
      have : u ∈ (.string (strB x.1) :: .string (strB x.2) :: attsC t : List Value) := h
      simpa using this
    rcases h2 with rfl | rfl | h2
    · rfl
    · rfl
    · exact attsC_one h2

theorem infoA : (Tryz.prog.info? 52).map (fun i => (i.zero, i.size, i.bytes)) = some (some (.agg #[.string ⟨#[]⟩, .string ⟨#[]⟩]), 2, 32) := by kernel_rfl

/-- Attributes in a slice that was made since n0. -/
structure OwnA (n0 : Nat) (w : World) (v : Value) (l : List (List UInt8 × List UInt8)) : Prop where
  row : w.ownsRow 0 52 2 v l.length (attsC l)
  new : ∀ k, v.ownBlock = some k → n0 ≤ k
theorem OwnA.nil (n0 : Nat) (w : World) : OwnA n0 w (.slice none 0 0) [] := ⟨World.ownsRow_nil _ _ _ _, (fun k e => by cases e)⟩
theorem OwnA.keep {n0 : Nat} {w w' : World} {O : Nat → Prop} {v : Value} {l : List (List UInt8 × List UInt8)} (h : OwnA n0 w v l) (hk : Keeps O w w') (hO : ∀ k, n0 ≤ k → ¬ O k) : OwnA n0 w' v l :=
  ⟨ownsRow_keep h.row hk (fun k e => hO k (h.new k e)), h.new⟩
theorem OwnA.lt {n0 : Nat} {w : World} {v : Value} {l : List (List UInt8 × List UInt8)} (h : OwnA n0 w v l) : ∀ k, v.ownBlock = some k → k < w.heap.size := fun k e => (h.row.lt k e).2
theorem OwnA.older {n0 n1 : Nat} {w : World} {v : Value} {l : List (List UInt8 × List UInt8)} (h : OwnA n1 w v l) (hn : n0 ≤ n1) : OwnA n0 w v l := ⟨h.row, fun k e => Nat.le_trans hn (h.new k e)⟩
theorem OwnA.form {n0 : Nat} {w : World} {v : Value} {l : List (List UInt8 × List UInt8)} (h : OwnA n0 w v l) : ∃ a c, v = .slice a l.length c ∧ l.length ≤ c ∧ c ≤ maxLen ∧ (l = [] ∨ ∃ b, a = some ⟨b, 0, none⟩ ∧ v.ownBlock = some b ∧ ∀ (i : Nat) (x : List UInt8 × List UInt8), l[i]? = some x → w.cell? ⟨b, i * 2, none⟩ = some (.string (strB x.1)) ∧ w.cell? ⟨b, i * 2 + 1, none⟩ = some (.string (strB x.2))) := by
  rcases h.row.2 with ⟨h1, h0⟩ | ⟨g, cap, cur, h1, hg, hgb, hcap, hcm, hcur, htk⟩
  · exact ⟨none, 0, by rw [h1, h0], by omega, Nat.zero_le _, .inl (List.length_eq_zero_iff.1 h0)⟩
  · refine ⟨_, cap, h1, hcap, hcm, .inr ⟨g, rfl, by rw [h1]; rfl, fun i x hx => ?_⟩⟩
    have hc := h.row.cells (g := g) (by rw [h1]; rfl)
    obtain ⟨x1, x2⟩ := attsC_at hx
    have y1 := hc _ _ x1
    have y2 := hc _ _ x2
    rw [Addr.add_mid, Nat.zero_add] at y1 y2
    exact ⟨y1, y2⟩
theorem newA_cells (w : World) (l : List Value) (t : TypeId) : ∀ (j : Nat) (x : Value), l[j]? = some x → (w.alloc (.cells l.toArray t)).cell? ((⟨w.heap.size, 0, none⟩ : Addr).add j) = some x := by
  intro j x hj
  rw [Addr.add_mid, Nat.zero_add, World.cell?_alloc_mark w l.toArray t (0, 0) j, List.getElem?_toArray, hj]
/-- One more attribute, laid out in a literal. -/
theorem OwnA.append {n0 : Nat} {w : World} {v : Value} {l : List (List UInt8 × List UInt8)} (h : OwnA n0 w v l) (x : List UInt8 × List UInt8) (hn : n0 ≤ w.heap.size) (hs : l.length ≤ 1000000) :
    ∃ v' w', (∀ ty, (Builtin.append_ #[25, 25] ty #[v, .slice (some ⟨w.heap.size, 0, none⟩) 1 1]).run Tryz.prog (w.alloc (.cells #[.string (strB x.1), .string (strB x.2)] 52)) = .ok v' w') ∧ OwnA n0 w' v' (l ++ [x]) ∧ Keeps (fun k => v.ownBlock = some k) w w' := by
  obtain ⟨v', w', h1, h2, h3, h4⟩ := append_any (w := w.alloc (.cells #[.string (strB x.1), .string (strB x.2)] 52)) Tryz.underlying25 infoA rfl (by decide) (h.row.alloc _) (b := ⟨w.heap.size, 0, none⟩) (m := 1) (c := 1) (news := attsC [x]) rfl (newA_cells w (attsC [x]) _)
    (fun u hu => attsC_one hu) (by unfold maxLen; omega) (by omega)
  have hk : Keeps (fun k => v.ownBlock = some k) w w' := ((Keeps.refl _ w).alloc _).grown h3 (fun k e => .inl e)
  refine ⟨v', w', h1, ⟨by rw [List.length_append, attsC_app]; exact h2, fun k e => ?_⟩, hk⟩
  rcases h4 k e with h5 | h5
  · exact h.new k h5
  · simp at h5; omega

end Go.Proofs.YtfonflbpkbibbaaGreatDoor
namespace Go.Proofs.YtfonflbpkbibbaaGreatDoor
open Go.RowKit Go.Lib Go.Joins

/-- A slice of attributes in memory, in blocks that S has. -/
def AttIn (w : World) (S : Nat → Prop) (v : Value) (l : List (List UInt8 × List UInt8)) : Prop :=
  ∃ a c, v = .slice a l.length c ∧ l.length ≤ c ∧ c ≤ maxLen ∧ (a = none → c = 0) ∧ (l = [] ∨ ∃ b o, a = some ⟨b, o, none⟩ ∧ S b ∧ ∀ (i : Nat) (x : List UInt8 × List UInt8), l[i]? = some x → w.cell? ⟨b, o + i * 2, none⟩ = some (.string (strB x.1)) ∧ w.cell? ⟨b, o + i * 2 + 1, none⟩ = some (.string (strB x.2)))
theorem strB_inj {a b : List UInt8} (h : strB a = strB b) : a = b := by
  have := congrArg (fun z : ByteArray => z.data.toList) h
  simpa [strB] using this
theorem bytes_ne {a b : ByteArray} (h : a ≠ b) : (a.toList == b.toList) = false := by
  rw [beq_eq_false_iff_ne, ByteArray.toList_eq, ByteArray.toList_eq]
  exact fun e => h (ByteArray.ext (Array.toList_inj.1 e))
set_option maxRecDepth 100000 in
set_option maxHeartbeats 2000000 in
theorem attrs9_calls {w : World} {S1 S2 : Nat → Prop} {v1 v2 : Value} {l1 l2 : List (List UInt8 × List UInt8)} (h1 : AttIn w S1 v1 l1) (h2 : AttIn w S2 v2 l2) : Calls Tryz.prog 48 #[v1, v2] w (Leaves (.bool (decide (l1 = l2))) w) := by
  obtain ⟨a1, c1, rfl, hc1, hm1, hn1, hr1⟩ := h1
  obtain ⟨a2, c2, rfl, hc2, hm2, hn2, hr2⟩ := h2
  obtain ⟨Q, hQ⟩ : ∃ Q, decide (l1 = l2) = Q := ⟨_, rfl⟩
  rw [hQ]
  obtain ⟨n1, hl1⟩ : ∃ n, l1.length = n := ⟨_, rfl⟩
  obtain ⟨n2, hl2⟩ : ∃ n, l2.length = n := ⟨_, rfl⟩
  rw [hl1, hl2]
  by_cases hne : n1 = n2
  · subst hne
    have HQ : Hid (Q = decide (l1.drop 0 = l2.drop 0)) := Lib.hid (by rw [List.drop_zero, List.drop_zero]; exact hQ.symm)
    have H1 := Lib.hid hr1
    have H2 := Lib.hid hr2
    have HL1 := Lib.hid hl1
    have HL2 := Lib.hid hl2
    have hne2 : ((n1 : Int) != (n1 : Int)) = false := by simp
    have HMX : Hid (n1 ≤ maxLen) := Lib.hid (by omega)
    clear hQ hr1 hr2 hl1 hl2 hc1 hc2 hm1 hm2 hn1 hn2
    go_enter Tryz.func48, Tryz.ntmps48
    go_wp2_with fail
    go_loopg [5] n1 (fun g s wr => ∃ i : Nat, s = .int .i64 (i : Int) ∧ g + i = n1 ∧ Q = decide (l1.drop i = l2.drop i) ∧ Below w.heap.size w wr)
    case atStart => exact ⟨0, rfl, rfl, HQ.out, Below.refl _ _⟩
    case round =>
      obtain ⟨i, rfl, hg, hq, hb⟩ := hrel
      have HQ2 := Lib.hid hq
      have HB := Lib.hid hb
      clear hq hb HQ
      cases gk with
      | zero =>
        obtain rfl : i = n1 := by omega
        have hge : ¬ ((i : Int) < (i : Int)) := by omega
        have HF : Hid (Q = true) := Lib.hid (by rw [HQ2.out, List.drop_eq_nil_of_le (by have := HL1.out; omega), List.drop_eq_nil_of_le (by have := HL2.out; omega)]; rfl)
        go_wp2_with fail
        go_ret
        exact ⟨by rw [HF.out]; rfl, HB.out⟩
      | succ g =>
        have hlt : (i : Int) < (n1 : Int) := by omega
        have hi0 : (0 : Int) ≤ (i : Int) := by omega
        obtain ⟨x1, hx1⟩ : ∃ x, l1[i]? = some x := ⟨_, List.getElem?_eq_getElem (by have := HL1.out; omega)⟩
        obtain ⟨x2, hx2⟩ : ∃ x, l2[i]? = some x := ⟨_, List.getElem?_eq_getElem (by have := HL2.out; omega)⟩
        have hd1 : l1.drop i = x1 :: l1.drop (i + 1) := by
          rw [List.drop_eq_getElem_cons (by have := HL1.out; omega)]
          rw [List.getElem?_eq_getElem (by have := HL1.out; omega)] at hx1
          rw [Option.some.inj hx1]
        have hd2 : l2.drop i = x2 :: l2.drop (i + 1) := by
          rw [List.drop_eq_getElem_cons (by have := HL2.out; omega)]
          rw [List.getElem?_eq_getElem (by have := HL2.out; omega)] at hx2
          rw [Option.some.inj hx2]
        rcases H1.out with h0 | ⟨b1, o1, rfl, _, hcell1⟩
        · rw [h0] at hx1; simp at hx1
        rcases H2.out with h0 | ⟨b2, o2, rfl, _, hcell2⟩
        · rw [h0] at hx2; simp at hx2
        obtain ⟨y1, y2⟩ := hcell1 i x1 hx1
        obtain ⟨z1, z2⟩ := hcell2 i x2 hx2
        replace y1 := (HB.out.cell (lt_of_cell y1)).trans y1
        replace y2 := (HB.out.cell (lt_of_cell y2)).trans y2
        replace z1 := (HB.out.cell (lt_of_cell z1)).trans z1
        replace z2 := (HB.out.cell (lt_of_cell z2)).trans z2
        obtain ⟨s1, hs1⟩ : ∃ s, strB x1.1 = s := ⟨_, rfl⟩
        obtain ⟨t1, ht1⟩ : ∃ s, strB x1.2 = s := ⟨_, rfl⟩
        obtain ⟨s2, hs2⟩ : ∃ s, strB x2.1 = s := ⟨_, rfl⟩
        obtain ⟨t2, ht2⟩ : ∃ s, strB x2.2 = s := ⟨_, rfl⟩
        rw [hs1] at y1
        rw [ht1] at y2
        rw [hs2] at z1
        rw [ht2] at z2
        clear hcell1 hcell2 hx1 hx2
        by_cases hs : s1 = s2
        · by_cases ht : t1 = t2
          · subst hs
            subst ht
            have hadd : IntKind.i64.wrap ((i : Int) + 1) = ((i + 1 : Nat) : Int) := IntWalk.i64_in _ (by have := HMX.out; unfold maxLen at this; omega)
            have HN : Hid (Q = decide (l1.drop (i + 1) = l2.drop (i + 1))) := Lib.hid (by
              have hx : x1 = x2 := Prod.ext (strB_inj (hs1.trans hs2.symm)) (strB_inj (ht1.trans ht2.symm))
              rw [HQ2.out, hd1, hd2, hx]
              simp only [List.cons.injEq, true_and])
            clear hs1 hs2 ht1 ht2 hd1 hd2 HQ2
            go_wp2_with fail
            go_quiet (fail)
            go_wp2_with fail
            go_roundg g
            case measure => omega
            case rel => exact ⟨i + 1, rfl, by omega, HN.out, below_drewNv HB.out _⟩
          · have HF : Hid (Q = false) := Lib.hid (by
              rw [HQ2.out, hd1, hd2, decide_eq_false_iff_not]
              intro h
              injection h with h _
              exact ht (by rw [← ht1, ← ht2, h]))
            have hte : (t1.toList == t2.toList) = false := bytes_ne ht
            subst hs
            clear hs1 hs2 ht1 ht2 hd1 hd2 HQ2 ht
            go_wp2_with fail
            go_quiet (fail)
            go_wp2_with fail
            go_ret
            exact ⟨by rw [HF.out]; rfl, below_drewNv HB.out _⟩
        · have HF : Hid (Q = false) := Lib.hid (by
            rw [HQ2.out, hd1, hd2, decide_eq_false_iff_not]
            intro h
            injection h with h _
            exact hs (by rw [← hs1, ← hs2, h]))
          have hse : (s1.toList == s2.toList) = false := bytes_ne hs
          clear hs1 hs2 ht1 ht2 hd1 hd2 HQ2 hs
          go_wp2_with fail
          go_quiet (fail)
          go_wp2_with fail
          go_ret
          exact ⟨by rw [HF.out]; rfl, below_drewNv HB.out _⟩
  · have HF : Hid (Q = false) := Lib.hid (by
      rw [← hQ, decide_eq_false_iff_not]
      intro h
      exact hne (by rw [← hl1, ← hl2, h]))
    have hne2 : ((n1 : Int) != (n2 : Int)) = true := by rw [bne_iff_ne]; omega
    clear hQ hr1 hr2 hl1 hl2 hc1 hc2 hm1 hm2 hn1 hn2 hne
    go_enter Tryz.func48, Tryz.ntmps48
    go_wp2_with fail
    go_ret
    exact ⟨by rw [HF.out]; rfl, Below.refl _ _⟩
end Go.Proofs.YtfonflbpkbibbaaGreatDoor
namespace Go.Proofs.YtfonflbpkbibbaaGreatDoor
open Go.RowKit Go.Lib Go.Joins

/-- A node's own cells. -/
structure Nr where
  kind : Int
  name : List UInt8
  text : List UInt8
  av : Value
  kv : Value
def nrC : List Nr → List Value
  | [] => []
  | x :: t => .int .i64 (x.kind : Int) :: .string (strB x.name) :: .string (strB x.text) :: x.av :: x.kv :: nrC t
theorem nrC_app : ∀ (l m : List Nr), nrC (l ++ m) = nrC l ++ nrC m
  | [], _ => rfl
  | x :: t, m => by rw [List.cons_append]; show _ :: _ :: _ :: _ :: _ :: nrC (t ++ m) = _; rw [nrC_app t m]; rfl
theorem nrC_len : ∀ l : List Nr, (nrC l).length = l.length * 5
  | [] => rfl
  | x :: t => by show (nrC t).length + 1 + 1 + 1 + 1 + 1 = _; rw [nrC_len t, List.length_cons]; omega
theorem nrC_at : ∀ {l : List Nr} {i : Nat} {x : Nr}, l[i]? = some x → (nrC l)[i * 5]? = some (.int .i64 (x.kind : Int)) ∧ (nrC l)[i * 5 + 1]? = some (.string (strB x.name)) ∧ (nrC l)[i * 5 + 2]? = some (.string (strB x.text)) ∧ (nrC l)[i * 5 + 3]? = some x.av ∧ (nrC l)[i * 5 + 4]? = some x.kv
  | [], _, _, h => by simp at h
  | y :: t, 0, x, h => by
    obtain rfl : y = x := by simpa using h
    exact ⟨rfl, rfl, rfl, rfl, rfl⟩
  | y :: t, i + 1, x, h => by
    rw [List.getElem?_cons_succ] at h
    obtain ⟨h1, h2, h3, h4, h5⟩ := nrC_at h
    rw [show (i + 1) * 5 = i * 5 + 1 + 1 + 1 + 1 + 1 by omega]
    exact ⟨h1, h2, h3, h4, h5⟩
/-- A node's cells at a place. -/
def NrIn (w : World) (b p : Nat) (x : Nr) : Prop :=
  w.cell? ⟨b, p, none⟩ = some (.int .i64 (x.kind : Int)) ∧ w.cell? ⟨b, p + 1, none⟩ = some (.string (strB x.name)) ∧ w.cell? ⟨b, p + 2, none⟩ = some (.string (strB x.text)) ∧ w.cell? ⟨b, p + 3, none⟩ = some x.av ∧ w.cell? ⟨b, p + 4, none⟩ = some x.kv
/-- A slice of nodes' cells. -/
def RowIn (w : World) (S : Nat → Prop) (v : Value) (l : List Nr) : Prop :=
  ∃ a c, v = .slice a l.length c ∧ l.length ≤ c ∧ c ≤ maxLen ∧ (a = none → c = 0) ∧ (l = [] ∨ ∃ b o, a = some ⟨b, o, none⟩ ∧ S b ∧ ∀ (i : Nat) (x : Nr), l[i]? = some x → NrIn w b (o + i * 5) x)
/-- A node with all that lies in it. -/
inductive NodeIn (w : World) (S : Nat → Prop) : Nr → Tr → Prop
  | mk (r : Nr) (attrs : List (List UInt8 × List UInt8)) (kids : List Tr) (rows : List Nr) (ha : AttIn w S r.av attrs) (hk : RowIn w S r.kv rows) (hl : rows.length = kids.length) (h : ∀ (i : Nat) (x : Nr) (t : Tr), rows[i]? = some x → kids[i]? = some t → NodeIn w S x t) : NodeIn w S r (.mk r.kind r.name r.text attrs kids)
/-- Nodes with all that lies in them. -/
def NodesIn (w : World) (S : Nat → Prop) (rows : List Nr) (ks : List Tr) : Prop :=
  rows.length = ks.length ∧ ∀ (i : Nat) (x : Nr) (t : Tr), rows[i]? = some x → ks[i]? = some t → NodeIn w S x t

theorem cell_keep {w w' : World} {O : Nat → Prop} {b p : Nat} {v : Value} (h : w.cell? ⟨b, p, none⟩ = some v) (hk : Keeps O w w') (hb : ¬ O b) : w'.cell? ⟨b, p, none⟩ = some v :=
  (World.cell?_of_block (hk.block b (lt_of_cell h) hb)).trans h
theorem NrIn.keep {w w' : World} {O : Nat → Prop} {b p : Nat} {x : Nr} (h : NrIn w b p x) (hk : Keeps O w w') (hb : ¬ O b) : NrIn w' b p x :=
  ⟨cell_keep h.1 hk hb, cell_keep h.2.1 hk hb, cell_keep h.2.2.1 hk hb, cell_keep h.2.2.2.1 hk hb, cell_keep h.2.2.2.2 hk hb⟩
theorem AttIn.keep {w w' : World} {S S' O : Nat → Prop} {v : Value} {l : List (List UInt8 × List UInt8)} (h : AttIn w S v l) (hk : Keeps O w w') (hS : ∀ k, S k → ¬ O k) (hs : ∀ k, S k → S' k) : AttIn w' S' v l := by
  obtain ⟨a, c, h1, h2, h3, h4, h5⟩ := h
  refine ⟨a, c, h1, h2, h3, h4, ?_⟩
  rcases h5 with h5 | ⟨b, o, h6, h7, h8⟩
  · exact .inl h5
  · exact .inr ⟨b, o, h6, hs b h7, fun i x hx => ⟨cell_keep (h8 i x hx).1 hk (hS b h7), cell_keep (h8 i x hx).2 hk (hS b h7)⟩⟩
theorem RowIn.keep {w w' : World} {S S' O : Nat → Prop} {v : Value} {l : List Nr} (h : RowIn w S v l) (hk : Keeps O w w') (hS : ∀ k, S k → ¬ O k) (hs : ∀ k, S k → S' k) : RowIn w' S' v l := by
  obtain ⟨a, c, h1, h2, h3, h4, h5⟩ := h
  refine ⟨a, c, h1, h2, h3, h4, ?_⟩
  rcases h5 with h5 | ⟨b, o, h6, h7, h8⟩
  · exact .inl h5
  · exact .inr ⟨b, o, h6, hs b h7, fun i x hx => (h8 i x hx).keep hk (hS b h7)⟩
theorem NodeIn.keep {w w' : World} {S S' O : Nat → Prop} {r : Nr} {t : Tr} (h : NodeIn w S r t) (hk : Keeps O w w') (hS : ∀ k, S k → ¬ O k) (hs : ∀ k, S k → S' k) : NodeIn w' S' r t := by
  induction h with
  | mk r attrs kids rows ha hr hl _ ih => exact .mk r attrs kids rows (ha.keep hk hS hs) (hr.keep hk hS hs) hl ih
theorem NodesIn.keep {w w' : World} {S S' O : Nat → Prop} {rows : List Nr} {ks : List Tr} (h : NodesIn w S rows ks) (hk : Keeps O w w') (hS : ∀ k, S k → ¬ O k) (hs : ∀ k, S k → S' k) : NodesIn w' S' rows ks :=
  ⟨h.1, fun i x t hx ht => (h.2 i x t hx ht).keep hk hS hs⟩
theorem NodesIn.nil (w : World) (S : Nat → Prop) : NodesIn w S [] [] := ⟨rfl, fun i _ _ h => by simp at h⟩
theorem NodesIn.snoc {w : World} {S : Nat → Prop} {rows : List Nr} {ks : List Tr} (h : NodesIn w S rows ks) {r : Nr} {t : Tr} (hn : NodeIn w S r t) : NodesIn w S (rows ++ [r]) (ks ++ [t]) := by
  refine ⟨by simp [h.1], fun i x y hx hy => ?_⟩
  by_cases hi : i < rows.length
  · rw [List.getElem?_append_left hi] at hx
    rw [List.getElem?_append_left (by rw [← h.1]; exact hi)] at hy
    exact h.2 i x y hx hy
  · rw [List.getElem?_append_right (by omega)] at hx
    rw [List.getElem?_append_right (by rw [← h.1]; omega), ← h.1] at hy
    cases hj : i - rows.length with
    | zero =>
      rw [hj] at hx hy
      cases hx
      cases hy
      exact hn
    | succ j => rw [hj] at hx; simp at hx
theorem NodeIn.kids {w : World} {S : Nat → Prop} {r : Nr} {t : Tr} (h : NodeIn w S r t) : r.kind = t.kind ∧ r.name = t.name ∧ r.text = t.text ∧ AttIn w S r.av t.attrs ∧ ∃ rows, RowIn w S r.kv rows ∧ NodesIn w S rows t.kids := by
  cases h with
  | mk r attrs kids rows ha hr hl h => exact ⟨rfl, rfl, rfl, ha, rows, hr, hl, h⟩
theorem RowIn.nil (w : World) (S : Nat → Prop) : RowIn w S (.slice none 0 0) [] := ⟨none, 0, rfl, Nat.le_refl _, Nat.zero_le _, fun _ => rfl, .inl rfl⟩
theorem AttIn.nil (w : World) (S : Nat → Prop) : AttIn w S (.slice none 0 0) [] := ⟨none, 0, rfl, Nat.le_refl _, Nat.zero_le _, fun _ => rfl, .inl rfl⟩
/-- A node without children. -/
theorem NodeIn.leaf {w : World} {S : Nat → Prop} {k : Int} {n t : List UInt8} {av : Value} {ats : List (List UInt8 × List UInt8)} (ha : AttIn w S av ats) : NodeIn w S ⟨k, n, t, av, .slice none 0 0⟩ (.mk k n t ats []) :=
  .mk ⟨k, n, t, av, .slice none 0 0⟩ ats [] [] ha (RowIn.nil w S) rfl (fun i _ _ h => by simp at h)
theorem infoN : (Tryz.prog.info? 27).map (fun i => (i.zero, i.size, i.bytes)) = some (some (.agg #[.int .i64 0, .string ⟨#[]⟩, .string ⟨#[]⟩, .slice none 0 0, .slice none 0 0]), 5, 88) := by kernel_rfl
theorem infoP : (Tryz.prog.info? 61).map (fun i => (i.zero, i.size, i.bytes)) = some (some (.pointer none), 1, 8) := by kernel_rfl

/-- A row of nodes of the call's own. -/
structure Lv (w : World) (n0 : Nat) (v : Value) (rows : List Nr) : Prop where
  row : w.ownsRow 0 27 5 v rows.length (nrC rows)
  new : ∀ k, v.ownBlock = some k → n0 ≤ k
theorem Lv.keep {w w' : World} {O : Nat → Prop} {n0 : Nat} {v : Value} {rows : List Nr} (h : Lv w n0 v rows) (hk : Keeps O w w') (hO : ∀ k, v.ownBlock = some k → ¬ O k) : Lv w' n0 v rows := ⟨ownsRow_keep h.row hk hO, h.new⟩
theorem Lv.nil (w : World) (n0 : Nat) : Lv w n0 (.slice none 0 0) [] := ⟨World.ownsRow_nil _ _ _ _, fun _ e => by cases e⟩
theorem Lv.form {w : World} {n0 : Nat} {v : Value} {rows : List Nr} (h : Lv w n0 v rows) : ∃ a c, v = .slice a rows.length c ∧ rows.length ≤ c ∧ c ≤ maxLen ∧ ((a = none ∧ rows = [] ∧ c = 0) ∨ ∃ g, a = some ⟨g, 0, none⟩) := by
  rcases h.row.2 with ⟨h1, h0⟩ | ⟨g, cap, cur, h1, hg, hgb, hcap, hcm, hcur, htk⟩
  · exact ⟨none, 0, by rw [h1, h0], by omega, Nat.zero_le _, .inl ⟨rfl, List.length_eq_zero_iff.1 h0, rfl⟩⟩
  · exact ⟨_, cap, h1, hcap, hcm, .inr ⟨g, rfl⟩⟩
theorem Lv.cells {w : World} {n0 : Nat} {v : Value} {rows : List Nr} (h : Lv w n0 v rows) {g : Nat} (hv : v.ownBlock = some g) {i : Nat} {x : Nr} (hx : rows[i]? = some x) : NrIn w g (i * 5) x := by
  have hc := h.row.cells (g := g) hv
  obtain ⟨x1, x2, x3, x4, x5⟩ := nrC_at hx
  have y1 := hc _ _ x1
  have y2 := hc _ _ x2
  have y3 := hc _ _ x3
  have y4 := hc _ _ x4
  have y5 := hc _ _ x5
  rw [Addr.add_mid, Nat.zero_add] at y1 y2 y3 y4 y5
  exact ⟨y1, y2, y3, y4, y5⟩
theorem Lv.lt {w : World} {n0 : Nat} {v : Value} {rows : List Nr} (h : Lv w n0 v rows) : ∀ k, v.ownBlock = some k → k < w.heap.size := fun k e => (h.row.lt k e).2
theorem Lv.rowIn {w : World} {n0 : Nat} {v : Value} {rows : List Nr} (h : Lv w n0 v rows) (S : Nat → Prop) (hS : ∀ k, v.ownBlock = some k → S k) : RowIn w S v rows := by
  obtain ⟨a, c, h1, h2, h3, h4⟩ := h.form
  rcases h4 with ⟨rfl, h5, rfl⟩ | ⟨g, rfl⟩
  · exact ⟨none, 0, h1, h2, h3, fun _ => rfl, .inl h5⟩
  · refine ⟨_, c, h1, h2, h3, fun e => (by cases e), .inr ⟨g, 0, rfl, hS g (by rw [h1]; rfl), fun i x hx => ?_⟩⟩
    rw [Nat.zero_add]
    exact h.cells (by rw [h1]; rfl) hx
/-- A row's own slice. -/
def sl5 (g n c : Nat) : Value := .slice (some ⟨g, 0, none⟩) n c
/-- Elements within one another: each is the last one of its row; where each lies, and in which block its children do. -/
def Spine (w : World) (n0 : Nat) (S : Nat → Prop) : Addr → Value → List Tr → List Fr → List Addr → List (Option Nat) → Prop
  | p, v, ks, [], ps, bs => ps = [p] ∧ bs = [v.ownBlock] ∧ ∃ rows, Lv w n0 v rows ∧ NodesIn w S rows ks
  | p, v, ks, f :: fs, ps, bs => ∃ rows r g c ps' bs', ps = p :: ps' ∧ bs = some g :: bs' ∧ v = sl5 g (rows.length + 1) c ∧ Lv w n0 v (rows ++ [r]) ∧ NodesIn w S rows ks ∧ r.kind = 1 ∧ r.name = f.name ∧ r.text = [] ∧ AttIn w S r.av f.attrs ∧ Spine w n0 S ⟨g, rows.length * 5, none⟩ r.kv f.kids fs ps' bs'
/-- The last one of a list of frames (outermost first), with other children. -/
def lastKids : List Fr → List Tr → List Fr
  | [], _ => []
  | [f], ks => [⟨f.name, f.attrs, ks⟩]
  | f :: f2 :: fs, ks => f :: lastKids (f2 :: fs) ks
def Apart : List (Option Nat) → Prop
  | [] => True
  | b :: bs => (∀ k, b = some k → some k ∉ bs) ∧ Apart bs
theorem Spine.lens {w : World} {n0 : Nat} {S : Nat → Prop} : ∀ {fs : List Fr} {p : Addr} {v : Value} {ks : List Tr} {ps : List Addr} {bs : List (Option Nat)}, Spine w n0 S p v ks fs ps bs → ps.length = fs.length + 1 ∧ bs.length = fs.length + 1
  | [], _, _, _, _, _, h => by obtain ⟨rfl, rfl, _⟩ := h; exact ⟨rfl, rfl⟩
  | f :: fs, _, _, _, _, _, h => by
    obtain ⟨rows, r, g, c, ps', bs', rfl, rfl, _, _, _, _, _, _, _, h2⟩ := h
    obtain ⟨h3, h4⟩ := Spine.lens h2
    exact ⟨by rw [List.length_cons, List.length_cons, h3], by rw [List.length_cons, List.length_cons, h4]⟩
theorem Spine.keep {w w' : World} {n0 : Nat} {S S' O : Nat → Prop} : ∀ {fs : List Fr} {p : Addr} {v : Value} {ks : List Tr} {ps : List Addr} {bs : List (Option Nat)}, Spine w n0 S p v ks fs ps bs → Keeps O w w' → (∀ k, S k → ¬ O k) → (∀ k, S k → S' k) → (∀ k, some k ∈ bs → ¬ O k) → Spine w' n0 S' p v ks fs ps bs
  | [], p, v, ks, ps, bs, h, hk, hS, hs, hb => by
    obtain ⟨rfl, rfl, rows, h1, h2⟩ := h
    exact ⟨rfl, rfl, rows, h1.keep hk (fun k e => hb k (by rw [e]; exact List.mem_cons_self ..)), h2.keep hk hS hs⟩
  | f :: fs, p, v, ks, ps, bs, h, hk, hS, hs, hb => by
    obtain ⟨rows, r, g, c, ps', bs', rfl, rfl, rfl, h1, h2, h3, h4, h5, h6, h7⟩ := h
    exact ⟨rows, r, g, c, ps', bs', rfl, rfl, rfl, h1.keep hk (fun k e => hb k (by cases e; exact List.mem_cons_self ..)), h2.keep hk hS hs, h3, h4, h5, h6.keep hk hS hs, Spine.keep h7 hk hS hs (fun k e => hb k (List.mem_cons_of_mem _ e))⟩

end Go.Proofs.YtfonflbpkbibbaaGreatDoor
