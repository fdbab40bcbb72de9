/-
  Attributes in a slice of the call's own, and append to it. Conditions: the slices lead to what they are said to; they are no longer than 2 to the 20.
-/
import Derived.Test.YtemohjodihcdfaaGreatDoorXS
import Derived.Test.YtemohjodihcdfaaGreatDoorXPf
import Derived.Maps.AppendAt
import Derived.Lib.AppendZerosOnto
import Derived.Lib.SliceRun
namespace Go.Proofs.YtemohjodihcdfaaGreatDoor
open Go.RowKit Go.Lib Go.Joins

theorem ownsRow_keep {w w' : World} {O : Nat → Prop} {base e size n : Nat} {v : Value} {xs : List Value} (h : w.ownsRow base e size v n xs) (hk : Keeps O w w') (hb : ∀ k, v.ownBlock = some k → ¬ O k) : w'.ownsRow base e size v n xs := by
  refine ⟨h.1, ?_⟩
  rcases h.2 with hn | ⟨g, cap, cur, rfl, h1, h2, h3⟩
  · exact .inl hn
  · exact .inr ⟨g, cap, cur, rfl, h1, (hk.block g (lt_of_block h2) (hb g rfl)).trans h2, h3⟩

/-- append, as one step. -/
theorem step_append {P : Program} {ops : Array Oper} {o : Oper} {a : Act} {w w' : World} {K : Act → World → Prop} {Q : Exit → Act → World → Prop} {E : Prop}
    (hg : o.guard = none) (s x : Operand) (t t' : TypeId) (hop : o.op = Op.call { callee := Callee.builtin Builtin.append, args := #[s, x], argTypes := #[t, t'] })
    (vs vx v : Value) (hs : a.eval s = vs) (hx : a.eval x = vx) (hrun : ∀ ty, (Builtin.append_ #[t, t'] ty #[vs, vx]).run P w = .ok v w') (hK : K (a.put o.dst v) w') :
    if Region.wanted o (yielded ops a.tmps) = true then Oper.wp P o a w K Q else E := by
  have hw : Region.wanted o (yielded ops a.tmps) = true := by simp [Region.wanted, hg]
  rw [if_pos hw]
  unfold Oper.wp
  simp [execOp, hop, resolve, invoke, builtin, hs, hx, hrun o.type, Result.andThen]
  exact hK

/-- .. where what it makes is known first. -/
theorem step_app {P : Program} {ops : Array Oper} {o : Oper} {a : Act} {w w' : World} {K : Act → World → Prop} {Q : Exit → Act → World → Prop} {E : Prop} {t t' : TypeId} {vs vx v : Value}
    (hrun : ∀ ty, (Builtin.append_ #[t, t'] ty #[vs, vx]).run P w = .ok v w') (s x : Operand) (hg : o.guard = none) (hop : o.op = Op.call { callee := Callee.builtin Builtin.append, args := #[s, x], argTypes := #[t, t'] })
    (hs : a.eval s = vs) (hx : a.eval x = vx) (hK : K (a.put o.dst v) w') :
    if Region.wanted o (yielded ops a.tmps) = true then Oper.wp P o a w K Q else E := step_append hg s x t t' hop vs vx v hs hx hrun hK

theorem append_any {w : World} {t e size bytes : Nat} {z : Value} (ht : Tryz.prog.underlying t = some (.slice e)) (hinfo : (Tryz.prog.info? e).map (fun i => (i.zero, i.size, i.bytes)) = some (some z, size, bytes)) (hzs : z.cells.size = size) (hsz : 0 < size)
    {v : Value} {n : Nat} {xs : List Value} (hown : w.ownsRow 0 e size v n xs) {b : Addr} {m c : Nat} {news : List Value} (hl : news.length = m * size) (hnews : ∀ j u, news[j]? = some u → w.cell? (b.add j) = some u) (h1 : ∀ u ∈ news, u.oneCell' = true)
    (hmx : n + m ≤ maxLen) (hbytes : (n + m) * bytes ≤ 140737488355328) :
    ∃ v' w', (∀ ty, (Builtin.append_ #[t, t] ty #[v, .slice (some b) m c]).run Tryz.prog w = .ok v' w') ∧ w'.ownsRow 0 e size v' (n + m) (xs ++ news) ∧ w.grownBy w' v.ownBlock ∧ ∀ k, v'.ownBlock = some k → v.ownBlock = some k ∨ w.heap.size ≤ k := by
  obtain ⟨i5, hi5, hj50, hj51, hj52⟩ := info_parts hinfo
  obtain ⟨v', w', hrun, h2, h3, h4⟩ := run_append_own (P := Tryz.prog) w 0 t t e i5 z size bytes ht hi5 hj50 hj51 hj52 hzs hsz v n xs hown b m c news hl hnews h1 hmx hbytes (Nat.zero_le _)
  refine ⟨v', w', fun ty => ?_, h2, h3, ?_⟩
  · rw [← hrun]
    rfl
  · subst hj51
    have h63 : n + m ≤ 9223372036854775807 := by simp only [maxLen] at hmx; omega
    rcases hown.2 with ⟨rfl, rfl⟩ | ⟨g, cap, cur, rfl, hbg, hg, hnc, hcm, hcs, htake⟩
    · by_cases hm : m = 0
      · intro k hk
        have := h4.2 ⟨rfl, hm⟩
        rw [this] at hk
        cases hk
      · have hr2 := run_append_nil (P := Tryz.prog) w t t e i5 z ht hi5 hj50 b m c news hl hnews (by omega) (by omega) (by rw [hj52]; rw [Nat.zero_add] at hbytes; omega)
        rw [hr2] at hrun
        have e := (Result.ok.inj hrun).1
        intro k hk
        rw [← e] at hk
        have : w.heap.size = k := Option.some.inj hk
        exact .inr (by omega)
    · by_cases hroom : n + m ≤ cap
      · have hfit : n * i5.size + news.length ≤ cur.size := by rw [hl, hcs, ← Nat.add_mul]; exact Nat.mul_le_mul_right _ hroom
        have hr2 := run_append_room (P := Tryz.prog) w t t e i5 ht hi5 g n cap cur hg b m c news hl hnews h1 hroom hfit
        rw [hr2] at hrun
        have e := (Result.ok.inj hrun).1
        intro k hk
        rw [← e] at hk
        exact .inl hk
      · have holds : ∀ j u, xs[j]? = some u → w.cell? ((⟨g, 0, none⟩ : Addr).add j) = some u := hown.cells (g := g) rfl
        have hr2 := run_append_grow (P := Tryz.prog) w t t e i5 z ht hi5 hj50 ⟨g, 0, none⟩ n cap xs hown.1 holds b m c news hl hnews (by omega) (by omega) (growslice_fits (by omega) (by rw [hj52]; exact hbytes))
        rw [hr2] at hrun
        have e := (Result.ok.inj hrun).1
        intro k hk
        rw [← e] at hk
        have : w.heap.size = k := Option.some.inj hk
        exact .inr (by omega)

theorem append_any_none {w : World} {t e size : Nat} {z : Value} {bytes : Nat} (ht : Tryz.prog.underlying t = some (.slice e)) (hinfo : (Tryz.prog.info? e).map (fun i => (i.zero, i.size, i.bytes)) = some (some z, size, bytes))
    {v : Value} {n : Nat} {xs : List Value} (hown : w.ownsRow 0 e size v n xs) : ∀ ty, (Builtin.append_ #[t, t] ty #[v, .slice none 0 0]).run Tryz.prog w = .ok v w := by
  obtain ⟨i5, hi5, hj50, hj51, hj52⟩ := info_parts hinfo
  intro ty
  exact run_append_owned_none (P := Tryz.prog) (w := w) 0 t ty e i5 size ht hi5 v n xs hown

/-- An attribute's cells. -/
def attC (x : List UInt8 × List UInt8) : List Value := [.string (strB x.1), .string (strB x.2)]
def attsC : List (List UInt8 × List UInt8) → List Value
  | [] => []
  | x :: t => .string (strB x.1) :: .string (strB x.2) :: attsC t
theorem attsC_app : ∀ (l m : List (List UInt8 × List UInt8)), attsC (l ++ m) = attsC l ++ attsC m
  | [], _ => rfl
  | x :: t, m => by rw [List.cons_append]; show _ :: _ :: attsC (t ++ m) = _; rw [attsC_app t m]; rfl
theorem attsC_len : ∀ l : List (List UInt8 × List UInt8), (attsC l).length = l.length * 2
  | [] => rfl
  | x :: t => by show (attsC t).length + 1 + 1 = _; rw [attsC_len t, List.length_cons]; omega
theorem attsC_at : ∀ {l : List (List UInt8 × List UInt8)} {i : Nat} {x : List UInt8 × List UInt8}, l[i]? = some x → (attsC l)[i * 2]? = some (.string (strB x.1)) ∧ (attsC l)[i * 2 + 1]? = some (.string (strB x.2))
  | [], _, _, h => by simp at h
  | y :: t, 0, x, h => by
    obtain rfl : y = x := by simpa using h
    exact ⟨rfl, rfl⟩
  | y :: t, i + 1, x, h => by
    rw [List.getElem?_cons_succ] at h
    obtain ⟨h1, h2⟩ := attsC_at h
    rw [show (i + 1) * 2 = i * 2 + 1 + 1 by omega]
    exact ⟨h1, h2⟩
theorem attsC_one : ∀ {l : List (List UInt8 × List UInt8)} {u : Value}, u ∈ attsC l → u.oneCell' = true
  | [], _, h => by cases h
  | x :: t, u, h => by
    have h2 : u = .string (strB x.1) ∨ u = .string (strB x.2) ∨ u ∈ attsC t := by
      have : u ∈ (.string (strB x.1) :: .string (strB x.2) :: attsC t : List Value) := h
      simpa using this
    rcases h2 with rfl | rfl | h2
    · rfl
    · rfl
    · exact attsC_one h2

theorem infoA : (Tryz.prog.info? 37).map (fun i => (i.zero, i.size, i.bytes)) = some (some (.agg #[.string ⟨#[]⟩, .string ⟨#[]⟩]), 2, 32) := by kernel_rfl

/-- Attributes in a slice that was made since n0. -/
structure OwnA (n0 : Nat) (w : World) (v : Value) (l : List (List UInt8 × List UInt8)) : Prop where
  row : w.ownsRow 0 37 2 v l.length (attsC l)
  new : ∀ k, v.ownBlock = some k → n0 ≤ k
theorem OwnA.nil (n0 : Nat) (w : World) : OwnA n0 w (.slice none 0 0) [] := ⟨World.ownsRow_nil _ _ _ _, (fun k e => by cases e)⟩
theorem OwnA.keep {n0 : Nat} {w w' : World} {O : Nat → Prop} {v : Value} {l : List (List UInt8 × List UInt8)} (h : OwnA n0 w v l) (hk : Keeps O w w') (hO : ∀ k, n0 ≤ k → ¬ O k) : OwnA n0 w' v l :=
  ⟨ownsRow_keep h.row hk (fun k e => hO k (h.new k e)), h.new⟩
theorem OwnA.lt {n0 : Nat} {w : World} {v : Value} {l : List (List UInt8 × List UInt8)} (h : OwnA n0 w v l) : ∀ k, v.ownBlock = some k → k < w.heap.size := fun k e => (h.row.lt k e).2
theorem OwnA.older {n0 n1 : Nat} {w : World} {v : Value} {l : List (List UInt8 × List UInt8)} (h : OwnA n1 w v l) (hn : n0 ≤ n1) : OwnA n0 w v l := ⟨h.row, fun k e => Nat.le_trans hn (h.new k e)⟩
theorem OwnA.form {n0 : Nat} {w : World} {v : Value} {l : List (List UInt8 × List UInt8)} (h : OwnA n0 w v l) : ∃ a c, v = .slice a l.length c ∧ l.length ≤ c ∧ c ≤ maxLen ∧ (l = [] ∨ ∃ b, a = some ⟨b, 0, none⟩ ∧ v.ownBlock = some b ∧ ∀ (i : Nat) (x : List UInt8 × List UInt8), l[i]? = some x → w.cell? ⟨b, i * 2, none⟩ = some (.string (strB x.1)) ∧ w.cell? ⟨b, i * 2 + 1, none⟩ = some (.string (strB x.2))) := by
  rcases h.row.2 with ⟨h1, h0⟩ | ⟨g, cap, cur, h1, hg, hgb, hcap, hcm, hcur, htk⟩
  · exact ⟨none, 0, by rw [h1, h0], by omega, Nat.zero_le _, .inl (List.length_eq_zero_iff.1 h0)⟩
  · refine ⟨_, cap, h1, hcap, hcm, .inr ⟨g, rfl, by rw [h1]; rfl, fun i x hx => ?_⟩⟩
    have hc := h.row.cells (g := g) (by rw [h1]; rfl)
    obtain ⟨x1, x2⟩ := attsC_at hx
    have y1 := hc _ _ x1
    have y2 := hc _ _ x2
    rw [Addr.add_mid, Nat.zero_add] at y1 y2
    exact ⟨y1, y2⟩
theorem newA_cells (w : World) (l : List Value) (t : TypeId) : ∀ (j : Nat) (x : Value), l[j]? = some x → (w.alloc (.cells l.toArray t)).cell? ((⟨w.heap.size, 0, none⟩ : Addr).add j) = some x := by
  intro j x hj
  rw [Addr.add_mid, Nat.zero_add, World.cell?_alloc_mark w l.toArray t (0, 0) j, List.getElem?_toArray, hj]
/-- One more attribute, laid out in a literal. -/
theorem OwnA.append {n0 : Nat} {w : World} {v : Value} {l : List (List UInt8 × List UInt8)} (h : OwnA n0 w v l) (x : List UInt8 × List UInt8) (hn : n0 ≤ w.heap.size) (hs : l.length ≤ 1000000) :
    ∃ v' w', (∀ ty, (Builtin.append_ #[31, 31] ty #[v, .slice (some ⟨w.heap.size, 0, none⟩) 1 1]).run Tryz.prog (w.alloc (.cells #[.string (strB x.1), .string (strB x.2)] 37)) = .ok v' w') ∧ OwnA n0 w' v' (l ++ [x]) ∧ Keeps (fun k => v.ownBlock = some k) w w' := by
  obtain ⟨v', w', h1, h2, h3, h4⟩ := append_any (w := w.alloc (.cells #[.string (strB x.1), .string (strB x.2)] 37)) Tryz.underlying31 infoA rfl (by decide) (h.row.alloc _) (b := ⟨w.heap.size, 0, none⟩) (m := 1) (c := 1) (news := attsC [x]) rfl (newA_cells w (attsC [x]) _)
    (fun u hu => attsC_one hu) (by unfold maxLen; omega) (by omega)
  have hk : Keeps (fun k => v.ownBlock = some k) w w' := ((Keeps.refl _ w).alloc _).grown h3 (fun k e => .inl e)
  refine ⟨v', w', h1, ⟨by rw [List.length_append, attsC_app]; exact h2, fun k e => ?_⟩, hk⟩
  rcases h4 k e with h5 | h5
  · exact h.new k h5
  · simp at h5; omega

end Go.Proofs.YtemohjodihcdfaaGreatDoor
