/-
  append to a row of the call's own: of bytes, and of slices of bytes; bytes.Clone, slices.Grow, slices.Concat. Conditions: slices lead to what they are said to; together they are no longer than 2 to the 31.
-/
import Derived.Test.YtacfcfbleogioaaGreatDoorRecs
import Derived.Maps.AppendAt
import Derived.Lib.AppendZerosOnto
import Derived.Lib.SliceRun
namespace Go.Proofs.YtacfcfbleogioaaGreatDoor
open Go.RowKit Go.Lib Go.Joins

/-- append, as one step. -/
theorem fstep_append {P : Program} {ops : Array Oper} {o : Oper} {a : Act} {w w' : World} {K : Act → World → Prop} {Q : Exit → Act → World → Prop} {E : Prop}
    (hg : o.guard = none) (s x : Operand) (t t' : TypeId) (hop : o.op = Op.call { callee := Callee.builtin Builtin.append, args := #[s, x], argTypes := #[t, t'] })
    (vs vx v : Value) (hs : a.eval s = vs) (hx : a.eval x = vx) (hrun : ∀ ty, (Builtin.append_ #[t, t'] ty #[vs, vx]).run P w = .ok v w') (hK : K (a.put o.dst v) w') :
    if Region.wanted o (yielded ops a.tmps) = true then Oper.wp P o a w K Q else E := by
  have hw : Region.wanted o (yielded ops a.tmps) = true := by simp [Region.wanted, hg]
  rw [if_pos hw]
  unfold Oper.wp
  simp [execOp, hop, resolve, invoke, builtin, hs, hx, hrun o.type, Result.andThen]
  exact hK

/-- .. where what it makes is known first. -/
theorem step_app {P : Program} {ops : Array Oper} {o : Oper} {a : Act} {w w' : World} {K : Act → World → Prop} {Q : Exit → Act → World → Prop} {E : Prop} {t t' : TypeId} {vs vx v : Value}
    (hrun : ∀ ty, (Builtin.append_ #[t, t'] ty #[vs, vx]).run P w = .ok v w') (s x : Operand) (hg : o.guard = none) (hop : o.op = Op.call { callee := Callee.builtin Builtin.append, args := #[s, x], argTypes := #[t, t'] })
    (hs : a.eval s = vs) (hx : a.eval x = vx) (hK : K (a.put o.dst v) w') :
    if Region.wanted o (yielded ops a.tmps) = true then Oper.wp P o a w K Q else E := fstep_append hg s x t t' hop vs vx v hs hx hrun hK

theorem info22 : (Tryz.prog.info? 61).map (fun i => (i.zero, i.size, i.bytes)) = some (some (.slice none 0 0), 1, 24) := by kernel_rfl

theorem frow_cells {w : World} {S : Nat → Prop} {b : Addr} {l : List Nat} (hr : Row w S (some b) l) : ∀ j u, (cellsN l)[j]? = some u → w.cell? (b.add j) = some u := by
  intro j u hj
  rw [cellsN, List.getElem?_map] at hj
  obtain ⟨c, hc, rfl⟩ := Option.map_eq_some_iff.1 hj
  obtain ⟨b', o', hb, hcell⟩ := row_at hr hc
  obtain rfl : b = ⟨b', o', none⟩ := by simpa using hb
  rwa [Addr.add_mid]

/-- Bytes of the call's own: in what it made since w0. -/
structure Own (w0 w : World) (v : Value) (l : List Nat) : Prop where
  row : w.ownsRow 0 5 1 v l.length (cellsN l)
  byts : Byts l
  new : ∀ k, v.ownBlock = some k → w0.heap.size ≤ k
  bel : Below w0.heap.size w0 w

theorem Own.nil (w : World) : Own w w (.slice none 0 0) [] := ⟨World.ownsRow_nil _ _ _ _, (fun c hc => by cases hc), (fun k e => by cases e), Below.refl _ _⟩
theorem Own.empty (w : World) : Own w (w.alloc (.cells #[] 5)) (.slice (some ⟨w.heap.size, 0, none⟩) 0 0) [] :=
  ⟨World.ownsRow_made w #[] 0 (Nat.zero_le _) (by unfold maxLen; omega) rfl, (fun c hc => by cases hc), (fun k e => Nat.le_of_eq (Option.some.inj e)), (Below.refl _ _).alloc (Nat.le_refl _) _⟩
theorem Own.below {w0 w w' : World} {v : Value} {l : List Nat} (h : Own w0 w v l) (hb : Below w.heap.size w w') : Own w0 w' v l :=
  ⟨ownsRow_keep h.row (keeps_below hb Non) (fun _ _ h => h), h.byts, h.new, below_then h.bel hb⟩
theorem Own.from {w00 w0 w : World} {v : Value} {l : List Nat} (h : Own w0 w v l) (hb : Below w00.heap.size w00 w0) : Own w00 w v l :=
  ⟨h.row, h.byts, fun k e => Nat.le_trans hb.size (h.new k e), below_then hb h.bel⟩
theorem Own.lt {w0 w : World} {v : Value} {l : List Nat} (h : Own w0 w v l) : ∀ k, v.ownBlock = some k → k < w.heap.size := fun k e => (h.row.lt k e).2
theorem Own.form {w0 w : World} {v : Value} {l : List Nat} (h : Own w0 w v l) : ∃ a c, v = .slice a l.length c ∧ Row w (fun k => v.ownBlock = some k) a l ∧ (a = none → c = 0) ∧ l.length ≤ c ∧ c ≤ maxLen := by
  rcases h.row.2 with ⟨h1, h0⟩ | ⟨g, cap, cur, h1, hg, hgb, hcap, hcm, hcur, htk⟩
  · exact ⟨none, 0, by rw [h1, h0], ⟨h.byts, .inl (List.length_eq_zero_iff.1 h0)⟩, fun _ => rfl, by omega, Nat.zero_le _⟩
  · refine ⟨_, cap, h1, ⟨h.byts, .inr ⟨g, 0, rfl, by rw [h1]; rfl, fun i x hx => ?_⟩⟩, (fun e => by cases e), hcap, hcm⟩
    have := h.row.cells (g := g) (by rw [h1]; rfl) i (.int .u8 (x : Int)) (by rw [cellsN, List.getElem?_map, hx]; rfl)
    rwa [Addr.add_mid] at this
theorem Own.byt {w0 w : World} {v : Value} {l : List Nat} (h : Own w0 w v l) : Byt w (fun k => v.ownBlock = some k) v l := by
  obtain ⟨a, c, h1, h2, h3, h4, h5⟩ := h.form
  exact ⟨⟨a, c, h1, h2, h3, h4, h5⟩⟩

theorem Own.append {w0 w : World} {v : Value} {l : List Nat} (h : Own w0 w v l) {S : Nat → Prop} {ad : Option Addr} {m c : Nat} {x : List Nat} (hr : Row w S ad x) (hx : x.length = m) (hc : ad = none → c = 0) (hs : l.length + m ≤ 2147483648) :
    ∃ v' w', (∀ ty, (Builtin.append_ #[61, 61] ty #[v, .slice ad m c]).run Tryz.prog w = .ok v' w') ∧ Own w0 w' v' (l ++ x) ∧ w.grownBy w' v.ownBlock ∧ ∀ k, v'.ownBlock = some k → v.ownBlock = some k ∨ w.heap.size ≤ k := by
  cases ad with
  | some b =>
    obtain ⟨v', w', h1, h2, h3, h4⟩ := append_any (w := w) Tryz.underlying61 info5 rfl (by decide) h.row (b := b) (m := m) (c := c) (news := cellsN x) (by rw [cellsN_len, hx, Nat.mul_one]) (frow_cells hr)
      (by intro u hu; obtain ⟨z, _, rfl⟩ := List.mem_map.1 hu; rfl) (by unfold maxLen; omega) (by omega)
    refine ⟨v', w', h1, ⟨by rw [List.length_append, hx, cellsN_app]; exact h2, h.byts.app hr.1, fun k e => ?_, ?_⟩, h3, h4⟩
    · rcases h4 k e with h5 | h5
      · exact h.new k h5
      · exact Nat.le_trans h.bel.size h5
    · exact h.bel.trans (((Keeps.refl (fun k => v.ownBlock = some k) w).grown h3 (fun k e => .inl e)).toBelow h.bel.size (fun k e => h.new k e))
  | none =>
    have hx0 : x = [] := by
      rcases hr.2 with h0 | ⟨b, o, he, _⟩
      · exact h0
      · cases he
    obtain rfl : c = 0 := hc rfl
    subst hx0
    obtain rfl : m = 0 := by rw [← hx]; rfl
    refine ⟨v, w, append_any_none Tryz.underlying61 info5 h.row, by rw [List.append_nil]; exact h, ⟨rfl, rfl, rfl, Nat.le_refl _, fun _ _ _ => rfl⟩, fun k e => .inl e⟩

/-- Rows of bytes in a slice of the call's own. -/
structure OwnR (w0 w : World) (v : Value) (L : List (List Nat)) : Prop where
  ex : ∃ cells S, w.ownsRow 0 61 1 v L.length cells ∧ RCells w S cells L ∧ (∀ k, S k → k < w.heap.size ∧ v.ownBlock ≠ some k ∧ w0.heap.size ≤ k)
  new : ∀ k, v.ownBlock = some k → w0.heap.size ≤ k
  bel : Below w0.heap.size w0 w

theorem OwnR.nil (w : World) : OwnR w w (.slice none 0 0) [] := ⟨⟨[], Non, World.ownsRow_nil _ _ _ _, RCells.nil _ _, fun k h => h.elim⟩, (fun k e => by cases e), Below.refl _ _⟩
theorem OwnR.below {w0 w w' : World} {v : Value} {L : List (List Nat)} (h : OwnR w0 w v L) (hb : Below w.heap.size w w') : OwnR w0 w' v L := by
  obtain ⟨⟨cells, S, h1, h2, h3⟩, h4, h5⟩ := h
  exact ⟨⟨cells, S, ownsRow_keep h1 (keeps_below hb Non) (fun _ _ h => h), h2.keep (keeps_below hb Non) (fun _ _ h => h), fun k hk => ⟨Nat.lt_of_lt_of_le (h3 k hk).1 hb.size, (h3 k hk).2⟩⟩, h4, below_then h5 hb⟩
theorem OwnR.from {w00 w0 w : World} {v : Value} {L : List (List Nat)} (h : OwnR w0 w v L) (hb : Below w00.heap.size w00 w0) : OwnR w00 w v L :=
  ⟨by obtain ⟨cells, S, h1, h2, h3⟩ := h.ex; exact ⟨cells, S, h1, h2, fun k hk => ⟨(h3 k hk).1, (h3 k hk).2.1, Nat.le_trans hb.size (h3 k hk).2.2⟩⟩, fun k e => Nat.le_trans hb.size (h.new k e), below_then hb h.bel⟩
theorem OwnR.lt {w0 w : World} {v : Value} {L : List (List Nat)} (h : OwnR w0 w v L) : ∀ k, v.ownBlock = some k → k < w.heap.size := by
  obtain ⟨⟨cells, S, h1, _⟩, _, _⟩ := h
  exact fun k e => (h1.lt k e).2
theorem OwnR.form {w0 w : World} {v : Value} {L : List (List Nat)} (h : OwnR w0 w v L) : ∃ a c S, v = .slice a L.length c ∧ Recs w S a L ∧ (a = none → c = 0) ∧ L.length ≤ c ∧ c ≤ maxLen := by
  obtain ⟨⟨cells, S, h1, h2, h3⟩, _, _⟩ := h
  obtain ⟨a, c, h4, h5⟩ := recs_of_owns (S := fun k => S k ∨ v.ownBlock = some k) (h2.mono (fun k hk => .inl hk)) h1 (fun k e => .inr e)
  exact ⟨a, c, _, h4, h5⟩
theorem OwnR.form2 {w0 w : World} {v : Value} {L : List (List Nat)} (h : OwnR w0 w v L) : ∃ a c S, v = .slice a L.length c ∧ Recs w S a L ∧ (a = none → c = 0) ∧ L.length ≤ c ∧ c ≤ maxLen ∧ ∀ k, S k → w0.heap.size ≤ k ∧ k < w.heap.size := by
  have hlt := h.lt
  obtain ⟨⟨cells, S, h1, h2, h3⟩, h4, _⟩ := h
  obtain ⟨a, c, h5, h6, h7, h8, h9⟩ := recs_of_owns (S := fun k => S k ∨ v.ownBlock = some k) (h2.mono (fun k hk => .inl hk)) h1 (fun k e => .inr e)
  refine ⟨a, c, _, h5, h6, h7, h8, h9, fun k hk => ?_⟩
  rcases hk with hk | hk
  · exact ⟨(h3 k hk).2.2, (h3 k hk).1⟩
  · exact ⟨h4 k hk, hlt k hk⟩

theorem new_at {w : World} {u : Value} : ∀ (j : Nat) (x : Value), ([u] : List Value)[j]? = some x → (w.alloc (.cells #[u] 61)).cell? ((⟨w.heap.size, 0, none⟩ : Addr).add j) = some x := by
  intro j x hj
  rw [Addr.add_mid, Nat.zero_add, World.cell?_alloc_mark w #[u] 61 (0, 0) j]
  simpa using hj

/-- One row more, which lies in other blocks. -/
theorem OwnR.append {w0 w : World} {v : Value} {L : List (List Nat)} (h : OwnR w0 w v L) {S' : Nat → Prop} {u : Value} {x : List Nat} (hu : Byt w S' u x) (hS : ∀ k, S' k → k < w.heap.size ∧ v.ownBlock ≠ some k ∧ w0.heap.size ≤ k) (hs : L.length ≤ 1073741824) :
    ∃ v' w', (∀ ty, (Builtin.append_ #[173, 173] ty #[v, .slice (some ⟨w.heap.size, 0, none⟩) 1 1]).run Tryz.prog (w.alloc (.cells #[u] 61)) = .ok v' w') ∧ OwnR w0 w' v' (L ++ [x]) ∧ (w.alloc (.cells #[u] 61)).grownBy w' v.ownBlock ∧ ∀ k, v'.ownBlock = some k → v.ownBlock = some k ∨ w.heap.size < k := by
  have hlt := h.lt
  obtain ⟨⟨cells, S, h1, h2, h3⟩, h4, h5⟩ := h
  have h1c : u.oneCell' = true := by
    obtain ⟨⟨a, c, rfl, _⟩⟩ := hu
    rfl
  obtain ⟨v', w', hrun, ho, hg, hv⟩ := append_any (w := w.alloc (.cells #[u] 61)) Tryz.underlying173 info22 rfl (by decide) (h1.alloc _)
    (b := ⟨w.heap.size, 0, none⟩) (m := 1) (c := 1) (news := [u]) rfl new_at (by intro z hz; rw [List.mem_singleton.1 hz]; exact h1c) (by unfold maxLen; omega) (by omega)
  have hsz : (w.alloc (.cells #[u] 61)).heap.size = w.heap.size + 1 := by simp
  have hv2 : ∀ k, v'.ownBlock = some k → v.ownBlock = some k ∨ w.heap.size < k := fun k e => by
    rcases hv k e with h6 | h6
    · exact .inl h6
    · right; omega
  have hk : Keeps (fun k => v.ownBlock = some k) w w' := ((Keeps.refl _ w).alloc _).grown hg (fun k e => .inl e)
  have hkS : ∀ k, (S k ∨ S' k) → ¬ v.ownBlock = some k := fun k hk => hk.elim (fun h => (h3 k h).2.1) (fun h => (hS k h).2.1)
  refine ⟨v', w', hrun, ⟨⟨cells ++ [u], fun k => S k ∨ S' k, by rw [List.length_append]; exact ho, ((h2.mono (fun _ h => .inl h)).app (RCells.one (hu.mono (fun _ h => .inr h)))).keep hk hkS, fun k hkk => ⟨?_, fun e => ?_, hkk.elim (fun h => (h3 k h).2.2) (fun h => (hS k h).2.2)⟩⟩, fun k e => ?_, ?_⟩, hg, hv2⟩
  · exact Nat.lt_of_lt_of_le (hkk.elim (fun h => (h3 k h).1) (fun h => (hS k h).1)) hk.size
  · rcases hv2 k e with h6 | h6
    · exact hkS k hkk h6
    · have := hkk.elim (fun h => (h3 k h).1) (fun h => (hS k h).1)
      omega
  · rcases hv2 k e with h6 | h6
    · exact h4 k h6
    · have := h5.size; omega
  · exact h5.trans (hk.toBelow h5.size (fun k e => h4 k e))

/-- A call that returns bytes of its own. -/
def Gives (l : List Nat) (w : World) (e : Ending) (w' : World) : Prop := ∃ v, e = .returned v ∧ Own w w' v l

set_option maxRecDepth 100000 in
set_option maxHeartbeats 1000000 in
theorem fclone_calls {S : Nat → Prop} (b : Addr) (l : List Nat) (n c : Nat) (w : World) (hr : Row w S (some b) l) (hn : l.length = n) (hm : n ≤ 2147483648) : Calls Tryz.prog 34 #[.slice (some b) n c] w (Gives l w) := by
  subst hn
  obtain ⟨v', w', hrun, hown, _⟩ := (Own.empty w).append (hr.keep ((Keeps.refl Non w).alloc (.cells #[] 5)) (fun _ _ h => h)) rfl (c := c) (fun e => by cases e) (by simp; omega)
  rw [List.nil_append] at hown
  obtain ⟨a', c', rfl, _⟩ := hown.form
  have HRUN := Lib.hid hrun
  have HO := Lib.hid hown
  have q22 : ∀ W : World, (binOp .eql 61 (.slice (some b) l.length c) (.slice none 0 0)).run Tryz.prog W = .ok (.bool false) W := fun W => Lib.run_eql_slice_nil W _ _ _ _ _ _ _ Tryz.underlying61
  clear hr hrun hown
  go_enter Tryz.func34, Tryz.ntmps34
  go_wp2_with (at_builtin; refine wpList_step (fun K hK => fstep_append rfl _ _ 61 61 rfl _ _ _ rfl rfl HRUN.out (hK _ _ ?_)))
  go_wp2
  go_ret
  exact ⟨_, rfl, HO.out⟩

set_option maxRecDepth 100000 in
set_option maxHeartbeats 1000000 in
theorem grow_calls (n : Nat) (w : World) (hm : n ≤ 2147483648) : Calls Tryz.prog 137 #[.slice none 0 0, .int .i64 (n : Int)] w (Gives [] w) := by
  by_cases h0 : n = 0
  · subst h0
    go_enter Tryz.func137, Tryz.ntmps137
    go_wp2
    go_ret
    exact ⟨_, rfl, Own.nil w⟩
  · obtain ⟨i5, hi5, hj50, hj51, hj52⟩ := info_parts info5
    have hrun : ∀ ty, (Builtin.append_ #[61, 3] ty #[.slice none 0 0, .int .i64 (n : Int)]).run Tryz.prog w = .ok (.slice (some ⟨w.heap.size, 0, none⟩) n (grownCap w n 0 5)) (w.drew.alloc (.cells (Builtin.zeroCells (Value.int .u8 0).cells n ++ Builtin.zeroCells (Value.int .u8 0).cells (grownCap w n 0 5 - n)) 5)) := fun ty =>
      run_append_nil_zeros w 61 3 ty 5 i5 (.int .u8 0) .i64 .i64 Tryz.underlying61 Tryz.underlying3 hi5 hj50 n (by omega) (by omega) (by omega) (by rw [hj52]; omega)
    have hcap := grownCap_ge w n 0 5
    have hcm := grownCap_le_maxLen w n 0 5 (by unfold maxLen; omega)
    have hown : Own w (w.drew.alloc (.cells (Builtin.zeroCells (Value.int .u8 0).cells n ++ Builtin.zeroCells (Value.int .u8 0).cells (grownCap w n 0 5 - n)) 5)) (.slice (some ⟨w.heap.size, 0, none⟩) 0 (grownCap w n 0 5)) [] :=
      ⟨World.ownsRow_made w.drew _ _ (Nat.zero_le _) hcm (by simp [Builtin.zeroCells, Value.cells]; omega), (fun c hc => by cases hc), (fun k e => Nat.le_of_eq (Option.some.inj e)), (Below.refl _ _).drew.alloc (Nat.le_refl _) _⟩
    have HRUN := Lib.hid hrun
    have HO := Lib.hid hown
    have hd1 : decide ((n : Int) < 0) = false := by simp
    have hd2 : decide ((n : Int) > 0) = true := by simp; omega
    obtain ⟨W, hW⟩ : ∃ W, (w.drew.alloc (.cells (Builtin.zeroCells (Value.int .u8 0).cells n ++ Builtin.zeroCells (Value.int .u8 0).cells (grownCap w n 0 5 - n)) 5)) = W := ⟨_, rfl⟩
    obtain ⟨C, hC⟩ : ∃ C, grownCap w n 0 5 = C := ⟨_, rfl⟩
    rw [hW] at HRUN HO
    rw [hC] at HRUN HO hcap hcm
    clear hrun hown hW hC
    go_enter Tryz.func137, Tryz.ntmps137
    go_wp2_with (at_builtin; refine wpList_step (fun K hK => fstep_append rfl _ _ 61 3 rfl _ _ _ rfl rfl HRUN.out (hK _ _ ?_)))
    go_wp2
    go_ret
    exact ⟨_, rfl, HO.out⟩

theorem flat_take {L : List (List Nat)} {i : Nat} {f : List Nat} (hf : L[i]? = some f) : (L.take (i + 1)).flatten = (L.take i).flatten ++ f := by
  rw [List.take_add_one, hf, List.flatten_append]
  simp
theorem flat_len : ∀ L : List (List Nat), L.flatten.length = tot L
  | [] => rfl
  | r :: L => by rw [List.flatten_cons, List.length_append, flat_len L, tot_cons]
theorem flat_take_le (L : List (List Nat)) (i : Nat) : (L.take i).flatten.length ≤ tot L := by
  have h := flat_len L
  have e : L.flatten = (L.take i).flatten ++ (L.drop i).flatten := by rw [← List.flatten_append, List.take_append_drop]
  rw [e, List.length_append] at h
  omega

set_option maxRecDepth 100000 in
set_option maxHeartbeats 4000000 in
theorem concat_calls {S : Nat → Prop} (a : Option Addr) (L : List (List Nat)) (n c : Nat) (w : World) (hr : Recs w S a L) (hn : L.length = n) (hm : tot L ≤ 1073741824) (hb2 : n ≤ 281474976710656) : Calls Tryz.prog 114 #[.slice a n c] w (Gives L.flatten w) := by
  obtain ⟨q, hq⟩ : ∃ q, tot L = q := ⟨_, rfl⟩
  have HT := Lib.hid (fun i => flat_take_le L i)
  rw [hq] at hm HT
  have HQ := Lib.hid hq
  have HR := Lib.hid hr
  have HN := Lib.hid hn
  clear hr hn hq
  go_enter Tryz.func114, Tryz.ntmps114
  go_wp2
  go_loopg [3, 11] n (fun g acc idx wr => ∃ (i m : Nat), idx = .int .i64 (i : Int) ∧ acc = .int .i64 (m : Int) ∧ g + i = n ∧ m + tot (L.drop i) = q ∧ w = wr)
  case atStart => exact ⟨0, 0, rfl, rfl, rfl, by rw [Nat.zero_add]; exact HQ.out, rfl⟩
  case round =>
    obtain ⟨i, m, rfl, rfl, hg, hmm, rfl⟩ := hrel
    have HG := Lib.hid hg
    have HM := Lib.hid hmm
    clear hg hmm HQ
    by_cases hlt : i < n
    · obtain ⟨g', rfl⟩ : ∃ g', gk = g' + 1 := ⟨gk - 1, by have := HG.out; omega⟩
      have hdd : decide ((i : Int) < (n : Int)) = true := by simp; omega
      obtain ⟨f, hf⟩ : ∃ x, L[i]? = some x := ⟨L[i]'(by rw [HN.out]; exact hlt), List.getElem?_eq_getElem _⟩
      have HN2 : Hid (m + f.length + tot (L.drop (i + 1)) = q) := Lib.hid (by rw [← HM.out, tot_drop hf]; omega)
      obtain ⟨b, o, da, dc, rfl, _, r0, _⟩ := recs_at HR.out hf
      obtain ⟨z, hz⟩ : ∃ z, f.length = z := ⟨_, rfl⟩
      rw [hz] at r0 HN2
      have hz1 : (m : Int) + (z : Int) ≤ 9223372036854775807 := by have := HN2.out; omega
      have hz2 : decide ((m : Int) + (z : Int) < 0) = false := by simp; omega
      clear hf hz HM
      go_wp2
      go_roundg g'
      case measure => omega
      case rel => exact ⟨i + 1, m + z, by go_num, by go_num, by have := HG.out; omega, HN2.out, rfl⟩
    · have hdd : decide ((i : Int) < (n : Int)) = false := by simp; omega
      have hmq : m = q := by
        have := HM.out
        rw [List.drop_eq_nil_of_le (by rw [HN.out]; omega), tot_nil] at this
        omega
      subst hmq
      clear HM
      go_wp2_with fail
      refine (grow_calls m _ (by omega)).mono ?_
      rintro e w1 ⟨v1, rfl, hown1⟩
      have HO1 := Lib.hid hown1
      clear hown1
      go_wp2
      go_loopg [6, 27] n (fun g acc idx wr => ∃ (i : Nat), idx = .int .i64 (i : Int) ∧ g + i = n ∧ Own w wr acc (L.take i).flatten)
      case atStart => exact ⟨0, rfl, rfl, HO1.out⟩
      case round =>
        obtain ⟨i2, rfl, hg2, hown2⟩ := hrel
        have HG2 := Lib.hid hg2
        have HO2 := Lib.hid hown2
        clear hg2 HO1 hown2
        by_cases hlt2 : i2 < n
        · obtain ⟨g2, rfl⟩ : ∃ g2, gk = g2 + 1 := ⟨gk - 1, by have := HG2.out; omega⟩
          have hdd2 : decide ((i2 : Int) < (n : Int)) = true := by simp; omega
          obtain ⟨f, hf⟩ : ∃ x, L[i2]? = some x := ⟨L[i2]'(by rw [HN.out]; exact hlt2), List.getElem?_eq_getElem _⟩
          obtain ⟨b, o, da, dc, rfl, _, r0, hrow, hnil, _⟩ := recs_at (HR.out.below HO2.out.bel) hf
          obtain ⟨v3, w3, hrun, hown3, _⟩ := HO2.out.append hrow rfl hnil (by
            have h1 := HT.out (i2 + 1)
            rw [flat_take hf, List.length_append] at h1
            omega)
          rw [← flat_take hf] at hown3
          have HO3 := Lib.hid hown3
          have HRUN := Lib.hid hrun
          clear hf hrow hnil hrun hown3
          go_wp2_with (at_builtin; refine wpList_step (fun K hK => fstep_append rfl _ _ 61 61 rfl _ _ _ rfl rfl HRUN.out (hK _ _ ?_)))
          go_wp2
          go_roundg g2
          case measure => omega
          case rel => exact ⟨i2 + 1, by go_num, by have := HG2.out; omega, HO3.out⟩
        · have hdd2 : decide ((i2 : Int) < (n : Int)) = false := by simp; omega
          have HF : Hid ((L.take i2).flatten = L.flatten) := Lib.hid (by rw [List.take_of_length_le (by rw [HN.out]; omega)])
          go_wp2
          go_ret
          exact ⟨_, rfl, by rw [← HF.out]; exact HO2.out⟩

end Go.Proofs.YtacfcfbleogioaaGreatDoor
