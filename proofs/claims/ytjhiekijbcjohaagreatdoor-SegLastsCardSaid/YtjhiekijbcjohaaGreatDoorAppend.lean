/-
  What the program's Append does: its two closures. Conditions: what they captured lies in memory; the bytes together are fewer than 2 to the 31.
-/
import Derived.Test.YtjhiekijbcjohaaGreatDoorActs
import Derived.Deep.RegionHeldLaw
import Derived.StillTactics
namespace Go.Proofs.YtjhiekijbcjohaaGreatDoor
open Go.RowKit Go.Lib Go.Joins

/-- append, as one step of a region that draws. -/
theorem step_append {P : Program} {ops : Array Oper} {o : Oper} {a : Act} {w w' : World} {K : Act → World → Prop} {Q : Exit → Act → World → Prop} {E : Prop}
    (hg : o.guard = none) (s x : Operand) (t : TypeId) (hop : o.op = Op.call { callee := Callee.builtin Builtin.append, args := #[s, x], argTypes := #[t, t] })
    (vs vx v : Value) (hs : a.eval s = vs) (hx : a.eval x = vx) (hrun : ∀ ty, (Builtin.append_ #[t, t] ty #[vs, vx]).run P w = .ok v w') (hK : K (a.put o.dst v) w') :
    if Region.wanted o (yielded ops a.tmps) = true then Oper.wp P o a w K Q else E := by
  have hw : Region.wanted o (yielded ops a.tmps) = true := by simp [Region.wanted, hg]
  rw [if_pos hw]
  unfold Oper.wp
  simp [execOp, hop, resolve, invoke, builtin, hs, hx, hrun o.type, Result.andThen]
  exact hK

/-- A file has more bytes. -/
def AddF (fb : Nat) (dv : Value) (safe : Int) (n : Nat) (xs : List Value) (w w' : World) : Prop :=
  ∃ dv', w'.heap[fb]? = some (.cells #[dv', .int .i64 safe] 98 (0, 0)) ∧ w'.ownsRow 0 5 1 dv' n xs ∧ (∀ k, dv'.ownBlock = some k → dv.ownBlock = some k ∨ w.heap.size ≤ k) ∧ Keeps (fun k => k = fb ∨ dv.ownBlock = some k) w w'

theorem other_elem {w : World} {b e n : Nat} {v : Value} {xs cs : _} {t : TypeId} {fr : Nat × Nat} (h : w.heap[b]? = some (.cells cs t fr)) (hown : w.ownsRow 0 e 1 v n xs) (ht : t ≠ e) : v.ownBlock ≠ some b := by
  intro hb
  rcases hown.2 with ⟨rfl, _⟩ | ⟨g, cap, cur, rfl, _, hg, _⟩
  · cases hb
  · have : g = b := Option.some.inj hb
    subst this
    rw [h] at hg
    simp only [Option.some.injEq, Obj.cells.injEq] at hg
    exact ht hg.2.1

/-- What an append leaves of the blocks that the closure looks at. -/
theorem added {w w' : World} {fb n m : Nat} {dv v' : Value} {safe : Int} {xs ys : List Value} (h : w.heap[fb]? = some (.cells #[dv, .int .i64 safe] 98 (0, 0))) (hown : w.ownsRow 0 5 1 dv n xs) (ho : w'.ownsRow 0 5 1 v' m ys)
    (hg : w.grownBy w' dv.ownBlock) (hf : ∀ k, v'.ownBlock = some k → dv.ownBlock = some k ∨ w.heap.size ≤ k) :
    AddF fb dv safe m ys w (w'.setCell ⟨fb, 0, none⟩ v') := by
  have hne := other_elem h hown (by decide)
  have h' : w'.heap[fb]? = some (.cells #[dv, .int .i64 safe] 98 (0, 0)) := (hg.block fb (lt_of_block h) (fun e => hne e.symm)).trans h
  refine ⟨v', block_setCell (i := 0) h' v', ?_, hf, ((Keeps.refl _ w).grown hg (fun k e => .inl (.inr e))).setCell (p := ⟨fb, 0, none⟩) (.inl (.inl rfl)) _⟩
  exact ownsRow_keep ho ((Keeps.refl (One fb) w').setCell (p := ⟨fb, 0, none⟩) (.inl rfl) _) (fun k hk e => other_elem h' ho (by decide) (by rw [hk]; exact congrArg some e))

theorem AddF.drew {fb : Nat} {dv : Value} {safe : Int} {n : Nat} {xs : List Value} {w w' : World} (h : AddF fb dv safe n xs w w') : AddF fb dv safe n xs w w'.drew := by
  obtain ⟨dv', h1, h2, h3, h4⟩ := h
  exact ⟨dv', h1, h2, h3, h4.drew⟩

theorem AddF.of_drew {fb : Nat} {dv : Value} {safe : Int} {n : Nat} {xs : List Value} {w w' : World} (h : AddF fb dv safe n xs w.drew w') : AddF fb dv safe n xs w w' := by
  obtain ⟨dv', h1, h2, h3, h4⟩ := h
  exact ⟨dv', h1, h2, h3, ((Keeps.refl _ w).drew).trans h4 (fun _ hk => .inl hk)⟩

set_option maxRecDepth 100000 in
set_option maxHeartbeats 4000000 in
theorem append1_calls (xf xb fb : Nat) (dv : Value) (n m c : Nat) (a : Option Addr) (safe : Int) (xs : List Value) (l : List Nat) (S : Nat → Prop) (w : World) (h0 : w.heap[xf]? = some (.cells #[.pointer (some ⟨fb, 0, none⟩)] 95 (0, 0))) (h1 : w.heap[xb]? = some (.cells #[.slice a m c] 27 (0, 0)))
    (h : w.heap[fb]? = some (.cells #[dv, .int .i64 safe] 98 (0, 0))) (hown : w.ownsRow 0 5 1 dv n xs) (hl : l.length = m) (hr : Row w S a l) (hc : a = none → c = 0) (h63 : n + m ≤ 2147483648) :
    Calls Tryz.prog 108 #[.pointer (some ⟨xf, 0, none⟩), .pointer (some ⟨xb, 0, none⟩)] w (Ran (AddF fb dv safe (n + m) (xs ++ cellsN l) w)) := by
  obtain ⟨v', w2, hrun, hown2, hg, hf⟩ := append_run (w := w.drew) hown hl hr hc h63
  have HP : Hid (AddF fb dv safe (n + m) (xs ++ cellsN l) w (w2.setCell ⟨fb, 0, none⟩ v')) := Lib.hid (added (w := w.drew) h hown hown2 hg hf).of_drew
  obtain ⟨a', c', rfl⟩ := dv_form hown2
  have k0 : w2.heap[xf]? = some (.cells #[.pointer (some ⟨fb, 0, none⟩)] 95 (0, 0)) := (hg.block xf (lt_of_block h0) (fun e => other_elem h0 hown (by decide) e.symm)).trans h0
  have kf : w2.heap[fb]? = some (.cells #[dv, .int .i64 safe] 98 (0, 0)) := (hg.block fb (lt_of_block h) (fun e => other_elem h hown (by decide) e.symm)).trans h
  have c0 : w.cell? ⟨xf, 0, none⟩ = some (.pointer (some ⟨fb, 0, none⟩)) := (cell_of_block h0 0).trans rfl
  have c1 : w.cell? ⟨xb, 0, none⟩ = some (.slice a m c) := (cell_of_block h1 0).trans rfl
  have cf : w.cell? ⟨fb, 0, none⟩ = some dv := (cell_of_block h 0).trans rfl
  have d0 : w2.cell? ⟨xf, 0, none⟩ = some (.pointer (some ⟨fb, 0, none⟩)) := (cell_of_block k0 0).trans rfl
  have df : w2.cell? ⟨fb, 0, none⟩ = some dv := (cell_of_block kf 0).trans rfl
  have ff : w2.frozen? ⟨fb, 0, none⟩ = false := unfrozen_of_block kf 0
  have HR := Lib.hid hrun
  clear hrun hown2 hg hf k0 kf h h0 h1 hown hl hr hc h63
  go_enter Tryz.func108, Tryz.ntmps108
  go_wp2
  go_region_law (refine step_append rfl _ _ 27 rfl _ _ _ rfl rfl HR.out ?_)
  all_goals
    go_end0
    exact ⟨rfl, HP.out⟩

set_option maxRecDepth 100000 in
set_option maxHeartbeats 4000000 in
theorem append2_calls (p : Int) (xf xb fb : Nat) (dv : Value) (n c : Nat) (a : Option Addr) (safe : Int) (xs : List Value) (l : List Nat) (S : Nat → Prop) (w : World) (h0 : w.heap[xf]? = some (.cells #[.pointer (some ⟨fb, 0, none⟩)] 95 (0, 0))) (h1 : w.heap[xb]? = some (.cells #[.slice a l.length c] 27 (0, 0)))
    (h : w.heap[fb]? = some (.cells #[dv, .int .i64 safe] 98 (0, 0))) (hown : w.ownsRow 0 5 1 dv n xs) (hr : Row w S a l) (hc : a = none → c = 0) (hlc : l.length ≤ c) (hcm : c ≤ maxLen) (h63 : n + l.length ≤ 2147483648) :
    Calls Tryz.prog 109 #[.int .i64 p, .pointer (some ⟨xf, 0, none⟩), .pointer (some ⟨xb, 0, none⟩)] w (Ran (AddF fb dv safe (n + wth p l.length) (xs ++ cellsN (l.take (wth p l.length))) w)) := by
  have hw := wth_le p l.length
  have HW := fun w => within_calls p l.length w
  obtain ⟨m, hm⟩ : ∃ m, wth p l.length = m := ⟨_, rfl⟩
  rw [hm] at hw ⊢
  simp only [hm] at HW
  have HHW := Lib.hid HW
  obtain ⟨v', w2, hrun, hown2, hg, hf⟩ := append_run (w := w.drew) hown (m := m) (c := c) (l := l.take m) (by rw [List.length_take]; omega) (Row.take hr m) hc (by omega)
  have HP : Hid (AddF fb dv safe (n + m) (xs ++ cellsN (l.take m)) w (w2.setCell ⟨fb, 0, none⟩ v')) := Lib.hid (added (w := w.drew) h hown hown2 hg hf).of_drew
  obtain ⟨a', c', rfl⟩ := dv_form hown2
  have k0 : w2.heap[xf]? = some (.cells #[.pointer (some ⟨fb, 0, none⟩)] 95 (0, 0)) := (hg.block xf (lt_of_block h0) (fun e => other_elem h0 hown (by decide) e.symm)).trans h0
  have kf : w2.heap[fb]? = some (.cells #[dv, .int .i64 safe] 98 (0, 0)) := (hg.block fb (lt_of_block h) (fun e => other_elem h hown (by decide) e.symm)).trans h
  have c0 : w.cell? ⟨xf, 0, none⟩ = some (.pointer (some ⟨fb, 0, none⟩)) := (cell_of_block h0 0).trans rfl
  have c1 : w.cell? ⟨xb, 0, none⟩ = some (.slice a l.length c) := (cell_of_block h1 0).trans rfl
  have cf : w.cell? ⟨fb, 0, none⟩ = some dv := (cell_of_block h 0).trans rfl
  have d0 : w2.cell? ⟨xf, 0, none⟩ = some (.pointer (some ⟨fb, 0, none⟩)) := (cell_of_block k0 0).trans rfl
  have df : w2.cell? ⟨fb, 0, none⟩ = some dv := (cell_of_block kf 0).trans rfl
  have k1 : w2.heap[xb]? = some (.cells #[.slice a l.length c] 27 (0, 0)) := (hg.block xb (lt_of_block h1) (fun e => other_elem h1 hown (by decide) e.symm)).trans h1
  have d1 : w2.cell? ⟨xb, 0, none⟩ = some (.slice a l.length c) := (cell_of_block k1 0).trans rfl
  have n0 : xf ≠ fb := by rintro rfl; rw [h] at h0; simp at h0
  have n1 : xb ≠ fb := by rintro rfl; rw [h] at h1; simp at h1
  have e0 : (w2.setCell ⟨fb, 0, none⟩ (.slice a' (n + m) c')).cell? ⟨xf, 0, none⟩ = some (.pointer (some ⟨fb, 0, none⟩)) := (World.cell?_of_block (w := w2) (Below.heap_setCell w2 ⟨fb, 0, none⟩ _ xf n0)).trans d0
  have e1 : (w2.setCell ⟨fb, 0, none⟩ (.slice a' (n + m) c')).cell? ⟨xb, 0, none⟩ = some (.slice a l.length c) := (World.cell?_of_block (w := w2) (Below.heap_setCell w2 ⟨fb, 0, none⟩ _ xb n1)).trans d1
  have ff : w2.frozen? ⟨fb, 0, none⟩ = false := unfrozen_of_block kf 0
  obtain ⟨len, hlen⟩ : ∃ len, l.length = len := ⟨_, rfl⟩
  rw [hlen] at c1 hw HHW hlc d1 e1
  have HR := Lib.hid hrun
  unfold maxLen at hcm
  have hmc : m ≤ c := by omega
  cases a with
  | none =>
    obtain rfl : c = 0 := hc rfl
    obtain rfl : len = 0 := by omega
    obtain rfl : m = 0 := by omega
    clear hrun hown2 hg hf k0 k1 kf h h0 h1 hown hr hc h63 hm HW hlen
    go_enter Tryz.func109, Tryz.ntmps109
    go_wp2
    refine wp_region_held_drew (S := fun W => W.cell? ⟨xf, 0, none⟩ = some (.pointer (some ⟨fb, 0, none⟩)) ∧ W.cell? ⟨xb, 0, none⟩ = some (.slice none 0 0)) (by kernel_rfl) ⟨c0, c1⟩ (fun hHeld => ?_)
    refine wpAnyH_take (i := 0) (v := ?_) rfl (by kernel_rfl) (by kernel_rfl) (by kernel_rfl) (fun _ _ _ h => h) (Or.inl ⟨by rfl, ?_⟩) (by assumption) ?_
    rotate_left
    · intro W hS
      try dsimp only at hS
      go_simp
      try with_reducible rfl
    simp only [Act.put, List.setIfInBounds_toArray]
    refine wpAnyH_take (i := 1) (v := ?_) rfl (by kernel_rfl) (by kernel_rfl) (by kernel_rfl) (fun _ _ _ h => h) (Or.inl ⟨by rfl, ?_⟩) (by assumption) ?_
    rotate_left
    · intro W hS
      try dsimp only at hS
      go_simp
      try with_reducible rfl
    simp only [Act.put]
    refine wpAnyH_take (i := 2) (v := ?_) rfl (by kernel_rfl) (by kernel_rfl) (by kernel_rfl) (fun _ _ _ h => h) (Or.inl ⟨by rfl, ?_⟩) (by assumption) ?_
    rotate_left
    · intro W hS
      try dsimp only at hS
      go_simp
      try with_reducible rfl
    simp only [Act.put]
    refine wpAnyH_take (i := 3) (v := ?_) rfl (by kernel_rfl) (by kernel_rfl) (by kernel_rfl) (fun _ _ _ h => h) (Or.inl ⟨by rfl, ?_⟩) (by assumption) ?_
    rotate_left
    · intro W hS
      try dsimp only at hS
      go_simp
      try with_reducible rfl
    simp only [Act.put]
    refine wpAnyH_take (i := 5) (v := ?_) rfl (by kernel_rfl) (by kernel_rfl) (by kernel_rfl) (fun _ _ _ h => h) (Or.inl ⟨by rfl, ?_⟩) (by assumption) ?_
    rotate_left
    · intro W hS
      try dsimp only at hS
      go_simp
      try with_reducible rfl
    simp only [Act.put]
    refine wpAnyH_take (i := 6) (v := ?_) rfl (by kernel_rfl) (by kernel_rfl) (by kernel_rfl) (fun _ _ _ h => h) (Or.inl ⟨by rfl, ?_⟩) (by assumption) ?_
    rotate_left
    · intro W hS
      try dsimp only at hS
      go_simp
      try with_reducible rfl
    simp only [Act.put]
    refine wpAnyH_take (i := 7) (v := ?_) rfl (by kernel_rfl) (by kernel_rfl) (by kernel_rfl) (fun _ _ _ h => h) (Or.inl ⟨by rfl, ?_⟩) (by assumption) ?_
    rotate_left
    · intro W hS
      try dsimp only at hS
      go_simp
      try with_reducible rfl
    simp only [Act.put]
    refine wpAnyH_take (i := 8) (v := ?_) rfl (by kernel_rfl) (by kernel_rfl) (by kernel_rfl) (fun _ _ _ h => h) (Or.inl ⟨by rfl, ?_⟩) (by assumption) ?_
    rotate_left
    · intro W hS
      try dsimp only at hS
      go_simp
      try with_reducible rfl
    simp only [Act.put]
    refine wpAnyH_ready (rs := [4, 9]) (by kernel_rfl) (by simp) ?_
    refine AllReadyH.cons rfl (fun K hK => ?_) (AllReadyH.cons rfl (fun K hK => ?_) AllReadyH.nil)
    · go_simp
      refine hK.out _ _ ⟨c0, c1⟩ (fun hHeld => ?_)
      clear hK K
      try simp only [Act.put, List.setIfInBounds_toArray, List.set_cons_zero, List.set_cons_succ]
      refine wpAnyH_ready (rs := [9]) (by kernel_rfl) (by simp) ?_
      refine AllReadyH.cons rfl (fun K hK => ?_) AllReadyH.nil
      go_simp
      refine (HHW.out _).mono ?_
      rintro e w' ⟨rfl, rfl⟩
      go_wp2_with fail
      refine hK.out _ _ ⟨c0, c1⟩ (fun hHeld => ?_)
      clear hK K
      try simp only [Act.put, List.setIfInBounds_toArray, List.set_cons_zero, List.set_cons_succ]
      refine wpAnyH_ready (rs := [10]) (by kernel_rfl) (by simp) ?_
      refine AllReadyH.cons rfl (fun K hK => ?_) AllReadyH.nil
      go_simp
      refine hK.out _ _ ⟨c0, c1⟩ (fun hHeld => ?_)
      clear hK K
      try simp only [Act.put, List.setIfInBounds_toArray, List.set_cons_zero, List.set_cons_succ]
      refine wpAnyH_ready (rs := [11]) (by kernel_rfl) (by simp) ?_
      refine AllReadyH.cons rfl (fun K hK => ?_) AllReadyH.nil
      refine step_append rfl _ _ 27 rfl _ _ _ rfl rfl HR.out ?_
      refine hK.out _ _ ⟨d0, d1⟩ (fun hHeld => ?_)
      clear hK K
      try simp only [Act.put, List.setIfInBounds_toArray]
      refine wpAnyH_ready (rs := [12]) (by kernel_rfl) (by simp) ?_
      refine AllReadyH.cons rfl (fun K hK => ?_) AllReadyH.nil
      go_simp
      refine hK.out _ _ ⟨d0, d1⟩ (fun hHeld => ?_)
      clear hK K
      try simp only [Act.put, List.setIfInBounds_toArray, List.set_cons_zero, List.set_cons_succ]
      refine wpAnyH_ready (rs := [13]) (by kernel_rfl) (by simp) ?_
      refine AllReadyH.cons rfl (fun K hK => ?_) AllReadyH.nil
      go_simp
      refine hK.out _ _ ⟨d0, d1⟩ (fun hHeld => ?_)
      clear hK K
      try simp only [Act.put, List.setIfInBounds_toArray, List.set_cons_zero, List.set_cons_succ]
      refine wpAnyH_ready (rs := [14]) (by kernel_rfl) (by simp) ?_
      refine AllReadyH.cons rfl (fun K hK => ?_) AllReadyH.nil
      go_simp
      refine hK.out _ _ ⟨e0, e1⟩ (fun hHeld => ?_)
      clear hK K
      try simp only [Act.put, List.setIfInBounds_toArray, List.set_cons_zero, List.set_cons_succ]
      refine wpAnyH_done (by kernel_rfl) ?_ _
      go_end0
      exact ⟨rfl, HP.out⟩
    · go_simp
      refine (HHW.out _).mono ?_
      rintro e w' ⟨rfl, rfl⟩
      go_wp2_with fail
      refine hK.out _ _ ⟨c0, c1⟩ (fun hHeld => ?_)
      clear hK K
      try simp only [Act.put, List.setIfInBounds_toArray, List.set_cons_zero, List.set_cons_succ]
      refine wpAnyH_ready (rs := [4, 10]) (by kernel_rfl) (by simp) ?_
      refine AllReadyH.cons rfl (fun K hK => ?_) (AllReadyH.cons rfl (fun K hK => ?_) AllReadyH.nil)
      · go_simp
        refine hK.out _ _ ⟨c0, c1⟩ (fun hHeld => ?_)
        clear hK K
        try simp only [Act.put, List.setIfInBounds_toArray, List.set_cons_zero, List.set_cons_succ]
        refine wpAnyH_ready (rs := [10]) (by kernel_rfl) (by simp) ?_
        refine AllReadyH.cons rfl (fun K hK => ?_) AllReadyH.nil
        go_simp
        refine hK.out _ _ ⟨c0, c1⟩ (fun hHeld => ?_)
        clear hK K
        try simp only [Act.put, List.setIfInBounds_toArray, List.set_cons_zero, List.set_cons_succ]
        refine wpAnyH_ready (rs := [11]) (by kernel_rfl) (by simp) ?_
        refine AllReadyH.cons rfl (fun K hK => ?_) AllReadyH.nil
        refine step_append rfl _ _ 27 rfl _ _ _ rfl rfl HR.out ?_
        refine hK.out _ _ ⟨d0, d1⟩ (fun hHeld => ?_)
        clear hK K
        try simp only [Act.put, List.setIfInBounds_toArray]
        refine wpAnyH_ready (rs := [12]) (by kernel_rfl) (by simp) ?_
        refine AllReadyH.cons rfl (fun K hK => ?_) AllReadyH.nil
        go_simp
        refine hK.out _ _ ⟨d0, d1⟩ (fun hHeld => ?_)
        clear hK K
        try simp only [Act.put, List.setIfInBounds_toArray, List.set_cons_zero, List.set_cons_succ]
        refine wpAnyH_ready (rs := [13]) (by kernel_rfl) (by simp) ?_
        refine AllReadyH.cons rfl (fun K hK => ?_) AllReadyH.nil
        go_simp
        refine hK.out _ _ ⟨d0, d1⟩ (fun hHeld => ?_)
        clear hK K
        try simp only [Act.put, List.setIfInBounds_toArray, List.set_cons_zero, List.set_cons_succ]
        refine wpAnyH_ready (rs := [14]) (by kernel_rfl) (by simp) ?_
        refine AllReadyH.cons rfl (fun K hK => ?_) AllReadyH.nil
        go_simp
        refine hK.out _ _ ⟨e0, e1⟩ (fun hHeld => ?_)
        clear hK K
        try simp only [Act.put, List.setIfInBounds_toArray, List.set_cons_zero, List.set_cons_succ]
        refine wpAnyH_done (by kernel_rfl) ?_ _
        go_end0
        exact ⟨rfl, HP.out⟩
      · go_simp
        refine hK.out _ _ ⟨c0, c1⟩ (fun hHeld => ?_)
        clear hK K
        try simp only [Act.put, List.setIfInBounds_toArray, List.set_cons_zero, List.set_cons_succ]
        refine wpAnyH_ready (rs := [4]) (by kernel_rfl) (by simp) ?_
        refine AllReadyH.cons rfl (fun K hK => ?_) AllReadyH.nil
        go_simp
        refine hK.out _ _ ⟨c0, c1⟩ (fun hHeld => ?_)
        clear hK K
        try simp only [Act.put, List.setIfInBounds_toArray, List.set_cons_zero, List.set_cons_succ]
        refine wpAnyH_ready (rs := [11]) (by kernel_rfl) (by simp) ?_
        refine AllReadyH.cons rfl (fun K hK => ?_) AllReadyH.nil
        refine step_append rfl _ _ 27 rfl _ _ _ rfl rfl HR.out ?_
        refine hK.out _ _ ⟨d0, d1⟩ (fun hHeld => ?_)
        clear hK K
        try simp only [Act.put, List.setIfInBounds_toArray]
        refine wpAnyH_ready (rs := [12]) (by kernel_rfl) (by simp) ?_
        refine AllReadyH.cons rfl (fun K hK => ?_) AllReadyH.nil
        go_simp
        refine hK.out _ _ ⟨d0, d1⟩ (fun hHeld => ?_)
        clear hK K
        try simp only [Act.put, List.setIfInBounds_toArray, List.set_cons_zero, List.set_cons_succ]
        refine wpAnyH_ready (rs := [13]) (by kernel_rfl) (by simp) ?_
        refine AllReadyH.cons rfl (fun K hK => ?_) AllReadyH.nil
        go_simp
        refine hK.out _ _ ⟨d0, d1⟩ (fun hHeld => ?_)
        clear hK K
        try simp only [Act.put, List.setIfInBounds_toArray, List.set_cons_zero, List.set_cons_succ]
        refine wpAnyH_ready (rs := [14]) (by kernel_rfl) (by simp) ?_
        refine AllReadyH.cons rfl (fun K hK => ?_) AllReadyH.nil
        go_simp
        refine hK.out _ _ ⟨e0, e1⟩ (fun hHeld => ?_)
        clear hK K
        try simp only [Act.put, List.setIfInBounds_toArray, List.set_cons_zero, List.set_cons_succ]
        refine wpAnyH_done (by kernel_rfl) ?_ _
        go_end0
        exact ⟨rfl, HP.out⟩
  | some b =>
    clear hrun hown2 hg hf k0 k1 kf h h0 h1 hown hr hc h63 hm HW hlen
    go_enter Tryz.func109, Tryz.ntmps109
    go_wp2
    refine wp_region_held_drew (S := fun W => W.cell? ⟨xf, 0, none⟩ = some (.pointer (some ⟨fb, 0, none⟩)) ∧ W.cell? ⟨xb, 0, none⟩ = some (.slice (some b) len c)) (by kernel_rfl) ⟨c0, c1⟩ (fun hHeld => ?_)
    refine wpAnyH_take (i := 0) (v := ?_) rfl (by kernel_rfl) (by kernel_rfl) (by kernel_rfl) (fun _ _ _ h => h) (Or.inl ⟨by rfl, ?_⟩) (by assumption) ?_
    rotate_left
    · intro W hS
      try dsimp only at hS
      go_simp
      try with_reducible rfl
    simp only [Act.put, List.setIfInBounds_toArray]
    refine wpAnyH_take (i := 1) (v := ?_) rfl (by kernel_rfl) (by kernel_rfl) (by kernel_rfl) (fun _ _ _ h => h) (Or.inl ⟨by rfl, ?_⟩) (by assumption) ?_
    rotate_left
    · intro W hS
      try dsimp only at hS
      go_simp
      try with_reducible rfl
    simp only [Act.put]
    refine wpAnyH_take (i := 2) (v := ?_) rfl (by kernel_rfl) (by kernel_rfl) (by kernel_rfl) (fun _ _ _ h => h) (Or.inl ⟨by rfl, ?_⟩) (by assumption) ?_
    rotate_left
    · intro W hS
      try dsimp only at hS
      go_simp
      try with_reducible rfl
    simp only [Act.put]
    refine wpAnyH_take (i := 3) (v := ?_) rfl (by kernel_rfl) (by kernel_rfl) (by kernel_rfl) (fun _ _ _ h => h) (Or.inl ⟨by rfl, ?_⟩) (by assumption) ?_
    rotate_left
    · intro W hS
      try dsimp only at hS
      go_simp
      try with_reducible rfl
    simp only [Act.put]
    refine wpAnyH_take (i := 5) (v := ?_) rfl (by kernel_rfl) (by kernel_rfl) (by kernel_rfl) (fun _ _ _ h => h) (Or.inl ⟨by rfl, ?_⟩) (by assumption) ?_
    rotate_left
    · intro W hS
      try dsimp only at hS
      go_simp
      try with_reducible rfl
    simp only [Act.put]
    refine wpAnyH_take (i := 6) (v := ?_) rfl (by kernel_rfl) (by kernel_rfl) (by kernel_rfl) (fun _ _ _ h => h) (Or.inl ⟨by rfl, ?_⟩) (by assumption) ?_
    rotate_left
    · intro W hS
      try dsimp only at hS
      go_simp
      try with_reducible rfl
    simp only [Act.put]
    refine wpAnyH_take (i := 7) (v := ?_) rfl (by kernel_rfl) (by kernel_rfl) (by kernel_rfl) (fun _ _ _ h => h) (Or.inl ⟨by rfl, ?_⟩) (by assumption) ?_
    rotate_left
    · intro W hS
      try dsimp only at hS
      go_simp
      try with_reducible rfl
    simp only [Act.put]
    refine wpAnyH_take (i := 8) (v := ?_) rfl (by kernel_rfl) (by kernel_rfl) (by kernel_rfl) (fun _ _ _ h => h) (Or.inl ⟨by rfl, ?_⟩) (by assumption) ?_
    rotate_left
    · intro W hS
      try dsimp only at hS
      go_simp
      try with_reducible rfl
    simp only [Act.put]
    refine wpAnyH_ready (rs := [4, 9]) (by kernel_rfl) (by simp) ?_
    refine AllReadyH.cons rfl (fun K hK => ?_) (AllReadyH.cons rfl (fun K hK => ?_) AllReadyH.nil)
    · go_simp
      refine hK.out _ _ ⟨c0, c1⟩ (fun hHeld => ?_)
      clear hK K
      try simp only [Act.put, List.setIfInBounds_toArray, List.set_cons_zero, List.set_cons_succ]
      refine wpAnyH_ready (rs := [9]) (by kernel_rfl) (by simp) ?_
      refine AllReadyH.cons rfl (fun K hK => ?_) AllReadyH.nil
      go_simp
      refine (HHW.out _).mono ?_
      rintro e w' ⟨rfl, rfl⟩
      go_wp2_with fail
      refine hK.out _ _ ⟨c0, c1⟩ (fun hHeld => ?_)
      clear hK K
      try simp only [Act.put, List.setIfInBounds_toArray, List.set_cons_zero, List.set_cons_succ]
      refine wpAnyH_ready (rs := [10]) (by kernel_rfl) (by simp) ?_
      refine AllReadyH.cons rfl (fun K hK => ?_) AllReadyH.nil
      go_simp
      refine hK.out _ _ ⟨c0, c1⟩ (fun hHeld => ?_)
      clear hK K
      try simp only [Act.put, List.setIfInBounds_toArray, List.set_cons_zero, List.set_cons_succ]
      refine wpAnyH_ready (rs := [11]) (by kernel_rfl) (by simp) ?_
      refine AllReadyH.cons rfl (fun K hK => ?_) AllReadyH.nil
      refine step_append rfl _ _ 27 rfl _ _ _ rfl rfl HR.out ?_
      refine hK.out _ _ ⟨d0, d1⟩ (fun hHeld => ?_)
      clear hK K
      try simp only [Act.put, List.setIfInBounds_toArray]
      refine wpAnyH_ready (rs := [12]) (by kernel_rfl) (by simp) ?_
      refine AllReadyH.cons rfl (fun K hK => ?_) AllReadyH.nil
      go_simp
      refine hK.out _ _ ⟨d0, d1⟩ (fun hHeld => ?_)
      clear hK K
      try simp only [Act.put, List.setIfInBounds_toArray, List.set_cons_zero, List.set_cons_succ]
      refine wpAnyH_ready (rs := [13]) (by kernel_rfl) (by simp) ?_
      refine AllReadyH.cons rfl (fun K hK => ?_) AllReadyH.nil
      go_simp
      refine hK.out _ _ ⟨d0, d1⟩ (fun hHeld => ?_)
      clear hK K
      try simp only [Act.put, List.setIfInBounds_toArray, List.set_cons_zero, List.set_cons_succ]
      refine wpAnyH_ready (rs := [14]) (by kernel_rfl) (by simp) ?_
      refine AllReadyH.cons rfl (fun K hK => ?_) AllReadyH.nil
      go_simp
      refine hK.out _ _ ⟨e0, e1⟩ (fun hHeld => ?_)
      clear hK K
      try simp only [Act.put, List.setIfInBounds_toArray, List.set_cons_zero, List.set_cons_succ]
      refine wpAnyH_done (by kernel_rfl) ?_ _
      go_end0
      exact ⟨rfl, HP.out⟩
    · go_simp
      refine (HHW.out _).mono ?_
      rintro e w' ⟨rfl, rfl⟩
      go_wp2_with fail
      refine hK.out _ _ ⟨c0, c1⟩ (fun hHeld => ?_)
      clear hK K
      try simp only [Act.put, List.setIfInBounds_toArray, List.set_cons_zero, List.set_cons_succ]
      refine wpAnyH_ready (rs := [4, 10]) (by kernel_rfl) (by simp) ?_
      refine AllReadyH.cons rfl (fun K hK => ?_) (AllReadyH.cons rfl (fun K hK => ?_) AllReadyH.nil)
      · go_simp
        refine hK.out _ _ ⟨c0, c1⟩ (fun hHeld => ?_)
        clear hK K
        try simp only [Act.put, List.setIfInBounds_toArray, List.set_cons_zero, List.set_cons_succ]
        refine wpAnyH_ready (rs := [10]) (by kernel_rfl) (by simp) ?_
        refine AllReadyH.cons rfl (fun K hK => ?_) AllReadyH.nil
        go_simp
        refine hK.out _ _ ⟨c0, c1⟩ (fun hHeld => ?_)
        clear hK K
        try simp only [Act.put, List.setIfInBounds_toArray, List.set_cons_zero, List.set_cons_succ]
        refine wpAnyH_ready (rs := [11]) (by kernel_rfl) (by simp) ?_
        refine AllReadyH.cons rfl (fun K hK => ?_) AllReadyH.nil
        refine step_append rfl _ _ 27 rfl _ _ _ rfl rfl HR.out ?_
        refine hK.out _ _ ⟨d0, d1⟩ (fun hHeld => ?_)
        clear hK K
        try simp only [Act.put, List.setIfInBounds_toArray]
        refine wpAnyH_ready (rs := [12]) (by kernel_rfl) (by simp) ?_
        refine AllReadyH.cons rfl (fun K hK => ?_) AllReadyH.nil
        go_simp
        refine hK.out _ _ ⟨d0, d1⟩ (fun hHeld => ?_)
        clear hK K
        try simp only [Act.put, List.setIfInBounds_toArray, List.set_cons_zero, List.set_cons_succ]
        refine wpAnyH_ready (rs := [13]) (by kernel_rfl) (by simp) ?_
        refine AllReadyH.cons rfl (fun K hK => ?_) AllReadyH.nil
        go_simp
        refine hK.out _ _ ⟨d0, d1⟩ (fun hHeld => ?_)
        clear hK K
        try simp only [Act.put, List.setIfInBounds_toArray, List.set_cons_zero, List.set_cons_succ]
        refine wpAnyH_ready (rs := [14]) (by kernel_rfl) (by simp) ?_
        refine AllReadyH.cons rfl (fun K hK => ?_) AllReadyH.nil
        go_simp
        refine hK.out _ _ ⟨e0, e1⟩ (fun hHeld => ?_)
        clear hK K
        try simp only [Act.put, List.setIfInBounds_toArray, List.set_cons_zero, List.set_cons_succ]
        refine wpAnyH_done (by kernel_rfl) ?_ _
        go_end0
        exact ⟨rfl, HP.out⟩
      · go_simp
        refine hK.out _ _ ⟨c0, c1⟩ (fun hHeld => ?_)
        clear hK K
        try simp only [Act.put, List.setIfInBounds_toArray, List.set_cons_zero, List.set_cons_succ]
        refine wpAnyH_ready (rs := [4]) (by kernel_rfl) (by simp) ?_
        refine AllReadyH.cons rfl (fun K hK => ?_) AllReadyH.nil
        go_simp
        refine hK.out _ _ ⟨c0, c1⟩ (fun hHeld => ?_)
        clear hK K
        try simp only [Act.put, List.setIfInBounds_toArray, List.set_cons_zero, List.set_cons_succ]
        refine wpAnyH_ready (rs := [11]) (by kernel_rfl) (by simp) ?_
        refine AllReadyH.cons rfl (fun K hK => ?_) AllReadyH.nil
        refine step_append rfl _ _ 27 rfl _ _ _ rfl rfl HR.out ?_
        refine hK.out _ _ ⟨d0, d1⟩ (fun hHeld => ?_)
        clear hK K
        try simp only [Act.put, List.setIfInBounds_toArray]
        refine wpAnyH_ready (rs := [12]) (by kernel_rfl) (by simp) ?_
        refine AllReadyH.cons rfl (fun K hK => ?_) AllReadyH.nil
        go_simp
        refine hK.out _ _ ⟨d0, d1⟩ (fun hHeld => ?_)
        clear hK K
        try simp only [Act.put, List.setIfInBounds_toArray, List.set_cons_zero, List.set_cons_succ]
        refine wpAnyH_ready (rs := [13]) (by kernel_rfl) (by simp) ?_
        refine AllReadyH.cons rfl (fun K hK => ?_) AllReadyH.nil
        go_simp
        refine hK.out _ _ ⟨d0, d1⟩ (fun hHeld => ?_)
        clear hK K
        try simp only [Act.put, List.setIfInBounds_toArray, List.set_cons_zero, List.set_cons_succ]
        refine wpAnyH_ready (rs := [14]) (by kernel_rfl) (by simp) ?_
        refine AllReadyH.cons rfl (fun K hK => ?_) AllReadyH.nil
        go_simp
        refine hK.out _ _ ⟨e0, e1⟩ (fun hHeld => ?_)
        clear hK K
        try simp only [Act.put, List.setIfInBounds_toArray, List.set_cons_zero, List.set_cons_succ]
        refine wpAnyH_done (by kernel_rfl) ?_ _
        go_end0
        exact ⟨rfl, HP.out⟩

end Go.Proofs.YtjhiekijbcjohaaGreatDoor
