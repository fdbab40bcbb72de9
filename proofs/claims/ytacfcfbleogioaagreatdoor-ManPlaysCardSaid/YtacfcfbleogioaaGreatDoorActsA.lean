/-
  The program's keep: a file's first bytes are left. Conditions: the file lies in memory; it has so many bytes.
  What the program's operations do: the closures of Create, Sync, Cut, Delete and Rename. Conditions: what they captured lies in memory.
  What the program's Append does: its two closures. Conditions: what they captured lies in memory; the bytes together are fewer than 2 to the 31.
-/
import Derived.Test.YtacfcfbleogioaaGreatDoorUsedA
import Derived.BigRegion
import Derived.Deep.RegionLaw
import Derived.Deep.RegionHeldLaw
import Derived.StillTactics
namespace Go.Proofs.YtacfcfbleogioaaGreatDoor
open Go.RowKit Go.Lib Go.Joins

/-- A file's struct has been written, and nothing else. -/
def SetF (fb : Nat) (dv : Value) (safe : Int) (w w' : World) : Prop := w'.heap[fb]? = some (.cells #[dv, .int .i64 safe] 74 (0, 0)) ∧ Keeps (One fb) w w'

theorem SetF.drew {fb : Nat} {dv : Value} {s : Int} {w w' : World} (h : SetF fb dv s w w') : SetF fb dv s w w'.drew := ⟨h.1, h.2.drew⟩

end Go.Proofs.YtacfcfbleogioaaGreatDoor

namespace Go.Proofs.YtacfcfbleogioaaGreatDoor
open Go.RowKit Go.Lib Go.Joins

/-- A call that hands nothing back. -/
def Ran (R : World → Prop) (e : Ending) (w' : World) : Prop := e = .returned (.tuple #[]) ∧ R w'

/-- The map of files is another one, a new file lies in memory. -/
def PutF (F fb : Nat) (n : Nat) (D : DataW Nat) (w w' : World) : Prop :=
  w'.ownsMap Tryz.prog 9 Rp F n D ∧ w'.heap[fb]? = some (.cells #[.slice none 0 0, .int .i64 0] 74 (0, 0)) ∧ Keeps (One F) w w'

set_option maxRecDepth 100000 in
set_option maxHeartbeats 4000000 in
theorem create1_calls (xd xn B F n : Nat) (s : ByteArray) (D : DataW Nat) (w : World) (h0 : w.cell? ⟨xd, 0, none⟩ = some (.pointer (some ⟨B, 0, none⟩))) (h1 : w.cell? ⟨xn, 0, none⟩ = some (.string s)) (hB : w.cell? ⟨B, 1, none⟩ = some (.map (some F)))
    (hown : w.ownsMap Tryz.prog 9 Rp F n D) (hn : n ≤ 1073741824) (hs : s.size ≤ 1099511627776) :
    Calls Tryz.prog 100 #[.pointer (some ⟨xd, 0, none⟩), .pointer (some ⟨xn, 0, none⟩)] w (Ran (PutF F w.heap.size (n + 1) (D.put (lit s) (.lit (.int .u64 (w.heap.size : Int)))) w)) := by
  have hF := hown.lt
  have ho2 : ((w.alloc (.cells #[.slice none 0 0, .int .i64 0] 74)).drew).ownsMap Tryz.prog 9 Rp F n D := (hown.alloc _).drew
  obtain ⟨w2, hrun, hown2, hturn⟩ := ho2.store keyed9 Tryz.underlying75 (by unfold maxLen; omega) (keyOf_name (s := s) (by unfold maxLen; omega)) (Rp_mk w.heap.size)
  have hg := hturn.grown
  have hfb : w2.heap[w.heap.size]? = some (.cells #[.slice none 0 0, .int .i64 0] 74 (0, 0)) := (hg.block w.heap.size (by show _ < (w.alloc _).heap.size; simp) (by simp; omega)).trans (heap_alloc_new w _)
  have hk : Keeps (One F) w w2 := (((Keeps.refl (One F) w).alloc _).drew).grown hg (fun k e => .inl (Option.some.inj e).symm)
  have HP : Hid (PutF F w.heap.size (n + 1) (D.put (lit s) (.lit (.int .u64 (w.heap.size : Int)))) w w2) := Lib.hid ⟨hown2, hfb, hk⟩
  have lx := lt_of_cell h0
  have ln := lt_of_cell h1
  have lB := lt_of_cell hB
  clear hown ho2 hown2 hturn hg hfb hk hn hs
  go_enter Tryz.func100, Tryz.ntmps100
  go_wp2
  go_region
  all_goals
    go_end0
    exact ⟨rfl, HP.out⟩

set_option maxRecDepth 100000 in
set_option maxHeartbeats 4000000 in
theorem sync1_calls (xf fb : Nat) (a : Option Addr) (len cap : Nat) (z : Int) (w : World) (h0 : w.cell? ⟨xf, 0, none⟩ = some (.pointer (some ⟨fb, 0, none⟩))) (h : w.heap[fb]? = some (.cells #[.slice a len cap, .int .i64 z] 74 (0, 0))) (_hl : len ≤ 1073741824) :
    Calls Tryz.prog 103 #[.pointer (some ⟨xf, 0, none⟩)] w (Ran (SetF fb (.slice a len cap) (len : Int) w)) := by
  have c0 : w.cell? ⟨fb, 0, none⟩ = some (.slice a len cap) := (cell_of_block h 0).trans rfl
  have c1 : w.cell? ⟨fb, 1, none⟩ = some (.int .i64 z) := (cell_of_block h 1).trans rfl
  have f1 : w.frozen? ⟨fb, 1, none⟩ = false := unfrozen_of_block h 1
  have hb := block_setCell (i := 1) h (.int .i64 (len : Int))
  have HP : Hid (SetF fb (.slice a len cap) (len : Int) w (w.setCell ⟨fb, 1, none⟩ (.int .i64 (len : Int)))) := Lib.hid ⟨hb, (Keeps.refl (One fb) w).setCell (p := ⟨fb, 1, none⟩) (.inl rfl) _⟩
  clear hb h
  go_enter Tryz.func103, Tryz.ntmps103
  go_wp2
  go_region
  all_goals
    go_end0
    exact ⟨rfl, HP.out.drew⟩

/-- delete, as one step of a region that draws. -/
theorem step_delete {P : Program} {ops : Array Oper} {o : Oper} {a : Act} {w w' : World} {K : Act → World → Prop} {Q : Exit → Act → World → Prop} {E : Prop}
    (hg : o.guard = none) (m x : Operand) (t k : TypeId) (hop : o.op = Op.call { callee := Callee.builtin Builtin.delete, args := #[m, x], argTypes := #[t, k] })
    (vm vx : Value) (hm : a.eval m = vm) (hx : a.eval x = vx) (hrun : ∀ ty, (Builtin.delete_ #[t, k] ty #[vm, vx]).run P w = .ok (.tuple #[]) w') (hK : K (a.put o.dst (.tuple #[])) w') :
    if Region.wanted o (yielded ops a.tmps) = true then Oper.wp P o a w K Q else E := by
  have hw : Region.wanted o (yielded ops a.tmps) = true := by simp [Region.wanted, hg]
  rw [if_pos hw]
  unfold Oper.wp
  simp [execOp, hop, resolve, invoke, builtin, hm, hx, hrun o.type, Result.andThen]
  exact hK

/-- The map of files is another one. -/
def OnlyF (F : Nat) (n : Nat) (D : DataW Nat) (w w' : World) : Prop := w'.ownsMap Tryz.prog 9 Rp F n D ∧ Keeps (One F) w w'

theorem drop_run {w : World} {F n : Nat} {D : DataW Nat} (h : w.ownsMap Tryz.prog 9 Rp F n D) {s : ByteArray} (hs : s.size ≤ maxLen) :
    ∃ w', (∀ ty, (Builtin.delete_ #[75, 9] ty #[.map (some F), .string s]).run Tryz.prog w = .ok (.tuple #[]) w') ∧ w'.ownsMap Tryz.prog 9 Rp F n (D.del (lit s)) ∧ Keeps (One F) w w' := by
  obtain ⟨w1, h1, h2, h3⟩ := h.drop keyed9 Tryz.underlying75 (keyOf_name hs) 0
  refine ⟨w1, fun ty => ?_, h2, (Keeps.refl (One F) w).grown h3.grown (fun k e => .inl (Option.some.inj e).symm)⟩
  rw [← h1]
  rfl

set_option maxRecDepth 100000 in
set_option maxHeartbeats 4000000 in
theorem delete1_calls (xd xn B F n : Nat) (s : ByteArray) (D : DataW Nat) (w : World) (h0 : w.cell? ⟨xd, 0, none⟩ = some (.pointer (some ⟨B, 0, none⟩))) (h1 : w.cell? ⟨xn, 0, none⟩ = some (.string s)) (hB : w.cell? ⟨B, 1, none⟩ = some (.map (some F)))
    (hown : w.ownsMap Tryz.prog 9 Rp F n D) (hs : s.size ≤ 1099511627776) :
    Calls Tryz.prog 99 #[.pointer (some ⟨xd, 0, none⟩), .pointer (some ⟨xn, 0, none⟩)] w (Ran (OnlyF F n (D.del (lit s)) w)) := by
  obtain ⟨w2, hrun, hown2, hk⟩ := drop_run hown.drew (s := s) (by unfold maxLen; omega)
  have HP : Hid (OnlyF F n (D.del (lit s)) w w2) := Lib.hid ⟨hown2, ((Keeps.refl (One F) w).drew).trans hk (fun _ hk => .inl hk)⟩
  have HR := Lib.hid hrun
  clear hown hown2 hk hs hrun
  go_enter Tryz.func99, Tryz.ntmps99
  go_wp2
  go_region_law (refine step_delete rfl _ _ 75 9 rfl _ _ rfl rfl HR.out ?_)
  all_goals
    go_end0
    exact ⟨rfl, HP.out⟩

theorem cell_keepF {w w' : World} {F n : Nat} {D : DataW Nat} (h : w.ownsMap Tryz.prog 9 Rp F n D) (hk : Keeps (One F) w w') {b o : Nat} {v : Value} (hc : w.cell? ⟨b, o, none⟩ = some v) : w'.cell? ⟨b, o, none⟩ = some v := by
  have hne : b ≠ F := by
    rintro rfl
    obtain ⟨es, clock, hb, _⟩ := h
    simp [World.cell?, hb] at hc
  exact (World.cell?_of_block (a := ⟨b, o, none⟩) (hk.block b (lt_of_cell hc) hne)).trans hc

set_option maxRecDepth 100000 in
set_option maxHeartbeats 4000000 in
theorem rename1_calls (xd xn xf xt B F n fb : Nat) (s t : ByteArray) (D : DataW Nat) (w : World) (h0 : w.cell? ⟨xd, 0, none⟩ = some (.pointer (some ⟨B, 0, none⟩))) (h1 : w.cell? ⟨xn, 0, none⟩ = some (.string s)) (h2 : w.cell? ⟨xf, 0, none⟩ = some (.pointer (some ⟨fb, 0, none⟩)))
    (h3 : w.cell? ⟨xt, 0, none⟩ = some (.string t)) (hB : w.cell? ⟨B, 1, none⟩ = some (.map (some F)))
    (hown : w.ownsMap Tryz.prog 9 Rp F n D) (hn : n ≤ 1073741824) (hs : s.size ≤ 1099511627776) (ht : t.size ≤ 1099511627776) :
    Calls Tryz.prog 104 #[.pointer (some ⟨xd, 0, none⟩), .pointer (some ⟨xn, 0, none⟩), .pointer (some ⟨xf, 0, none⟩), .pointer (some ⟨xt, 0, none⟩)] w (Ran (OnlyF F (n + 1) ((D.del (lit s)).put (lit t) (.lit (.int .u64 (fb : Int)))) w)) := by
  obtain ⟨w2, hrun, hown2, hk⟩ := drop_run hown.drew (s := s) (by unfold maxLen; omega)
  have hk2 : Keeps (One F) w w2 := ((Keeps.refl (One F) w).drew).trans hk (fun _ hk => .inl hk)
  have c0 := cell_keepF hown hk2 h0
  have c2 := cell_keepF hown hk2 h2
  have c3 := cell_keepF hown hk2 h3
  have cB := cell_keepF hown hk2 hB
  obtain ⟨w3, hrun3, hown3, hturn⟩ := hown2.drew.store keyed9 Tryz.underlying75 (by unfold maxLen; omega) (keyOf_name (s := t) (by unfold maxLen; omega)) (Rp_mk fb)
  have HP : Hid (OnlyF F (n + 1) ((D.del (lit s)).put (lit t) (.lit (.int .u64 (fb : Int)))) w w3) := Lib.hid ⟨hown3, (hk2.drew).grown hturn.grown (fun k e => .inl (Option.some.inj e).symm)⟩
  have HR := Lib.hid hrun
  clear hown hown2 hk hk2 hs ht hrun hown3 hturn hn
  go_enter Tryz.func104, Tryz.ntmps104
  go_wp2
  go_region_law (refine step_delete rfl _ _ 75 9 rfl _ _ rfl rfl HR.out ?_)
  all_goals
    go_wp2
    go_region
    all_goals
      go_end0
      exact ⟨rfl, HP.out⟩

/-! ### append -/
theorem info5 : (Tryz.prog.info? 5).map (fun i => (i.zero, i.size, i.bytes)) = some (some (.int .u8 0), 1, 1) := by kernel_rfl

/-- Bytes are appended to a row of the disk's own: there, or in a new block. -/
theorem append_run {w : World} {v : Value} {n : Nat} {xs : List Value} (hown : w.ownsRow 0 5 1 v n xs) {S : Nat → Prop} {a : Option Addr} {m c : Nat} {l : List Nat} (hl : l.length = m) (hr : Row w S a l) (hc : a = none → c = 0) (h63 : n + m ≤ 2147483648) :
    ∃ v' w', (∀ ty, (Builtin.append_ #[61, 61] ty #[v, .slice a m c]).run Tryz.prog w = .ok v' w') ∧ w'.ownsRow 0 5 1 v' (n + m) (xs ++ cellsN l) ∧ w.grownBy w' v.ownBlock ∧ ∀ k, v'.ownBlock = some k → v.ownBlock = some k ∨ w.heap.size ≤ k := by
  obtain ⟨i5, hi5, hj50, hj51, hj52⟩ := info_parts info5
  cases a with
  | none =>
    have hl0 : l = [] := by
      rcases hr.2 with h0 | ⟨b, o, he, _⟩
      · exact h0
      · cases he
    obtain rfl : c = 0 := hc rfl
    subst hl0
    obtain rfl : m = 0 := by rw [← hl]; rfl
    refine ⟨v, w, fun ty => run_append_owned_none (P := Tryz.prog) (w := w) 0 61 ty 5 i5 1 Tryz.underlying61 hi5 v n xs hown, by simpa [cellsN] using hown, ⟨rfl, rfl, rfl, Nat.le_refl _, fun _ _ _ => rfl⟩, fun k hk => .inl hk⟩
  | some b =>
    have hnews := row_cells hr
    have h1 : ∀ u ∈ cellsN l, u.oneCell' = true := by
      intro u hu
      obtain ⟨z, _, rfl⟩ := List.mem_map.1 hu
      rfl
    have hll : (cellsN l).length = m * 1 := by rw [cellsN_len, hl, Nat.mul_one]
    have hmx : n + m ≤ maxLen := by unfold maxLen; omega
    obtain ⟨v', w', hrun, h2, h3, h4⟩ := run_append_own (P := Tryz.prog) w 0 61 61 5 i5 (.int .u8 0) 1 1 Tryz.underlying61 hi5 hj50 hj51 hj52 rfl (by decide) v n xs hown b m c (cellsN l) hll hnews h1 hmx (by omega) (Nat.zero_le _)
    refine ⟨v', w', fun ty => ?_, h2, h3, ?_⟩
    · rw [← hrun]
      rfl
    · have hli : (cellsN l).length = m * i5.size := by rw [hj51]; exact hll
      rcases hown.2 with ⟨rfl, rfl⟩ | ⟨g, cap, cur, rfl, hbg, hg, hnc, hcm, hcs, htake⟩
      · by_cases hm : m = 0
        · intro k hk
          have := h4.2 ⟨rfl, hm⟩
          rw [this] at hk
          cases hk
        · have hr2 := run_append_nil (P := Tryz.prog) w 61 61 5 i5 (.int .u8 0) Tryz.underlying61 hi5 hj50 b m c (cellsN l) hli hnews (by omega) (by omega) (by rw [hj52]; omega)
          rw [hr2] at hrun
          have e := (Result.ok.inj hrun).1
          intro k hk
          rw [← e] at hk
          have : w.heap.size = k := Option.some.inj hk
          exact .inr (by omega)
      · by_cases hroom : n + m ≤ cap
        · have hr2 := run_append_room (P := Tryz.prog) w 61 61 5 i5 Tryz.underlying61 hi5 g n cap cur hg b m c (cellsN l) hli hnews h1 hroom (by rw [hj51, hcs, cellsN_len, hl]; omega)
          rw [hr2] at hrun
          have e := (Result.ok.inj hrun).1
          intro k hk
          rw [← e] at hk
          exact .inl hk
        · have holds : ∀ j u, xs[j]? = some u → w.cell? ((⟨g, 0, none⟩ : Addr).add j) = some u := hown.cells (g := g) rfl
          have hr2 := run_append_grow (P := Tryz.prog) w 61 61 5 i5 (.int .u8 0) Tryz.underlying61 hi5 hj50 ⟨g, 0, none⟩ n cap xs (by rw [hj51]; exact hown.1) holds b m c (cellsN l) hli hnews (by omega) (by omega) (growslice_fits (by omega) (by rw [hj52]; omega))
          rw [hr2] at hrun
          have e := (Result.ok.inj hrun).1
          intro k hk
          rw [← e] at hk
          have : w.heap.size = k := Option.some.inj hk
          exact .inr (by omega)

end Go.Proofs.YtacfcfbleogioaaGreatDoor

namespace Go.Proofs.YtacfcfbleogioaaGreatDoor
open Go.RowKit Go.Lib Go.Joins

/-- append, as one step of a region that draws. -/
theorem step_append {P : Program} {ops : Array Oper} {o : Oper} {a : Act} {w w' : World} {K : Act → World → Prop} {Q : Exit → Act → World → Prop} {E : Prop}
    (hg : o.guard = none) (s x : Operand) (t : TypeId) (hop : o.op = Op.call { callee := Callee.builtin Builtin.append, args := #[s, x], argTypes := #[t, t] })
    (vs vx v : Value) (hs : a.eval s = vs) (hx : a.eval x = vx) (hrun : ∀ ty, (Builtin.append_ #[t, t] ty #[vs, vx]).run P w = .ok v w') (hK : K (a.put o.dst v) w') :
    if Region.wanted o (yielded ops a.tmps) = true then Oper.wp P o a w K Q else E := by
  have hw : Region.wanted o (yielded ops a.tmps) = true := by simp [Region.wanted, hg]
  rw [if_pos hw]
  unfold Oper.wp
  simp [execOp, hop, resolve, invoke, builtin, hs, hx, hrun o.type, Result.andThen]
  exact hK

/-- A file has more bytes. -/
def AddF (fb : Nat) (dv : Value) (safe : Int) (n : Nat) (xs : List Value) (w w' : World) : Prop :=
  ∃ dv', w'.heap[fb]? = some (.cells #[dv', .int .i64 safe] 74 (0, 0)) ∧ w'.ownsRow 0 5 1 dv' n xs ∧ (∀ k, dv'.ownBlock = some k → dv.ownBlock = some k ∨ w.heap.size ≤ k) ∧ Keeps (fun k => k = fb ∨ dv.ownBlock = some k) w w'

theorem other_elem {w : World} {b e n : Nat} {v : Value} {xs cs : _} {t : TypeId} {fr : Nat × Nat} (h : w.heap[b]? = some (.cells cs t fr)) (hown : w.ownsRow 0 e 1 v n xs) (ht : t ≠ e) : v.ownBlock ≠ some b := by
  intro hb
  rcases hown.2 with ⟨rfl, _⟩ | ⟨g, cap, cur, rfl, _, hg, _⟩
  · cases hb
  · have : g = b := Option.some.inj hb
    subst this
    rw [h] at hg
    simp only [Option.some.injEq, Obj.cells.injEq] at hg
    exact ht hg.2.1

/-- What an append leaves of the blocks that the closure looks at. -/
theorem added {w w' : World} {fb n m : Nat} {dv v' : Value} {safe : Int} {xs ys : List Value} (h : w.heap[fb]? = some (.cells #[dv, .int .i64 safe] 74 (0, 0))) (hown : w.ownsRow 0 5 1 dv n xs) (ho : w'.ownsRow 0 5 1 v' m ys)
    (hg : w.grownBy w' dv.ownBlock) (hf : ∀ k, v'.ownBlock = some k → dv.ownBlock = some k ∨ w.heap.size ≤ k) :
    AddF fb dv safe m ys w (w'.setCell ⟨fb, 0, none⟩ v') := by
  have hne := other_elem h hown (by decide)
  have h' : w'.heap[fb]? = some (.cells #[dv, .int .i64 safe] 74 (0, 0)) := (hg.block fb (lt_of_block h) (fun e => hne e.symm)).trans h
  refine ⟨v', block_setCell (i := 0) h' v', ?_, hf, ((Keeps.refl _ w).grown hg (fun k e => .inl (.inr e))).setCell (p := ⟨fb, 0, none⟩) (.inl (.inl rfl)) _⟩
  exact ownsRow_keep ho ((Keeps.refl (One fb) w').setCell (p := ⟨fb, 0, none⟩) (.inl rfl) _) (fun k hk e => other_elem h' ho (by decide) (by rw [hk]; exact congrArg some e))

theorem AddF.drew {fb : Nat} {dv : Value} {safe : Int} {n : Nat} {xs : List Value} {w w' : World} (h : AddF fb dv safe n xs w w') : AddF fb dv safe n xs w w'.drew := by
  obtain ⟨dv', h1, h2, h3, h4⟩ := h
  exact ⟨dv', h1, h2, h3, h4.drew⟩

theorem AddF.of_drew {fb : Nat} {dv : Value} {safe : Int} {n : Nat} {xs : List Value} {w w' : World} (h : AddF fb dv safe n xs w.drew w') : AddF fb dv safe n xs w w' := by
  obtain ⟨dv', h1, h2, h3, h4⟩ := h
  exact ⟨dv', h1, h2, h3, ((Keeps.refl _ w).drew).trans h4 (fun _ hk => .inl hk)⟩

set_option maxRecDepth 100000 in
set_option maxHeartbeats 4000000 in
theorem append1_calls (xf xb fb : Nat) (dv : Value) (n m c : Nat) (a : Option Addr) (safe : Int) (xs : List Value) (l : List Nat) (S : Nat → Prop) (w : World) (h0 : w.heap[xf]? = some (.cells #[.pointer (some ⟨fb, 0, none⟩)] 71 (0, 0))) (h1 : w.heap[xb]? = some (.cells #[.slice a m c] 61 (0, 0)))
    (h : w.heap[fb]? = some (.cells #[dv, .int .i64 safe] 74 (0, 0))) (hown : w.ownsRow 0 5 1 dv n xs) (hl : l.length = m) (hr : Row w S a l) (hc : a = none → c = 0) (h63 : n + m ≤ 2147483648) :
    Calls Tryz.prog 101 #[.pointer (some ⟨xf, 0, none⟩), .pointer (some ⟨xb, 0, none⟩)] w (Ran (AddF fb dv safe (n + m) (xs ++ cellsN l) w)) := by
  obtain ⟨v', w2, hrun, hown2, hg, hf⟩ := append_run (w := w.drew) hown hl hr hc h63
  have HP : Hid (AddF fb dv safe (n + m) (xs ++ cellsN l) w (w2.setCell ⟨fb, 0, none⟩ v')) := Lib.hid (added (w := w.drew) h hown hown2 hg hf).of_drew
  obtain ⟨a', c', rfl⟩ := dv_form hown2
  have k0 : w2.heap[xf]? = some (.cells #[.pointer (some ⟨fb, 0, none⟩)] 71 (0, 0)) := (hg.block xf (lt_of_block h0) (fun e => other_elem h0 hown (by decide) e.symm)).trans h0
  have kf : w2.heap[fb]? = some (.cells #[dv, .int .i64 safe] 74 (0, 0)) := (hg.block fb (lt_of_block h) (fun e => other_elem h hown (by decide) e.symm)).trans h
  have c0 : w.cell? ⟨xf, 0, none⟩ = some (.pointer (some ⟨fb, 0, none⟩)) := (cell_of_block h0 0).trans rfl
  have c1 : w.cell? ⟨xb, 0, none⟩ = some (.slice a m c) := (cell_of_block h1 0).trans rfl
  have cf : w.cell? ⟨fb, 0, none⟩ = some dv := (cell_of_block h 0).trans rfl
  have d0 : w2.cell? ⟨xf, 0, none⟩ = some (.pointer (some ⟨fb, 0, none⟩)) := (cell_of_block k0 0).trans rfl
  have df : w2.cell? ⟨fb, 0, none⟩ = some dv := (cell_of_block kf 0).trans rfl
  have ff : w2.frozen? ⟨fb, 0, none⟩ = false := unfrozen_of_block kf 0
  have HR := Lib.hid hrun
  clear hrun hown2 hg hf k0 kf h h0 h1 hown hl hr hc h63
  go_enter Tryz.func101, Tryz.ntmps101
  go_wp2
  go_region_law (refine step_append rfl _ _ 61 rfl _ _ _ rfl rfl HR.out ?_)
  all_goals
    go_end0
    exact ⟨rfl, HP.out⟩

set_option maxRecDepth 100000 in
set_option maxHeartbeats 4000000 in
theorem append2_calls (p : Int) (xf xb fb : Nat) (dv : Value) (n c : Nat) (a : Option Addr) (safe : Int) (xs : List Value) (l : List Nat) (S : Nat → Prop) (w : World) (h0 : w.heap[xf]? = some (.cells #[.pointer (some ⟨fb, 0, none⟩)] 71 (0, 0))) (h1 : w.heap[xb]? = some (.cells #[.slice a l.length c] 61 (0, 0)))
    (h : w.heap[fb]? = some (.cells #[dv, .int .i64 safe] 74 (0, 0))) (hown : w.ownsRow 0 5 1 dv n xs) (hr : Row w S a l) (hc : a = none → c = 0) (hlc : l.length ≤ c) (hcm : c ≤ maxLen) (h63 : n + l.length ≤ 2147483648) :
    Calls Tryz.prog 102 #[.int .i64 p, .pointer (some ⟨xf, 0, none⟩), .pointer (some ⟨xb, 0, none⟩)] w (Ran (AddF fb dv safe (n + wth p l.length) (xs ++ cellsN (l.take (wth p l.length))) w)) := by
  have hw := wth_le p l.length
  have HW := fun w => within_calls p l.length w
  obtain ⟨m, hm⟩ : ∃ m, wth p l.length = m := ⟨_, rfl⟩
  rw [hm] at hw ⊢
  simp only [hm] at HW
  have HHW := Lib.hid HW
  obtain ⟨v', w2, hrun, hown2, hg, hf⟩ := append_run (w := w.drew) hown (m := m) (c := c) (l := l.take m) (by rw [List.length_take]; omega) (Row.take hr m) hc (by omega)
  have HP : Hid (AddF fb dv safe (n + m) (xs ++ cellsN (l.take m)) w (w2.setCell ⟨fb, 0, none⟩ v')) := Lib.hid (added (w := w.drew) h hown hown2 hg hf).of_drew
  obtain ⟨a', c', rfl⟩ := dv_form hown2
  have k0 : w2.heap[xf]? = some (.cells #[.pointer (some ⟨fb, 0, none⟩)] 71 (0, 0)) := (hg.block xf (lt_of_block h0) (fun e => other_elem h0 hown (by decide) e.symm)).trans h0
  have kf : w2.heap[fb]? = some (.cells #[dv, .int .i64 safe] 74 (0, 0)) := (hg.block fb (lt_of_block h) (fun e => other_elem h hown (by decide) e.symm)).trans h
  have c0 : w.cell? ⟨xf, 0, none⟩ = some (.pointer (some ⟨fb, 0, none⟩)) := (cell_of_block h0 0).trans rfl
  have c1 : w.cell? ⟨xb, 0, none⟩ = some (.slice a l.length c) := (cell_of_block h1 0).trans rfl
  have cf : w.cell? ⟨fb, 0, none⟩ = some dv := (cell_of_block h 0).trans rfl
  have d0 : w2.cell? ⟨xf, 0, none⟩ = some (.pointer (some ⟨fb, 0, none⟩)) := (cell_of_block k0 0).trans rfl
  have df : w2.cell? ⟨fb, 0, none⟩ = some dv := (cell_of_block kf 0).trans rfl
  have k1 : w2.heap[xb]? = some (.cells #[.slice a l.length c] 61 (0, 0)) := (hg.block xb (lt_of_block h1) (fun e => other_elem h1 hown (by decide) e.symm)).trans h1
  have d1 : w2.cell? ⟨xb, 0, none⟩ = some (.slice a l.length c) := (cell_of_block k1 0).trans rfl
  have n0 : xf ≠ fb := by rintro rfl; rw [h] at h0; simp at h0
  have n1 : xb ≠ fb := by rintro rfl; rw [h] at h1; simp at h1
  have e0 : (w2.setCell ⟨fb, 0, none⟩ (.slice a' (n + m) c')).cell? ⟨xf, 0, none⟩ = some (.pointer (some ⟨fb, 0, none⟩)) := (World.cell?_of_block (w := w2) (Below.heap_setCell w2 ⟨fb, 0, none⟩ _ xf n0)).trans d0
  have e1 : (w2.setCell ⟨fb, 0, none⟩ (.slice a' (n + m) c')).cell? ⟨xb, 0, none⟩ = some (.slice a l.length c) := (World.cell?_of_block (w := w2) (Below.heap_setCell w2 ⟨fb, 0, none⟩ _ xb n1)).trans d1
  have ff : w2.frozen? ⟨fb, 0, none⟩ = false := unfrozen_of_block kf 0
  obtain ⟨len, hlen⟩ : ∃ len, l.length = len := ⟨_, rfl⟩
  rw [hlen] at c1 hw HHW hlc d1 e1
  have HR := Lib.hid hrun
  unfold maxLen at hcm
  have hmc : m ≤ c := by omega
  cases a with
  | none =>
    obtain rfl : c = 0 := hc rfl
    obtain rfl : len = 0 := by omega
    obtain rfl : m = 0 := by omega
    clear hrun hown2 hg hf k0 k1 kf h h0 h1 hown hr hc h63 hm HW hlen
    go_enter Tryz.func102, Tryz.ntmps102
    go_wp2
    refine wp_region_held_drew (S := fun W => W.cell? ⟨xf, 0, none⟩ = some (.pointer (some ⟨fb, 0, none⟩)) ∧ W.cell? ⟨xb, 0, none⟩ = some (.slice none 0 0)) (by kernel_rfl) ⟨c0, c1⟩ (fun hHeld => ?_)
    refine wpAnyH_take (i := 0) (v := ?_) rfl (by kernel_rfl) (by kernel_rfl) (by kernel_rfl) (fun _ _ _ h => h) (Or.inl ⟨by rfl, ?_⟩) (by assumption) ?_
    rotate_left
    · intro W hS
      try dsimp only at hS
      go_simp
      try with_reducible rfl
    simp only [Act.put, List.setIfInBounds_toArray]
    refine wpAnyH_take (i := 1) (v := ?_) rfl (by kernel_rfl) (by kernel_rfl) (by kernel_rfl) (fun _ _ _ h => h) (Or.inl ⟨by rfl, ?_⟩) (by assumption) ?_
    rotate_left
    · intro W hS
      try dsimp only at hS
      go_simp
      try with_reducible rfl
    simp only [Act.put]
    refine wpAnyH_take (i := 2) (v := ?_) rfl (by kernel_rfl) (by kernel_rfl) (by kernel_rfl) (fun _ _ _ h => h) (Or.inl ⟨by rfl, ?_⟩) (by assumption) ?_
    rotate_left
    · intro W hS
      try dsimp only at hS
      go_simp
      try with_reducible rfl
    simp only [Act.put]
    refine wpAnyH_take (i := 3) (v := ?_) rfl (by kernel_rfl) (by kernel_rfl) (by kernel_rfl) (fun _ _ _ h => h) (Or.inl ⟨by rfl, ?_⟩) (by assumption) ?_
    rotate_left
    · intro W hS
      try dsimp only at hS
      go_simp
      try with_reducible rfl
    simp only [Act.put]
    refine wpAnyH_take (i := 5) (v := ?_) rfl (by kernel_rfl) (by kernel_rfl) (by kernel_rfl) (fun _ _ _ h => h) (Or.inl ⟨by rfl, ?_⟩) (by assumption) ?_
    rotate_left
    · intro W hS
      try dsimp only at hS
      go_simp
      try with_reducible rfl
    simp only [Act.put]
    refine wpAnyH_take (i := 6) (v := ?_) rfl (by kernel_rfl) (by kernel_rfl) (by kernel_rfl) (fun _ _ _ h => h) (Or.inl ⟨by rfl, ?_⟩) (by assumption) ?_
    rotate_left
    · intro W hS
      try dsimp only at hS
      go_simp
      try with_reducible rfl
    simp only [Act.put]
    refine wpAnyH_take (i := 7) (v := ?_) rfl (by kernel_rfl) (by kernel_rfl) (by kernel_rfl) (fun _ _ _ h => h) (Or.inl ⟨by rfl, ?_⟩) (by assumption) ?_
    rotate_left
    · intro W hS
      try dsimp only at hS
      go_simp
      try with_reducible rfl
    simp only [Act.put]
    refine wpAnyH_take (i := 8) (v := ?_) rfl (by kernel_rfl) (by kernel_rfl) (by kernel_rfl) (fun _ _ _ h => h) (Or.inl ⟨by rfl, ?_⟩) (by assumption) ?_
    rotate_left
    · intro W hS
      try dsimp only at hS
      go_simp
      try with_reducible rfl
    simp only [Act.put]
    refine wpAnyH_ready (rs := [4, 9]) (by kernel_rfl) (by simp) ?_
    refine AllReadyH.cons rfl (fun K hK => ?_) (AllReadyH.cons rfl (fun K hK => ?_) AllReadyH.nil)
    · go_simp
      refine hK.out _ _ ⟨c0, c1⟩ (fun hHeld => ?_)
      clear hK K
      try simp only [Act.put, List.setIfInBounds_toArray, List.set_cons_zero, List.set_cons_succ]
      refine wpAnyH_ready (rs := [9]) (by kernel_rfl) (by simp) ?_
      refine AllReadyH.cons rfl (fun K hK => ?_) AllReadyH.nil
      go_simp
      refine (HHW.out _).mono ?_
      rintro e w' ⟨rfl, rfl⟩
      go_wp2_with fail
      refine hK.out _ _ ⟨c0, c1⟩ (fun hHeld => ?_)
      clear hK K
      try simp only [Act.put, List.setIfInBounds_toArray, List.set_cons_zero, List.set_cons_succ]
      refine wpAnyH_ready (rs := [10]) (by kernel_rfl) (by simp) ?_
      refine AllReadyH.cons rfl (fun K hK => ?_) AllReadyH.nil
      go_simp
      refine hK.out _ _ ⟨c0, c1⟩ (fun hHeld => ?_)
      clear hK K
      try simp only [Act.put, List.setIfInBounds_toArray, List.set_cons_zero, List.set_cons_succ]
      refine wpAnyH_ready (rs := [11]) (by kernel_rfl) (by simp) ?_
      refine AllReadyH.cons rfl (fun K hK => ?_) AllReadyH.nil
      refine step_append rfl _ _ 61 rfl _ _ _ rfl rfl HR.out ?_
      refine hK.out _ _ ⟨d0, d1⟩ (fun hHeld => ?_)
      clear hK K
      try simp only [Act.put, List.setIfInBounds_toArray]
      refine wpAnyH_ready (rs := [12]) (by kernel_rfl) (by simp) ?_
      refine AllReadyH.cons rfl (fun K hK => ?_) AllReadyH.nil
      go_simp
      refine hK.out _ _ ⟨d0, d1⟩ (fun hHeld => ?_)
      clear hK K
      try simp only [Act.put, List.setIfInBounds_toArray, List.set_cons_zero, List.set_cons_succ]
      refine wpAnyH_ready (rs := [13]) (by kernel_rfl) (by simp) ?_
      refine AllReadyH.cons rfl (fun K hK => ?_) AllReadyH.nil
      go_simp
      refine hK.out _ _ ⟨d0, d1⟩ (fun hHeld => ?_)
      clear hK K
      try simp only [Act.put, List.setIfInBounds_toArray, List.set_cons_zero, List.set_cons_succ]
      refine wpAnyH_ready (rs := [14]) (by kernel_rfl) (by simp) ?_
      refine AllReadyH.cons rfl (fun K hK => ?_) AllReadyH.nil
      go_simp
      refine hK.out _ _ ⟨e0, e1⟩ (fun hHeld => ?_)
      clear hK K
      try simp only [Act.put, List.setIfInBounds_toArray, List.set_cons_zero, List.set_cons_succ]
      refine wpAnyH_done (by kernel_rfl) ?_ _
      go_end0
      exact ⟨rfl, HP.out⟩
    · go_simp
      refine (HHW.out _).mono ?_
      rintro e w' ⟨rfl, rfl⟩
      go_wp2_with fail
      refine hK.out _ _ ⟨c0, c1⟩ (fun hHeld => ?_)
      clear hK K
      try simp only [Act.put, List.setIfInBounds_toArray, List.set_cons_zero, List.set_cons_succ]
      refine wpAnyH_ready (rs := [4, 10]) (by kernel_rfl) (by simp) ?_
      refine AllReadyH.cons rfl (fun K hK => ?_) (AllReadyH.cons rfl (fun K hK => ?_) AllReadyH.nil)
      · go_simp
        refine hK.out _ _ ⟨c0, c1⟩ (fun hHeld => ?_)
        clear hK K
        try simp only [Act.put, List.setIfInBounds_toArray, List.set_cons_zero, List.set_cons_succ]
        refine wpAnyH_ready (rs := [10]) (by kernel_rfl) (by simp) ?_
        refine AllReadyH.cons rfl (fun K hK => ?_) AllReadyH.nil
        go_simp
        refine hK.out _ _ ⟨c0, c1⟩ (fun hHeld => ?_)
        clear hK K
        try simp only [Act.put, List.setIfInBounds_toArray, List.set_cons_zero, List.set_cons_succ]
        refine wpAnyH_ready (rs := [11]) (by kernel_rfl) (by simp) ?_
        refine AllReadyH.cons rfl (fun K hK => ?_) AllReadyH.nil
        refine step_append rfl _ _ 61 rfl _ _ _ rfl rfl HR.out ?_
        refine hK.out _ _ ⟨d0, d1⟩ (fun hHeld => ?_)
        clear hK K
        try simp only [Act.put, List.setIfInBounds_toArray]
        refine wpAnyH_ready (rs := [12]) (by kernel_rfl) (by simp) ?_
        refine AllReadyH.cons rfl (fun K hK => ?_) AllReadyH.nil
        go_simp
        refine hK.out _ _ ⟨d0, d1⟩ (fun hHeld => ?_)
        clear hK K
        try simp only [Act.put, List.setIfInBounds_toArray, List.set_cons_zero, List.set_cons_succ]
        refine wpAnyH_ready (rs := [13]) (by kernel_rfl) (by simp) ?_
        refine AllReadyH.cons rfl (fun K hK => ?_) AllReadyH.nil
        go_simp
        refine hK.out _ _ ⟨d0, d1⟩ (fun hHeld => ?_)
        clear hK K
        try simp only [Act.put, List.setIfInBounds_toArray, List.set_cons_zero, List.set_cons_succ]
        refine wpAnyH_ready (rs := [14]) (by kernel_rfl) (by simp) ?_
        refine AllReadyH.cons rfl (fun K hK => ?_) AllReadyH.nil
        go_simp
        refine hK.out _ _ ⟨e0, e1⟩ (fun hHeld => ?_)
        clear hK K
        try simp only [Act.put, List.setIfInBounds_toArray, List.set_cons_zero, List.set_cons_succ]
        refine wpAnyH_done (by kernel_rfl) ?_ _
        go_end0
        exact ⟨rfl, HP.out⟩
      · go_simp
        refine hK.out _ _ ⟨c0, c1⟩ (fun hHeld => ?_)
        clear hK K
        try simp only [Act.put, List.setIfInBounds_toArray, List.set_cons_zero, List.set_cons_succ]
        refine wpAnyH_ready (rs := [4]) (by kernel_rfl) (by simp) ?_
        refine AllReadyH.cons rfl (fun K hK => ?_) AllReadyH.nil
        go_simp
        refine hK.out _ _ ⟨c0, c1⟩ (fun hHeld => ?_)
        clear hK K
        try simp only [Act.put, List.setIfInBounds_toArray, List.set_cons_zero, List.set_cons_succ]
        refine wpAnyH_ready (rs := [11]) (by kernel_rfl) (by simp) ?_
        refine AllReadyH.cons rfl (fun K hK => ?_) AllReadyH.nil
        refine step_append rfl _ _ 61 rfl _ _ _ rfl rfl HR.out ?_
        refine hK.out _ _ ⟨d0, d1⟩ (fun hHeld => ?_)
        clear hK K
        try simp only [Act.put, List.setIfInBounds_toArray]
        refine wpAnyH_ready (rs := [12]) (by kernel_rfl) (by simp) ?_
        refine AllReadyH.cons rfl (fun K hK => ?_) AllReadyH.nil
        go_simp
        refine hK.out _ _ ⟨d0, d1⟩ (fun hHeld => ?_)
        clear hK K
        try simp only [Act.put, List.setIfInBounds_toArray, List.set_cons_zero, List.set_cons_succ]
        refine wpAnyH_ready (rs := [13]) (by kernel_rfl) (by simp) ?_
        refine AllReadyH.cons rfl (fun K hK => ?_) AllReadyH.nil
        go_simp
        refine hK.out _ _ ⟨d0, d1⟩ (fun hHeld => ?_)
        clear hK K
        try simp only [Act.put, List.setIfInBounds_toArray, List.set_cons_zero, List.set_cons_succ]
        refine wpAnyH_ready (rs := [14]) (by kernel_rfl) (by simp) ?_
        refine AllReadyH.cons rfl (fun K hK => ?_) AllReadyH.nil
        go_simp
        refine hK.out _ _ ⟨e0, e1⟩ (fun hHeld => ?_)
        clear hK K
        try simp only [Act.put, List.setIfInBounds_toArray, List.set_cons_zero, List.set_cons_succ]
        refine wpAnyH_done (by kernel_rfl) ?_ _
        go_end0
        exact ⟨rfl, HP.out⟩
  | some b =>
    clear hrun hown2 hg hf k0 k1 kf h h0 h1 hown hr hc h63 hm HW hlen
    go_enter Tryz.func102, Tryz.ntmps102
    go_wp2
    refine wp_region_held_drew (S := fun W => W.cell? ⟨xf, 0, none⟩ = some (.pointer (some ⟨fb, 0, none⟩)) ∧ W.cell? ⟨xb, 0, none⟩ = some (.slice (some b) len c)) (by kernel_rfl) ⟨c0, c1⟩ (fun hHeld => ?_)
    refine wpAnyH_take (i := 0) (v := ?_) rfl (by kernel_rfl) (by kernel_rfl) (by kernel_rfl) (fun _ _ _ h => h) (Or.inl ⟨by rfl, ?_⟩) (by assumption) ?_
    rotate_left
    · intro W hS
      try dsimp only at hS
      go_simp
      try with_reducible rfl
    simp only [Act.put, List.setIfInBounds_toArray]
    refine wpAnyH_take (i := 1) (v := ?_) rfl (by kernel_rfl) (by kernel_rfl) (by kernel_rfl) (fun _ _ _ h => h) (Or.inl ⟨by rfl, ?_⟩) (by assumption) ?_
    rotate_left
    · intro W hS
      try dsimp only at hS
      go_simp
      try with_reducible rfl
    simp only [Act.put]
    refine wpAnyH_take (i := 2) (v := ?_) rfl (by kernel_rfl) (by kernel_rfl) (by kernel_rfl) (fun _ _ _ h => h) (Or.inl ⟨by rfl, ?_⟩) (by assumption) ?_
    rotate_left
    · intro W hS
      try dsimp only at hS
      go_simp
      try with_reducible rfl
    simp only [Act.put]
    refine wpAnyH_take (i := 3) (v := ?_) rfl (by kernel_rfl) (by kernel_rfl) (by kernel_rfl) (fun _ _ _ h => h) (Or.inl ⟨by rfl, ?_⟩) (by assumption) ?_
    rotate_left
    · intro W hS
      try dsimp only at hS
      go_simp
      try with_reducible rfl
    simp only [Act.put]
    refine wpAnyH_take (i := 5) (v := ?_) rfl (by kernel_rfl) (by kernel_rfl) (by kernel_rfl) (fun _ _ _ h => h) (Or.inl ⟨by rfl, ?_⟩) (by assumption) ?_
    rotate_left
    · intro W hS
      try dsimp only at hS
      go_simp
      try with_reducible rfl
    simp only [Act.put]
    refine wpAnyH_take (i := 6) (v := ?_) rfl (by kernel_rfl) (by kernel_rfl) (by kernel_rfl) (fun _ _ _ h => h) (Or.inl ⟨by rfl, ?_⟩) (by assumption) ?_
    rotate_left
    · intro W hS
      try dsimp only at hS
      go_simp
      try with_reducible rfl
    simp only [Act.put]
    refine wpAnyH_take (i := 7) (v := ?_) rfl (by kernel_rfl) (by kernel_rfl) (by kernel_rfl) (fun _ _ _ h => h) (Or.inl ⟨by rfl, ?_⟩) (by assumption) ?_
    rotate_left
    · intro W hS
      try dsimp only at hS
      go_simp
      try with_reducible rfl
    simp only [Act.put]
    refine wpAnyH_take (i := 8) (v := ?_) rfl (by kernel_rfl) (by kernel_rfl) (by kernel_rfl) (fun _ _ _ h => h) (Or.inl ⟨by rfl, ?_⟩) (by assumption) ?_
    rotate_left
    · intro W hS
      try dsimp only at hS
      go_simp
      try with_reducible rfl
    simp only [Act.put]
    refine wpAnyH_ready (rs := [4, 9]) (by kernel_rfl) (by simp) ?_
    refine AllReadyH.cons rfl (fun K hK => ?_) (AllReadyH.cons rfl (fun K hK => ?_) AllReadyH.nil)
    · go_simp
      refine hK.out _ _ ⟨c0, c1⟩ (fun hHeld => ?_)
      clear hK K
      try simp only [Act.put, List.setIfInBounds_toArray, List.set_cons_zero, List.set_cons_succ]
      refine wpAnyH_ready (rs := [9]) (by kernel_rfl) (by simp) ?_
      refine AllReadyH.cons rfl (fun K hK => ?_) AllReadyH.nil
      go_simp
      refine (HHW.out _).mono ?_
      rintro e w' ⟨rfl, rfl⟩
      go_wp2_with fail
      refine hK.out _ _ ⟨c0, c1⟩ (fun hHeld => ?_)
      clear hK K
      try simp only [Act.put, List.setIfInBounds_toArray, List.set_cons_zero, List.set_cons_succ]
      refine wpAnyH_ready (rs := [10]) (by kernel_rfl) (by simp) ?_
      refine AllReadyH.cons rfl (fun K hK => ?_) AllReadyH.nil
      go_simp
      refine hK.out _ _ ⟨c0, c1⟩ (fun hHeld => ?_)
      clear hK K
      try simp only [Act.put, List.setIfInBounds_toArray, List.set_cons_zero, List.set_cons_succ]
      refine wpAnyH_ready (rs := [11]) (by kernel_rfl) (by simp) ?_
      refine AllReadyH.cons rfl (fun K hK => ?_) AllReadyH.nil
      refine step_append rfl _ _ 61 rfl _ _ _ rfl rfl HR.out ?_
      refine hK.out _ _ ⟨d0, d1⟩ (fun hHeld => ?_)
      clear hK K
      try simp only [Act.put, List.setIfInBounds_toArray]
      refine wpAnyH_ready (rs := [12]) (by kernel_rfl) (by simp) ?_
      refine AllReadyH.cons rfl (fun K hK => ?_) AllReadyH.nil
      go_simp
      refine hK.out _ _ ⟨d0, d1⟩ (fun hHeld => ?_)
      clear hK K
      try simp only [Act.put, List.setIfInBounds_toArray, List.set_cons_zero, List.set_cons_succ]
      refine wpAnyH_ready (rs := [13]) (by kernel_rfl) (by simp) ?_
      refine AllReadyH.cons rfl (fun K hK => ?_) AllReadyH.nil
      go_simp
      refine hK.out _ _ ⟨d0, d1⟩ (fun hHeld => ?_)
      clear hK K
      try simp only [Act.put, List.setIfInBounds_toArray, List.set_cons_zero, List.set_cons_succ]
      refine wpAnyH_ready (rs := [14]) (by kernel_rfl) (by simp) ?_
      refine AllReadyH.cons rfl (fun K hK => ?_) AllReadyH.nil
      go_simp
      refine hK.out _ _ ⟨e0, e1⟩ (fun hHeld => ?_)
      clear hK K
      try simp only [Act.put, List.setIfInBounds_toArray, List.set_cons_zero, List.set_cons_succ]
      refine wpAnyH_done (by kernel_rfl) ?_ _
      go_end0
      exact ⟨rfl, HP.out⟩
    · go_simp
      refine (HHW.out _).mono ?_
      rintro e w' ⟨rfl, rfl⟩
      go_wp2_with fail
      refine hK.out _ _ ⟨c0, c1⟩ (fun hHeld => ?_)
      clear hK K
      try simp only [Act.put, List.setIfInBounds_toArray, List.set_cons_zero, List.set_cons_succ]
      refine wpAnyH_ready (rs := [4, 10]) (by kernel_rfl) (by simp) ?_
      refine AllReadyH.cons rfl (fun K hK => ?_) (AllReadyH.cons rfl (fun K hK => ?_) AllReadyH.nil)
      · go_simp
        refine hK.out _ _ ⟨c0, c1⟩ (fun hHeld => ?_)
        clear hK K
        try simp only [Act.put, List.setIfInBounds_toArray, List.set_cons_zero, List.set_cons_succ]
        refine wpAnyH_ready (rs := [10]) (by kernel_rfl) (by simp) ?_
        refine AllReadyH.cons rfl (fun K hK => ?_) AllReadyH.nil
        go_simp
        refine hK.out _ _ ⟨c0, c1⟩ (fun hHeld => ?_)
        clear hK K
        try simp only [Act.put, List.setIfInBounds_toArray, List.set_cons_zero, List.set_cons_succ]
        refine wpAnyH_ready (rs := [11]) (by kernel_rfl) (by simp) ?_
        refine AllReadyH.cons rfl (fun K hK => ?_) AllReadyH.nil
        refine step_append rfl _ _ 61 rfl _ _ _ rfl rfl HR.out ?_
        refine hK.out _ _ ⟨d0, d1⟩ (fun hHeld => ?_)
        clear hK K
        try simp only [Act.put, List.setIfInBounds_toArray]
        refine wpAnyH_ready (rs := [12]) (by kernel_rfl) (by simp) ?_
        refine AllReadyH.cons rfl (fun K hK => ?_) AllReadyH.nil
        go_simp
        refine hK.out _ _ ⟨d0, d1⟩ (fun hHeld => ?_)
        clear hK K
        try simp only [Act.put, List.setIfInBounds_toArray, List.set_cons_zero, List.set_cons_succ]
        refine wpAnyH_ready (rs := [13]) (by kernel_rfl) (by simp) ?_
        refine AllReadyH.cons rfl (fun K hK => ?_) AllReadyH.nil
        go_simp
        refine hK.out _ _ ⟨d0, d1⟩ (fun hHeld => ?_)
        clear hK K
        try simp only [Act.put, List.setIfInBounds_toArray, List.set_cons_zero, List.set_cons_succ]
        refine wpAnyH_ready (rs := [14]) (by kernel_rfl) (by simp) ?_
        refine AllReadyH.cons rfl (fun K hK => ?_) AllReadyH.nil
        go_simp
        refine hK.out _ _ ⟨e0, e1⟩ (fun hHeld => ?_)
        clear hK K
        try simp only [Act.put, List.setIfInBounds_toArray, List.set_cons_zero, List.set_cons_succ]
        refine wpAnyH_done (by kernel_rfl) ?_ _
        go_end0
        exact ⟨rfl, HP.out⟩
      · go_simp
        refine hK.out _ _ ⟨c0, c1⟩ (fun hHeld => ?_)
        clear hK K
        try simp only [Act.put, List.setIfInBounds_toArray, List.set_cons_zero, List.set_cons_succ]
        refine wpAnyH_ready (rs := [4]) (by kernel_rfl) (by simp) ?_
        refine AllReadyH.cons rfl (fun K hK => ?_) AllReadyH.nil
        go_simp
        refine hK.out _ _ ⟨c0, c1⟩ (fun hHeld => ?_)
        clear hK K
        try simp only [Act.put, List.setIfInBounds_toArray, List.set_cons_zero, List.set_cons_succ]
        refine wpAnyH_ready (rs := [11]) (by kernel_rfl) (by simp) ?_
        refine AllReadyH.cons rfl (fun K hK => ?_) AllReadyH.nil
        refine step_append rfl _ _ 61 rfl _ _ _ rfl rfl HR.out ?_
        refine hK.out _ _ ⟨d0, d1⟩ (fun hHeld => ?_)
        clear hK K
        try simp only [Act.put, List.setIfInBounds_toArray]
        refine wpAnyH_ready (rs := [12]) (by kernel_rfl) (by simp) ?_
        refine AllReadyH.cons rfl (fun K hK => ?_) AllReadyH.nil
        go_simp
        refine hK.out _ _ ⟨d0, d1⟩ (fun hHeld => ?_)
        clear hK K
        try simp only [Act.put, List.setIfInBounds_toArray, List.set_cons_zero, List.set_cons_succ]
        refine wpAnyH_ready (rs := [13]) (by kernel_rfl) (by simp) ?_
        refine AllReadyH.cons rfl (fun K hK => ?_) AllReadyH.nil
        go_simp
        refine hK.out _ _ ⟨d0, d1⟩ (fun hHeld => ?_)
        clear hK K
        try simp only [Act.put, List.setIfInBounds_toArray, List.set_cons_zero, List.set_cons_succ]
        refine wpAnyH_ready (rs := [14]) (by kernel_rfl) (by simp) ?_
        refine AllReadyH.cons rfl (fun K hK => ?_) AllReadyH.nil
        go_simp
        refine hK.out _ _ ⟨e0, e1⟩ (fun hHeld => ?_)
        clear hK K
        try simp only [Act.put, List.setIfInBounds_toArray, List.set_cons_zero, List.set_cons_succ]
        refine wpAnyH_done (by kernel_rfl) ?_ _
        go_end0
        exact ⟨rfl, HP.out⟩

end Go.Proofs.YtacfcfbleogioaaGreatDoor
