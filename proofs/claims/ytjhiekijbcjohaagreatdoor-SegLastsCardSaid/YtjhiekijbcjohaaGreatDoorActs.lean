/-
  What the program's operations do: the closures of Create, Sync, Cut, Delete and Rename. Conditions: what they captured lies in memory.
-/
import Derived.Test.YtjhiekijbcjohaaGreatDoorKeep
import Derived.Deep.RegionLaw
namespace Go.Proofs.YtjhiekijbcjohaaGreatDoor
open Go.RowKit Go.Lib Go.Joins

/-- A call that hands nothing back. -/
def Ran (R : World → Prop) (e : Ending) (w' : World) : Prop := e = .returned (.tuple #[]) ∧ R w'

/-- The map of files is another one, a new file lies in memory. -/
def PutF (F fb : Nat) (n : Nat) (D : DataW Nat) (w w' : World) : Prop :=
  w'.ownsMap Tryz.prog 9 Rp F n D ∧ w'.heap[fb]? = some (.cells #[.slice none 0 0, .int .i64 0] 98 (0, 0)) ∧ Keeps (One F) w w'

set_option maxRecDepth 100000 in
set_option maxHeartbeats 4000000 in
theorem create1_calls (xd xn B F n : Nat) (s : ByteArray) (D : DataW Nat) (w : World) (h0 : w.cell? ⟨xd, 0, none⟩ = some (.pointer (some ⟨B, 0, none⟩))) (h1 : w.cell? ⟨xn, 0, none⟩ = some (.string s)) (hB : w.cell? ⟨B, 1, none⟩ = some (.map (some F)))
    (hown : w.ownsMap Tryz.prog 9 Rp F n D) (hn : n ≤ 1073741824) (hs : s.size ≤ 1099511627776) :
    Calls Tryz.prog 75 #[.pointer (some ⟨xd, 0, none⟩), .pointer (some ⟨xn, 0, none⟩)] w (Ran (PutF F w.heap.size (n + 1) (D.put (lit s) (.lit (.int .u64 (w.heap.size : Int)))) w)) := by
  have hF := hown.lt
  have ho2 : ((w.alloc (.cells #[.slice none 0 0, .int .i64 0] 98)).drew).ownsMap Tryz.prog 9 Rp F n D := (hown.alloc _).drew
  obtain ⟨w2, hrun, hown2, hturn⟩ := ho2.store keyed9 Tryz.underlying78 (by unfold maxLen; omega) (keyOf_name (s := s) (by unfold maxLen; omega)) (Rp_mk w.heap.size)
  have hg := hturn.grown
  have hfb : w2.heap[w.heap.size]? = some (.cells #[.slice none 0 0, .int .i64 0] 98 (0, 0)) := (hg.block w.heap.size (by show _ < (w.alloc _).heap.size; simp) (by simp; omega)).trans (heap_alloc_new w _)
  have hk : Keeps (One F) w w2 := (((Keeps.refl (One F) w).alloc _).drew).grown hg (fun k e => .inl (Option.some.inj e).symm)
  have HP : Hid (PutF F w.heap.size (n + 1) (D.put (lit s) (.lit (.int .u64 (w.heap.size : Int)))) w w2) := Lib.hid ⟨hown2, hfb, hk⟩
  have lx := lt_of_cell h0
  have ln := lt_of_cell h1
  have lB := lt_of_cell hB
  clear hown ho2 hown2 hturn hg hfb hk hn hs
  go_enter Tryz.func75, Tryz.ntmps75
  go_wp2
  go_region
  all_goals
    go_end0
    exact ⟨rfl, HP.out⟩

set_option maxRecDepth 100000 in
set_option maxHeartbeats 4000000 in
theorem sync1_calls (xf fb : Nat) (a : Option Addr) (len cap : Nat) (z : Int) (w : World) (h0 : w.cell? ⟨xf, 0, none⟩ = some (.pointer (some ⟨fb, 0, none⟩))) (h : w.heap[fb]? = some (.cells #[.slice a len cap, .int .i64 z] 98 (0, 0))) (_hl : len ≤ 1073741824) :
    Calls Tryz.prog 110 #[.pointer (some ⟨xf, 0, none⟩)] w (Ran (SetF fb (.slice a len cap) (len : Int) w)) := by
  have c0 : w.cell? ⟨fb, 0, none⟩ = some (.slice a len cap) := (cell_of_block h 0).trans rfl
  have c1 : w.cell? ⟨fb, 1, none⟩ = some (.int .i64 z) := (cell_of_block h 1).trans rfl
  have f1 : w.frozen? ⟨fb, 1, none⟩ = false := unfrozen_of_block h 1
  have hb := block_setCell (i := 1) h (.int .i64 (len : Int))
  have HP : Hid (SetF fb (.slice a len cap) (len : Int) w (w.setCell ⟨fb, 1, none⟩ (.int .i64 (len : Int)))) := Lib.hid ⟨hb, (Keeps.refl (One fb) w).setCell (p := ⟨fb, 1, none⟩) (.inl rfl) _⟩
  clear hb h
  go_enter Tryz.func110, Tryz.ntmps110
  go_wp2
  go_region
  all_goals
    go_end0
    exact ⟨rfl, HP.out.drew⟩

set_option maxRecDepth 100000 in
set_option maxHeartbeats 4000000 in
theorem cut1_calls (xf xn fb : Nat) (a : Option Addr) (len cap n safe : Nat) (w : World) (h0 : w.cell? ⟨xf, 0, none⟩ = some (.pointer (some ⟨fb, 0, none⟩))) (h1 : w.cell? ⟨xn, 0, none⟩ = some (.int .i64 (n : Int)))
    (h : w.heap[fb]? = some (.cells #[.slice a len cap, .int .i64 (safe : Int)] 98 (0, 0))) (hn : n ≤ len) (hl : len ≤ cap) (hc : cap ≤ maxLen) (ha : a = none → cap = 0) :
    Calls Tryz.prog 138 #[.pointer (some ⟨xf, 0, none⟩), .pointer (some ⟨xn, 0, none⟩)] w (Ran (SetF fb (.slice a n cap) ((min safe n : Nat) : Int) w)) := by
  have HK := Lib.hid (keep_calls fb a len cap n safe w h hn hl hc ha)
  clear h hn hl hc ha
  obtain ⟨Z, hZ⟩ : ∃ Z : Int, ((min safe n : Nat) : Int) = Z := ⟨_, rfl⟩
  rw [hZ] at HK ⊢
  clear hZ
  go_enter Tryz.func138, Tryz.ntmps138
  go_wp2_with fail
  refine HK.out.mono ?_
  rintro e w2 ⟨rfl, hs⟩
  have HS := Lib.hid hs
  clear hs h0 h1
  go_wp2
  go_end0
  exact ⟨rfl, HS.out⟩

/-- delete, as one step of a region that draws. -/
theorem step_delete {P : Program} {ops : Array Oper} {o : Oper} {a : Act} {w w' : World} {K : Act → World → Prop} {Q : Exit → Act → World → Prop} {E : Prop}
    (hg : o.guard = none) (m x : Operand) (t k : TypeId) (hop : o.op = Op.call { callee := Callee.builtin Builtin.delete, args := #[m, x], argTypes := #[t, k] })
    (vm vx : Value) (hm : a.eval m = vm) (hx : a.eval x = vx) (hrun : ∀ ty, (Builtin.delete_ #[t, k] ty #[vm, vx]).run P w = .ok (.tuple #[]) w') (hK : K (a.put o.dst (.tuple #[])) w') :
    if Region.wanted o (yielded ops a.tmps) = true then Oper.wp P o a w K Q else E := by
  have hw : Region.wanted o (yielded ops a.tmps) = true := by simp [Region.wanted, hg]
  rw [if_pos hw]
  unfold Oper.wp
  simp [execOp, hop, resolve, invoke, builtin, hm, hx, hrun o.type, Result.andThen]
  exact hK

/-- The map of files is another one. -/
def OnlyF (F : Nat) (n : Nat) (D : DataW Nat) (w w' : World) : Prop := w'.ownsMap Tryz.prog 9 Rp F n D ∧ Keeps (One F) w w'

theorem drop_run {w : World} {F n : Nat} {D : DataW Nat} (h : w.ownsMap Tryz.prog 9 Rp F n D) {s : ByteArray} (hs : s.size ≤ maxLen) :
    ∃ w', (∀ ty, (Builtin.delete_ #[78, 9] ty #[.map (some F), .string s]).run Tryz.prog w = .ok (.tuple #[]) w') ∧ w'.ownsMap Tryz.prog 9 Rp F n (D.del (lit s)) ∧ Keeps (One F) w w' := by
  obtain ⟨w1, h1, h2, h3⟩ := h.drop keyed9 Tryz.underlying78 (keyOf_name hs) 0
  refine ⟨w1, fun ty => ?_, h2, (Keeps.refl (One F) w).grown h3.grown (fun k e => .inl (Option.some.inj e).symm)⟩
  rw [← h1]
  rfl

set_option maxRecDepth 100000 in
set_option maxHeartbeats 4000000 in
theorem delete1_calls (xd xn B F n : Nat) (s : ByteArray) (D : DataW Nat) (w : World) (h0 : w.cell? ⟨xd, 0, none⟩ = some (.pointer (some ⟨B, 0, none⟩))) (h1 : w.cell? ⟨xn, 0, none⟩ = some (.string s)) (hB : w.cell? ⟨B, 1, none⟩ = some (.map (some F)))
    (hown : w.ownsMap Tryz.prog 9 Rp F n D) (hs : s.size ≤ 1099511627776) :
    Calls Tryz.prog 137 #[.pointer (some ⟨xd, 0, none⟩), .pointer (some ⟨xn, 0, none⟩)] w (Ran (OnlyF F n (D.del (lit s)) w)) := by
  obtain ⟨w2, hrun, hown2, hk⟩ := drop_run hown.drew (s := s) (by unfold maxLen; omega)
  have HP : Hid (OnlyF F n (D.del (lit s)) w w2) := Lib.hid ⟨hown2, ((Keeps.refl (One F) w).drew).trans hk (fun _ hk => .inl hk)⟩
  have HR := Lib.hid hrun
  clear hown hown2 hk hs hrun
  go_enter Tryz.func137, Tryz.ntmps137
  go_wp2
  go_region_law (refine step_delete rfl _ _ 78 9 rfl _ _ rfl rfl HR.out ?_)
  all_goals
    go_end0
    exact ⟨rfl, HP.out⟩

theorem cell_keepF {w w' : World} {F n : Nat} {D : DataW Nat} (h : w.ownsMap Tryz.prog 9 Rp F n D) (hk : Keeps (One F) w w') {b o : Nat} {v : Value} (hc : w.cell? ⟨b, o, none⟩ = some v) : w'.cell? ⟨b, o, none⟩ = some v := by
  have hne : b ≠ F := by
    rintro rfl
    obtain ⟨es, clock, hb, _⟩ := h
    simp [World.cell?, hb] at hc
  exact (World.cell?_of_block (a := ⟨b, o, none⟩) (hk.block b (lt_of_cell hc) hne)).trans hc

/-! ### append -/
theorem info5 : (Tryz.prog.info? 5).map (fun i => (i.zero, i.size, i.bytes)) = some (some (.int .u8 0), 1, 1) := by kernel_rfl

/-- Bytes are appended to a row of the disk's own: there, or in a new block. -/
theorem append_run {w : World} {v : Value} {n : Nat} {xs : List Value} (hown : w.ownsRow 0 5 1 v n xs) {S : Nat → Prop} {a : Option Addr} {m c : Nat} {l : List Nat} (hl : l.length = m) (hr : Row w S a l) (hc : a = none → c = 0) (h63 : n + m ≤ 2147483648) :
    ∃ v' w', (∀ ty, (Builtin.append_ #[27, 27] ty #[v, .slice a m c]).run Tryz.prog w = .ok v' w') ∧ w'.ownsRow 0 5 1 v' (n + m) (xs ++ cellsN l) ∧ w.grownBy w' v.ownBlock ∧ ∀ k, v'.ownBlock = some k → v.ownBlock = some k ∨ w.heap.size ≤ k := by
  obtain ⟨i5, hi5, hj50, hj51, hj52⟩ := info_parts info5
  cases a with
  | none =>
    have hl0 : l = [] := by
      rcases hr.2 with h0 | ⟨b, o, he, _⟩
      · exact h0
      · cases he
    obtain rfl : c = 0 := hc rfl
    subst hl0
    obtain rfl : m = 0 := by rw [← hl]; rfl
    refine ⟨v, w, fun ty => run_append_owned_none (P := Tryz.prog) (w := w) 0 27 ty 5 i5 1 Tryz.underlying27 hi5 v n xs hown, by simpa [cellsN] using hown, ⟨rfl, rfl, rfl, Nat.le_refl _, fun _ _ _ => rfl⟩, fun k hk => .inl hk⟩
  | some b =>
    have hnews := row_cells hr
    have h1 : ∀ u ∈ cellsN l, u.oneCell' = true := by
      intro u hu
      obtain ⟨z, _, rfl⟩ := List.mem_map.1 hu
      rfl
    have hll : (cellsN l).length = m * 1 := by rw [cellsN_len, hl, Nat.mul_one]
    have hmx : n + m ≤ maxLen := by unfold maxLen; omega
    obtain ⟨v', w', hrun, h2, h3, h4⟩ := run_append_own (P := Tryz.prog) w 0 27 27 5 i5 (.int .u8 0) 1 1 Tryz.underlying27 hi5 hj50 hj51 hj52 rfl (by decide) v n xs hown b m c (cellsN l) hll hnews h1 hmx (by omega) (Nat.zero_le _)
    refine ⟨v', w', fun ty => ?_, h2, h3, ?_⟩
    · rw [← hrun]
      rfl
    · have hli : (cellsN l).length = m * i5.size := by rw [hj51]; exact hll
      rcases hown.2 with ⟨rfl, rfl⟩ | ⟨g, cap, cur, rfl, hbg, hg, hnc, hcm, hcs, htake⟩
      · by_cases hm : m = 0
        · intro k hk
          have := h4.2 ⟨rfl, hm⟩
          rw [this] at hk
          cases hk
        · have hr2 := run_append_nil (P := Tryz.prog) w 27 27 5 i5 (.int .u8 0) Tryz.underlying27 hi5 hj50 b m c (cellsN l) hli hnews (by omega) (by omega) (by rw [hj52]; omega)
          rw [hr2] at hrun
          have e := (Result.ok.inj hrun).1
          intro k hk
          rw [← e] at hk
          have : w.heap.size = k := Option.some.inj hk
          exact .inr (by omega)
      · by_cases hroom : n + m ≤ cap
        · have hr2 := run_append_room (P := Tryz.prog) w 27 27 5 i5 Tryz.underlying27 hi5 g n cap cur hg b m c (cellsN l) hli hnews h1 hroom (by rw [hj51, hcs, cellsN_len, hl]; omega)
          rw [hr2] at hrun
          have e := (Result.ok.inj hrun).1
          intro k hk
          rw [← e] at hk
          exact .inl hk
        · have holds : ∀ j u, xs[j]? = some u → w.cell? ((⟨g, 0, none⟩ : Addr).add j) = some u := hown.cells (g := g) rfl
          have hr2 := run_append_grow (P := Tryz.prog) w 27 27 5 i5 (.int .u8 0) Tryz.underlying27 hi5 hj50 ⟨g, 0, none⟩ n cap xs (by rw [hj51]; exact hown.1) holds b m c (cellsN l) hli hnews (by omega) (by omega) (growslice_fits (by omega) (by rw [hj52]; omega))
          rw [hr2] at hrun
          have e := (Result.ok.inj hrun).1
          intro k hk
          rw [← e] at hk
          have : w.heap.size = k := Option.some.inj hk
          exact .inr (by omega)

end Go.Proofs.YtjhiekijbcjohaaGreatDoor
