/-
  slices.Backward of texts, as an iterator: what its loop's body is handed. Conditions: the slice leads to texts; the body leaves what was there ahead of it.
-/
import Derived.Test.YtacfcfbleogioaaGreatDoorMRowA
import Derived.Test.YtacfcfbleogioaaGreatDoorMPureA
namespace Go.Proofs.YtacfcfbleogioaaGreatDoor
open Go.RowKit Go.Lib Go.Joins Go.Shelf
attribute [local go_sem] Oper.semAt_some

/-- So many places from the end on. -/
def downs (len k : Nat) : List Nat := (List.range k).map (fun i => len - 1 - i)
theorem downs_succ (len k : Nat) : downs len (k + 1) = downs len k ++ [len - 1 - k] := by simp [downs, List.range_succ]
theorem downs_len (len k : Nat) : (downs len k).length = k := by simp [downs]
theorem mem_downs {len k p : Nat} (h1 : p < len) (h2 : len ≤ p + k) : p ∈ downs len k := List.mem_map.2 ⟨len - 1 - p, List.mem_range.2 (by omega), by omega⟩

set_option maxRecDepth 100000 in
set_option maxHeartbeats 4000000 in
theorem back1_in (n : Nat) (hn : 1 ≤ n) (l Bs n₀ b off len cap : Nat) (nm : Nat → ByteArray) (hlen : len ≤ 1073741824) (_hlc : len ≤ cap) (hs1 : Bs < n₀) (hb : b < n₀) (J Jx : List (Plc len) → World → Prop)
    (hY : ∀ pre x W, J pre W → pre.length < len → YieldAt Fence.wide (n - 1) Tryz.prog l #[.int .i64 (x.1 : Int), .string (nm x.1)] W fun e W' =>
      (e = .returned (.bool true) ∧ J (pre ++ [x]) W' ∧ Below n₀ W W') ∨ (e = .returned (.bool false) ∧ Jx (pre ++ [x]) W'))
    (W : World) (hBs : W.cell? ⟨Bs, 0, none⟩ = some (.slice (some ⟨b, off, none⟩) len cap)) (hc : ∀ j, j < len → W.cell? ⟨b, off + j, none⟩ = some (.string (nm j))) (h0 : J [] W) :
    CallsIn Fence.wide n Tryz.prog 84 #[.func (.yield l) #[] #[], .pointer (some ⟨Bs, 0, none⟩)] W fun e W' => (∃ v, e = .returned v) ∧
      ((∃ ys, ys.map (fun x : Plc len => x.1) = downs len len ∧ J ys W') ∨ (∃ pre, (∃ k, pre.map (fun x : Plc len => x.1) = downs len k ∧ k ≤ len) ∧ Jx pre W')) := by
  refine callsIn_of_wp Tryz.func84 rfl trivial ?_ rfl
  simp only [Tryz.ntmps84, List.size_toArray, List.length_cons, List.length_nil, Nat.reduceAdd, Nat.reduceSub, Array.replicate_succ, Array.replicate_zero, List.push_toArray, List.append_toArray, List.nil_append, List.cons_append]
  gi_wp2
  gi_loopw [3] (fun i wr => ∃ (z : Int) (k : Nat) (pre : List (Plc len)), i = .int .i64 z ∧ z = (len : Int) - 1 - (k : Int) ∧ k ≤ len ∧ pre.map (fun x : Plc len => x.1) = downs len k ∧ J pre wr ∧ Below n₀ W wr)
    (fun i _ => (intOf i + 1).toNat)
  case atStart => exact ⟨_, 0, [], rfl, by omega, Nat.zero_le _, rfl, h0, Below.refl _ _⟩
  case round =>
    obtain ⟨z, k, pre, rfl, hz, hk, hpre, hJs, hnx⟩ := hrel
    have HZ := Lib.hid hz
    have HPRE := Lib.hid hpre
    have c1 := (hnx.cell (p := ⟨Bs, 0, none⟩) hs1).trans hBs
    by_cases hlt : k < len
    · obtain ⟨p, hp⟩ : ∃ p : Nat, z = (p : Int) := ⟨len - 1 - k, by omega⟩
      subst hp
      have hpl : p < len := by omega
      have hpk : len - 1 - k = p := by omega
      have hpre2 : pre.length = k := by have := congrArg List.length hpre; rwa [List.length_map, downs_len] at this
      have c2 := (hnx.cell (p := ⟨b, off + p, none⟩) hb).trans (hc p hpl)
      obtain ⟨fn, tmps, assign, body, hy, hR⟩ := hY pre ⟨p, hpl⟩ wr hJs (by omega)
      have HPRE2 : Hid ((pre ++ [(⟨p, hpl⟩ : Plc len)]).map (fun x : Plc len => x.1) = downs len (k + 1)) := Lib.hid (by rw [List.map_append, hpre, downs_succ, hpk]; rfl)
      try dsimp only at hy
      have hd1 : decide ((p : Int) ≥ 0) = true := by simp
      clear hz hpre hpk hpre2
      gi_wp2
      refine hR.mono ?_
      rintro e W3 (⟨rfl, hJ3, hk3⟩ | ⟨rfl, hJx3⟩)
      · gi_wp2
        go_roundw
        case rel => exact ⟨_, k + 1, _, rfl, by have := HZ.out; go_num, by omega, HPRE2.out, hJ3, hnx.trans hk3⟩
        case measure => simp [intOf]
      · gi_wp2
        refine bodyPost_ret (results_none rfl _ _ _) rfl ?_
        exact ⟨⟨_, rfl⟩, .inr ⟨_, ⟨k + 1, HPRE2.out, by omega⟩, hJx3⟩⟩
    · have hzz : z = -1 := by omega
      subst hzz
      have HKL : Hid (k = len) := Lib.hid (by omega)
      clear hz
      gi_wp2
      go_end0
      exact ⟨⟨_, rfl⟩, .inl ⟨pre, by rw [HPRE.out, HKL.out], hJs⟩⟩

/-- .. at a slice without texts: no round. -/
theorem back0_in (n : Nat) (l Bs : Nat) (a : Option Addr) (cap : Nat) (J : List (Plc 0) → World → Prop) (W : World) (hBs : W.cell? ⟨Bs, 0, none⟩ = some (.slice a 0 cap)) (h0 : J [] W) :
    CallsIn Fence.wide n Tryz.prog 84 #[.func (.yield l) #[] #[], .pointer (some ⟨Bs, 0, none⟩)] W fun e W' => (∃ v, e = .returned v) ∧ J [] W' := by
  refine callsIn_of_wp Tryz.func84 rfl trivial ?_ rfl
  simp only [Tryz.ntmps84, List.size_toArray, List.length_cons, List.length_nil, Nat.reduceAdd, Nat.reduceSub, Array.replicate_succ, Array.replicate_zero, List.push_toArray, List.append_toArray, List.nil_append, List.cons_append]
  gi_wp2
  gi_loopw [3] (fun i wr => i = .int .i64 (-1) ∧ J [] wr) (fun _ _ => 0)
  case atStart => exact ⟨rfl, h0⟩
  case round =>
    obtain ⟨rfl, hJs⟩ := hrel
    gi_wp2
    go_end0
    exact ⟨⟨_, rfl⟩, hJs⟩

/-- slices.Backward: the slice is boxed; the function value captures the box. -/
theorem back_in (n : Nat) (a : Option Addr) (len cap : Nat) (w : World) :
    CallsIn Fence.wide n Tryz.prog 40 #[.slice a len cap] w fun e w' => e = .returned (.func (.func 84) #[] #[.pointer (some ⟨w.heap.size, 0, none⟩)]) ∧ w' = w.alloc (.cells #[.slice a len cap] 41) := by
  refine callsIn_of_wp Tryz.func40 rfl trivial ?_ rfl
  simp only [Tryz.ntmps40, List.size_toArray, List.length_cons, List.length_nil, Nat.reduceAdd, Nat.reduceSub, Array.replicate_succ, Array.replicate_zero, List.push_toArray, List.append_toArray, List.nil_append, List.cons_append]
  gi_wp2
  go_ret
  exact ⟨rfl, rfl⟩

/-- What slices.Backward hands back, as the caller's law wants it. -/
theorem back_stops (n : Nat) (hn : 1 ≤ n) (Bs n₀ : Nat) (a : Option Addr) (len cap : Nat) (nm : Nat → ByteArray) (hlen : len ≤ 1073741824) (hlc : len ≤ cap) (w : World) (hs1 : Bs < n₀) (_hn₀ : n₀ ≤ w.heap.size) (b off : Nat) (ha : 0 < len → a = some ⟨b, off, none⟩ ∧ b < n₀)
    (hBs : w.cell? ⟨Bs, 0, none⟩ = some (.slice a len cap)) (hc : ∀ j, j < len → w.cell? ⟨b, off + j, none⟩ = some (.string (nm j))) :
    SeqStopsK Fence.wide n Tryz.prog 84 #[.pointer (some ⟨Bs, 0, none⟩)] (fun x : Plc len => #[.int .i64 (x.1 : Int), .string (nm x.1)]) (Below n₀) (fun ys => ys.map (fun x : Plc len => x.1) = downs len len) (fun pre => ∃ k, pre.map (fun x : Plc len => x.1) = downs len k ∧ k ≤ len) len w := fun l J Jx W hW _ _ hY h0 => by
  have c1 := (hW.cell (p := ⟨Bs, 0, none⟩) (lt_of_cell hBs)).trans hBs
  by_cases h : len = 0
  · subst h
    exact (back0_in n l Bs a cap J W c1 h0).mono fun e W' ⟨he, hj⟩ => ⟨he, .inl ⟨[], rfl, hj⟩⟩
  · obtain ⟨rfl, hb⟩ := ha (by omega)
    exact back1_in n hn l Bs n₀ b off len cap nm hlen hlc hs1 hb J Jx hY W c1 (fun j hj => (hW.cell (p := ⟨b, off + j, none⟩) (lt_of_cell (hc j hj))).trans (hc j hj)) h0

/-! ### the newest one, from the end on -/
theorem newB_all {L : List Fil} (h : ∀ f ∈ L, ofFile f = none) : newB L = none := by
  unfold newB
  exact List.findSome?_eq_none_iff.2 (fun f hf => h f (List.mem_reverse.1 hf))
theorem newB_behind : ∀ (T L : List Fil), (∀ f ∈ T, ofFile f = none) → newB (L ++ T) = newB L := by
  intro T
  refine list_revF (P := fun T => ∀ L, (∀ f ∈ T, ofFile f = none) → newB (L ++ T) = newB L) ?_ ?_ T
  · intro L _
    rw [List.append_nil]
  · intro T f ih L h
    rw [← List.append_assoc, newB_app, h f (List.mem_append.2 (.inr (List.mem_singleton.2 rfl)))]
    exact ih L (fun g hg => h g (List.mem_append.2 (.inl hg)))
theorem newB_place {L : List Fil} {p : Nat} {f : Fil} {m : Mfs} (hf : L[p]? = some f) (hm : ofFile f = some m) (h : ∀ j g, p < j → L[j]? = some g → ofFile g = none) : newB L = some m := by
  obtain ⟨hp, he⟩ := List.getElem?_eq_some_iff.1 hf
  have hL : L = (L.take p ++ [f]) ++ L.drop (p + 1) := by
    rw [List.append_assoc, List.singleton_append, ← he, List.getElem_cons_drop, List.take_append_drop]
  rw [hL, newB_behind, newB_app, hm]
  intro g hg
  obtain ⟨i, hi⟩ := List.getElem?_of_mem hg
  rw [List.getElem?_drop] at hi
  exact h (p + 1 + i) g (by omega) hi

end Go.Proofs.YtacfcfbleogioaaGreatDoor
