/-
  slices.Chunk of bytes by fours, as an iterator: what its loop's body is handed. Conditions: the slice leads to bytes; the body leaves what was there ahead of it.
-/
import Derived.Test.YtacfcfbleogioaaGreatDoorMEq
import Derived.Test.YtacfcfbleogioaaGreatDoorMRow
import Derived.RangeFuncNested
import Derived.RangeFuncBound
import Derived.RangeFuncCalls
import Derived.RangeFuncLeaves
import Derived.RangeFuncBox
import Derived.Shelf.Abstract
import Derived.Shelf.RegionOpen
import Derived.WalkKit
import Derived.OwnWalkIn
import Derived.TacticsInMore
import Derived.LoopNIn
import Derived.LoopIn
import Derived.Sort.QuietIn
import Derived.Maps.AppendAt
namespace Go.Proofs.YtacfcfbleogioaaGreatDoor
open Go.RowKit Go.Lib Go.Joins Go.Shelf
attribute [local go_sem] Oper.semAt_some

/-- The places of chunks. -/
abbrev Plc (len : Nat) := { p : Nat // p < len }
/-- A chunk's length. -/
def chN (len p : Nat) : Nat := ((p : Int) + min 4 ((len - p : Nat) : Int)).toNat - p
theorem chN_is (len p : Nat) : chN len p = min 4 (len - p) := by
  unfold chN
  omega
/-- What a round is handed. -/
def chV (b off len p : Nat) : Value := .slice (some ⟨b, off + p, none⟩) (chN len p) (chN len p)
/-- So many chunks' places. -/
def plcs (k : Nat) : List Nat := (List.range k).map (fun i => 4 * i)
theorem plcs_succ (k : Nat) : plcs (k + 1) = plcs k ++ [4 * k] := by simp [plcs, List.range_succ]
theorem plcs_len (k : Nat) : (plcs k).length = k := by simp [plcs]

/-- What a round keeps: what is older, and the two boxes of slices.Chunk. -/
def Kp2 (n₀ : Nat) (A B : World) : Prop := Below n₀ A B ∧ ∀ k, (k = n₀ + 1 ∨ k = n₀ + 1 + 1) → B.heap[k]? = A.heap[k]?
theorem Kp2.refl (n₀ : Nat) (A : World) : Kp2 n₀ A A := ⟨Below.refl _ _, fun _ _ => rfl⟩
theorem Kp2.trans {n₀ : Nat} {A B C : World} (h : Kp2 n₀ A B) (k : Kp2 n₀ B C) : Kp2 n₀ A C := ⟨h.1.trans k.1, fun i hi => (k.2 i hi).trans (h.2 i hi)⟩
theorem Kp2.drewN {n₀ : Nat} {A B : World} (h : Kp2 n₀ A B) (k : Nat) : Kp2 n₀ A (B.drewN k) := ⟨⟨h.1.os, h.1.tape, h.1.output, h.1.size, h.1.block⟩, h.2⟩
theorem Kp2.box {n₀ k : Nat} {A B : World} (h : Kp2 n₀ A B) (hk : k = n₀ + 1 ∨ k = n₀ + 1 + 1) {v : Value} (hc : A.cell? ⟨k, 0, none⟩ = some v) : B.cell? ⟨k, 0, none⟩ = some v := (World.cell?_of_block (a := ⟨k, 0, none⟩) (h.2 k hk)).trans hc

set_option maxRecDepth 100000 in
set_option maxHeartbeats 4000000 in
theorem chunk1_in (n : Nat) (hn : 1 ≤ n) (l Bs Bn n₀ b off len cap : Nat) (hlen : len ≤ 1073741824) (hlc : len ≤ cap) (_hcm : cap ≤ 9223372036854775807) (hs1 : Bs = n₀ + 1) (hs2 : Bn = n₀ + 1 + 1) (J Jx : List (Plc len) → World → Prop)
    (hJd : ∀ pre W k, J pre W → J pre (W.drewN k)) (hY : ∀ pre x W, J pre W → pre.length < len → YieldAt Fence.wide (n - 1) Tryz.prog l #[chV b off len x.1] W fun e W' =>
      (e = .returned (.bool true) ∧ J (pre ++ [x]) W' ∧ Kp2 n₀ W W') ∨ (e = .returned (.bool false) ∧ Jx (pre ++ [x]) W'))
    (W : World) (hBs : W.cell? ⟨Bs, 0, none⟩ = some (.slice (some ⟨b, off, none⟩) len cap)) (hBn : W.cell? ⟨Bn, 0, none⟩ = some (.int .i64 4)) (h0 : J [] W) :
    CallsIn Fence.wide n Tryz.prog 142 #[.func (.yield l) #[] #[], .pointer (some ⟨Bs, 0, none⟩), .pointer (some ⟨Bn, 0, none⟩)] W fun e W' => (∃ v, e = .returned v) ∧
      ((∃ ys, (∃ k, ys.map (fun x : Plc len => x.1) = plcs k ∧ len ≤ 4 * k ∧ 4 * k < len + 4) ∧ J ys W') ∨ (∃ pre, True ∧ Jx pre W')) := by
  have HS1 : Hid (Bs = n₀ + 1) := Lib.hid hs1
  have HS2 : Hid (Bn = n₀ + 1 + 1) := Lib.hid hs2
  clear hs1 hs2
  refine callsIn_of_wp Tryz.func142 rfl trivial ?_ rfl
  simp only [Tryz.ntmps142, List.size_toArray, List.length_cons, List.length_nil, Nat.reduceAdd, Nat.reduceSub, Array.replicate_succ, Array.replicate_zero, List.push_toArray, List.append_toArray, List.nil_append, List.cons_append]
  gi_wp2
  gi_loopw [4] (fun i wr => ∃ (p k : Nat) (pre : List (Plc len)), i = .int .i64 (p : Int) ∧ p = 4 * k ∧ p < len + 4 ∧ pre.map (fun x : Plc len => x.1) = plcs k ∧ J pre wr ∧ Kp2 n₀ W wr)
    (fun i _ => len + 4 - (intOf i).toNat)
  case atStart => exact ⟨0, 0, [], rfl, rfl, by omega, rfl, h0, Kp2.refl _ _⟩
  case round =>
    obtain ⟨p, k, pre, rfl, hpk, hp4, hpre, hJs, hnx⟩ := hrel
    have c1 := hnx.box (.inl HS1.out) hBs
    have c2 := hnx.box (.inr HS2.out) hBn
    by_cases hlt : p < len
    · have hpl : pre.length = k := by have := congrArg List.length hpre; rwa [List.length_map, plcs_len] at this
      have HYQ := Lib.hid (fun k => hY pre ⟨p, hlt⟩ (wr.drewN k) (hJd _ _ _ hJs) (by omega))
      have HPRE := Lib.hid hpre
      have hd : decide ((p : Int) < (len : Int)) = true := by simp; omega
      have HPK := Lib.hid hpk
      have hp9 : p + 4 ≤ 9223372036854775807 := by omega
      clear hpk hpl hpre hJs hY hJd
      gi_wp2
      gi_quiet (fail)
      obtain ⟨fn, tmps, assign, body, hy, hR⟩ := HYQ.out nq
      unfold chV chN at hy
      try dsimp only at hy
      gi_wp2
      refine hR.mono ?_
      rintro e W3 (⟨rfl, hJ3, hk3⟩ | ⟨rfl, hJx3⟩)
      · have hnx3 : Kp2 n₀ W W3 := (hnx.drewN nq).trans hk3
        have c3 := hnx3.box (.inr HS2.out) hBn
        have HP4 : Hid ((pre ++ [(⟨p, hlt⟩ : Plc len)]).map (fun x : Plc len => x.1) = plcs (k + 1)) := Lib.hid (by rw [List.map_append, HPRE.out, plcs_succ, ← HPK.out]; rfl)
        gi_wp2
        go_roundw
        case rel => exact ⟨p + 4, k + 1, _, by go_num, by have := HPK.out; omega, by omega, HP4.out, hJ3, hnx3⟩
        case measure => simp [intOf]; omega
      · gi_wp2
        refine bodyPost_ret (results_none rfl _ _ _) rfl ?_
        exact ⟨⟨_, rfl⟩, .inr ⟨_, trivial, hJx3⟩⟩
    · have hd : decide ((p : Int) < (len : Int)) = false := by simp; omega
      gi_wp2
      go_end0
      exact ⟨⟨_, rfl⟩, .inl ⟨pre, ⟨k, hpre, by omega, by omega⟩, hJs⟩⟩


/-- .. at a slice without bytes: no round. -/
theorem chunk0_in (n : Nat) (l Bs Bn : Nat) (a : Option Addr) (cap : Nat) (J : List (Plc 0) → World → Prop) (W : World) (hBs : W.cell? ⟨Bs, 0, none⟩ = some (.slice a 0 cap)) (h0 : J [] W) :
    CallsIn Fence.wide n Tryz.prog 142 #[.func (.yield l) #[] #[], .pointer (some ⟨Bs, 0, none⟩), .pointer (some ⟨Bn, 0, none⟩)] W fun e W' => (∃ v, e = .returned v) ∧ J [] W' := by
  refine callsIn_of_wp Tryz.func142 rfl trivial ?_ rfl
  simp only [Tryz.ntmps142, List.size_toArray, List.length_cons, List.length_nil, Nat.reduceAdd, Nat.reduceSub, Array.replicate_succ, Array.replicate_zero, List.push_toArray, List.append_toArray, List.nil_append, List.cons_append]
  gi_wp2
  gi_loopw [4] (fun i wr => i = .int .i64 0 ∧ J [] wr ∧ wr.cell? ⟨Bs, 0, none⟩ = some (.slice a 0 cap)) (fun _ _ => 0)
  case atStart => exact ⟨rfl, h0, hBs⟩
  case round =>
    obtain ⟨rfl, hJs, hc⟩ := hrel
    gi_wp2
    go_end0
    exact ⟨⟨_, rfl⟩, hJs⟩

/-- slices.Chunk by fours: the slice and the number are boxed; the function value captures the boxes. -/
theorem chunk_in (n : Nat) (a : Option Addr) (len cap : Nat) (w : World) :
    CallsIn Fence.wide n Tryz.prog 119 #[.slice a len cap, .int .i64 4] w fun e w' => e = .returned (.func (.func 142) #[] #[.pointer (some ⟨w.heap.size, 0, none⟩), .pointer (some ⟨w.heap.size + 1, 0, none⟩)]) ∧ w' = (w.alloc (.cells #[.slice a len cap] 61)).alloc (.cells #[.int .i64 4] 3) := by
  refine callsIn_of_wp Tryz.func119 rfl trivial ?_ rfl
  simp only [Tryz.ntmps119, List.size_toArray, List.length_cons, List.length_nil, Nat.reduceAdd, Nat.reduceSub, Array.replicate_succ, Array.replicate_zero, List.push_toArray, List.append_toArray, List.nil_append, List.cons_append]
  gi_wp2
  go_ret
  exact ⟨rfl, rfl⟩

/-- What slices.Chunk hands back, as the caller's law wants it. -/
theorem chunk_stops (n : Nat) (hn : 1 ≤ n) (Bs Bn n₀ : Nat) (a : Option Addr) (len cap : Nat) (hlen : len ≤ 1073741824) (hlc : len ≤ cap) (hcm : cap ≤ 9223372036854775807) (w : World) (hB1 : Bs = n₀ + 1) (hB2 : Bn = n₀ + 1 + 1) (b off : Nat) (ha : 0 < len → a = some ⟨b, off, none⟩)
    (hBs : w.cell? ⟨Bs, 0, none⟩ = some (.slice a len cap)) (hBn : w.cell? ⟨Bn, 0, none⟩ = some (.int .i64 4)) :
    SeqStopsK Fence.wide n Tryz.prog 142 #[.pointer (some ⟨Bs, 0, none⟩), .pointer (some ⟨Bn, 0, none⟩)] (fun x : Plc len => #[chV b off len x.1]) (Kp2 n₀) (fun ys => ∃ k, ys.map (fun x : Plc len => x.1) = plcs k ∧ len ≤ 4 * k ∧ 4 * k < len + 4) (fun _ => True) len w := fun l J Jx W hW hJ _ hY h0 => by
  have c1 := (hW.cell (p := ⟨Bs, 0, none⟩) (lt_of_cell hBs)).trans hBs
  have c2 := (hW.cell (p := ⟨Bn, 0, none⟩) (lt_of_cell hBn)).trans hBn
  by_cases h : len = 0
  · subst h
    exact (chunk0_in n l Bs Bn a cap J W c1 h0).mono fun e W' ⟨he, hj⟩ => ⟨he, .inl ⟨[], ⟨0, rfl, Nat.le_refl _, by decide⟩, hj⟩⟩
  · obtain rfl := ha (by omega)
    refine (chunk1_in n hn l Bs Bn n₀ b off len cap hlen hlc hcm hB1 hB2 J Jx (fun pre W1 k hj => hJ _ _ _ none hj ⟨rfl, rfl, rfl, Nat.le_refl _, fun _ _ _ => rfl⟩ (fun r e => by cases e)) hY W c1 c2 h0).mono ?_
    rintro e W' ⟨he, ⟨ys, ⟨k, h1, h2, h3⟩, hj⟩ | ⟨pre, _, hj⟩⟩
    · exact ⟨he, .inl ⟨ys, ⟨k, h1, h2, h3⟩, hj⟩⟩
    · exact ⟨he, .inr ⟨pre, trivial, hj⟩⟩

end Go.Proofs.YtacfcfbleogioaaGreatDoor
