/-
  bytes.Equal of two rows; append to a slice that is full. No condition but that the rows are rows.
  Rows of numbers: a slice of numbers in memory; numbers in a slice of the call's own, and append to it. Conditions: slices lead to what they are said to; together they are no longer than 2 to the 31.
  slices.Chunk of bytes by fours, as an iterator: what its loop's body is handed. Conditions: the slice leads to bytes; the body leaves what was there ahead of it.
-/
import Derived.Test.YtacfcfbleogioaaGreatDoorShelves
import Derived.Test.YtacfcfbleogioaaGreatDoorOwnA
import Derived.Test.YtacfcfbleogioaaGreatDoorMPureA
import Derived.RangeFuncNested
import Derived.RangeFuncBound
import Derived.RangeFuncCalls
import Derived.RangeFuncLeaves
import Derived.RangeFuncBox
import Derived.Shelf.Abstract
import Derived.Shelf.RegionOpen
import Derived.WalkKit
import Derived.OwnWalkIn
import Derived.TacticsInMore
import Derived.LoopNIn
import Derived.LoopIn
import Derived.Sort.QuietIn
import Derived.Maps.AppendAt
namespace Go.Proofs.YtacfcfbleogioaaGreatDoor
open Go.RowKit Go.Lib Go.Joins

theorem bytesOf_inj : ∀ {l m : List Nat}, (∀ c ∈ l, c < 256) → (∀ c ∈ m, c < 256) → Lib.bytesOf (l.map (fun c : Nat => (c : Int))) = Lib.bytesOf (m.map (fun c : Nat => (c : Int))) → l = m
  | [], [], _, _, _ => rfl
  | [], _ :: _, _, _, h => by simp [Lib.bytesOf] at h
  | _ :: _, [], _, _, h => by simp [Lib.bytesOf] at h
  | x :: l, y :: m, hl, hm, h => by
    simp only [Lib.bytesOf, List.map_cons, List.cons.injEq] at h
    have hx := hl x (List.mem_cons_self ..)
    have hy := hm y (List.mem_cons_self ..)
    have h1 := congrArg UInt8.toNat h.1
    simp only [Int.toNat_natCast, UInt8.toNat_ofNat'] at h1
    have hxy : x = y := by omega
    rw [hxy, bytesOf_inj (l := l) (m := m) (fun c hc => hl c (List.mem_cons_of_mem _ hc)) (fun c hc => hm c (List.mem_cons_of_mem _ hc)) (by simpa [Lib.bytesOf] using h.2)]
theorem bytesIn_row {w : World} {S : Nat → Prop} {a : Option Addr} {l : List Nat} (h : Row w S a l) : Lib.BytesIn w a l.length (l.map (fun c : Nat => (c : Int))) := by
  rcases h.2 with h0 | ⟨b, o, ha, _, hc⟩
  · subst h0
    exact Lib.BytesIn.nil _ _ _
  · subst ha
    refine Lib.BytesIn.of_cells (fun i hi => ?_)
    rw [Addr.add_mid, hc i l[i] (List.getElem?_eq_getElem hi), List.getD_eq_getElem?_getD, List.getElem?_map, List.getElem?_eq_getElem hi]
    rfl
theorem equal_calls {w : World} {S S' : Nat → Prop} {a a' : Option Addr} {l m : List Nat} (n n' c c' : Nat) (h : Row w S a l) (h' : Row w S' a' m) (hn : l.length = n) (hn' : m.length = n') :
    Calls Tryz.prog 78 #[.slice a n c, .slice a' n' c'] w (Tells (.bool (decide (l = m))) w) := by
  subst hn hn'
  refine (Tryz.bytes_Equal_all a a' l.length c m.length c' _ _ w (List.length_map _) (List.length_map _) (bytesIn_row h) (bytesIn_row h')).mono ?_
  rintro e w' ⟨rfl, rfl⟩
  refine ⟨?_, 0, rfl⟩
  congr 2
  rw [Bool.eq_iff_iff]
  simp only [beq_iff_eq, decide_eq_true_eq]
  exact ⟨bytesOf_inj h.1 h'.1, fun e => by rw [e]⟩

/-- Bytes appended to a slice that is full are of the call's own. -/
theorem append_full {w : World} {b ad : Addr} {l x : List Nat} {S S' : Nat → Prop} {n m c : Nat} (hr : Row w S (some b) l) (hn : l.length = n) (hx : Row w S' (some ad) x) (hm : x.length = m) (h0 : 0 < m) (hs : n + m ≤ 2147483648) :
    ∃ v' w', (∀ ty, (Builtin.append_ #[61, 61] ty #[.slice (some b) n n, .slice (some ad) m c]).run Tryz.prog w = .ok v' w') ∧ Own w w' v' (l ++ x) := by
  obtain ⟨i5, hi5, hj50, hj51, hj52⟩ := info_parts info5
  have hlen : (l ++ x).length = n + m := by rw [List.length_append, hn, hm]
  have hcap := grownCap_ge w (n + m) n 5
  have hcm := grownCap_le_maxLen w (n + m) n 5 (by unfold maxLen; omega)
  refine ⟨_, _, fun ty => run_append_grow (P := Tryz.prog) w 61 ty 5 i5 (.int .u8 0) Tryz.underlying61 hi5 hj50 b n n (cellsN l) (by rw [cellsN_len, hj51, hn, Nat.mul_one]) (row_cells hr) ad m c (cellsN x) (by rw [cellsN_len, hj51, hm, Nat.mul_one]) (row_cells hx) (by omega) (by omega) (growslice_fits (by omega) (by rw [hj52]; omega)), ?_⟩
  obtain ⟨C, hC⟩ : ∃ C, grownCap w (n + m) n 5 = C := ⟨_, rfl⟩
  rw [hC] at hcap hcm ⊢
  refine ⟨⟨by rw [cellsN_len, Nat.mul_one], .inr ⟨w.heap.size, C, _, by rw [hlen], Nat.zero_le _, heap_alloc_new w.drew _, by rw [hlen]; exact hcap, hcm, ?_, ?_⟩⟩, Byts.app hr.1 hx.1, fun k e => Nat.le_of_eq (Option.some.inj e), (Below.refl _ _).drew.alloc (Nat.le_refl _) _⟩
  · simp [Builtin.zeroCells, Value.cells, cellsN_len, hn, hm]; omega
  · rw [hlen, cellsN_app]
    simp [cellsN_len, hn, hm, List.take_append, List.take_of_length_le]

end Go.Proofs.YtacfcfbleogioaaGreatDoor

namespace Go.Proofs.YtacfcfbleogioaaGreatDoor
open Go.RowKit Go.Lib Go.Joins

theorem infoInt : (Tryz.prog.info? 3).map (fun i => (i.zero, i.size, i.bytes)) = some (some (.int .i64 0), 1, 8) := by kernel_rfl
def cellsI (l : List Int) : List Value := l.map (Value.int .i64)
theorem cellsI_app (l m : List Int) : cellsI (l ++ m) = cellsI l ++ cellsI m := List.map_append
theorem cellsI_len (l : List Int) : (cellsI l).length = l.length := List.length_map _

/-- A slice leads to these numbers, in blocks of S. -/
def IRow (w : World) (S : Nat → Prop) (a : Option Addr) (xs : List Int) : Prop := xs = [] ∨ ∃ b o, a = some ⟨b, o, none⟩ ∧ S b ∧ ∀ (i : Nat) (x : Int), xs[i]? = some x → w.cell? ⟨b, o + i, none⟩ = some (.int .i64 x)
theorem IRow.nil (w : World) (S : Nat → Prop) (a : Option Addr) : IRow w S a [] := .inl rfl
theorem IRow.keep {w w' : World} {S O : Nat → Prop} {a : Option Addr} {xs : List Int} (h : IRow w S a xs) (hb : Keeps O w w') (hO : ∀ k, S k → ¬ O k) : IRow w' S a xs := by
  rcases h with h0 | ⟨b, o, ha, hS, hc⟩
  · exact .inl h0
  · exact .inr ⟨b, o, ha, hS, fun i c hi => (World.cell?_of_block (a := ⟨b, o + i, none⟩) (hb.block b (lt_of_cell (hc i c hi)) (hO b hS))).trans (hc i c hi)⟩
theorem IRow.below {w w' : World} {S : Nat → Prop} {a : Option Addr} {xs : List Int} (h : IRow w S a xs) (hb : Below w.heap.size w w') : IRow w' S a xs := h.keep (keeps_below hb Non) (fun _ _ h => h)
theorem IRow.mono {w : World} {S S' : Nat → Prop} {a : Option Addr} {xs : List Int} (h : IRow w S a xs) (hS : ∀ k, S k → S' k) : IRow w S' a xs := by
  rcases h with h0 | ⟨b, o, ha, hs, hc⟩
  · exact .inl h0
  · exact .inr ⟨b, o, ha, hS b hs, hc⟩
theorem irow_at {w : World} {S : Nat → Prop} {a : Option Addr} {xs : List Int} (h : IRow w S a xs) {i : Nat} {x : Int} (hi : xs[i]? = some x) : ∃ b o, a = some ⟨b, o, none⟩ ∧ S b ∧ w.cell? ⟨b, o + i, none⟩ = some (.int .i64 x) := by
  rcases h with h0 | ⟨b, o, ha, hs, hc⟩
  · rw [h0] at hi; simp at hi
  · exact ⟨b, o, ha, hs, hc i x hi⟩
theorem irow_cells {w : World} {S : Nat → Prop} {b : Addr} {xs : List Int} (h : IRow w S (some b) xs) : ∀ j u, (cellsI xs)[j]? = some u → w.cell? (b.add j) = some u := by
  intro j u hj
  rw [cellsI, List.getElem?_map] at hj
  obtain ⟨c, hc, rfl⟩ := Option.map_eq_some_iff.1 hj
  obtain ⟨b', o', hb, _, hcell⟩ := irow_at h hc
  obtain rfl : b = ⟨b', o', none⟩ := by simpa using hb
  rwa [Addr.add_mid]
theorem IRow.drop {w : World} {S : Nat → Prop} {b o : Nat} {xs : List Int} (h : IRow w S (some ⟨b, o, none⟩) xs) (k : Nat) : IRow w S (some ⟨b, o + k, none⟩) (xs.drop k) := by
  rcases h with h0 | ⟨b', o', ha, hs, hc⟩
  · rw [h0]; exact .inl List.drop_nil
  · obtain ⟨rfl, rfl⟩ : b = b' ∧ o = o' := by simpa using ha
    exact .inr ⟨b, o + k, rfl, hs, fun i x hi => by rw [List.getElem?_drop] at hi; rw [Nat.add_assoc]; exact hc _ x hi⟩

/-- Numbers of the call's own: in what it made since w0. -/
structure OwnI (w0 w : World) (v : Value) (l : List Int) : Prop where
  row : w.ownsRow 0 3 1 v l.length (cellsI l)
  new : ∀ k, v.ownBlock = some k → w0.heap.size ≤ k
  bel : Below w0.heap.size w0 w
theorem OwnI.nil (w : World) : OwnI w w (.slice none 0 0) [] := ⟨World.ownsRow_nil _ _ _ _, (fun k e => by cases e), Below.refl _ _⟩
theorem OwnI.three (w : World) (a b c : Int) : OwnI w (w.alloc (.cells #[.int .i64 a, .int .i64 b, .int .i64 c] 3)) (.slice (some ⟨w.heap.size, 0, none⟩) 3 3) [a, b, c] :=
  ⟨⟨rfl, .inr ⟨w.heap.size, 3, _, rfl, Nat.zero_le _, heap_alloc_new w _, Nat.le_refl _, (by unfold maxLen; omega), rfl, rfl⟩⟩, (fun k e => Nat.le_of_eq (Option.some.inj e)), (Below.refl _ _).alloc (Nat.le_refl _) _⟩
theorem OwnI.below {w0 w w' : World} {v : Value} {l : List Int} (h : OwnI w0 w v l) (hb : Below w.heap.size w w') : OwnI w0 w' v l :=
  ⟨ownsRow_keep h.row (keeps_below hb Non) (fun _ _ h => h), h.new, below_then h.bel hb⟩
theorem OwnI.from {w00 w0 w : World} {v : Value} {l : List Int} (h : OwnI w0 w v l) (hb : Below w00.heap.size w00 w0) : OwnI w00 w v l :=
  ⟨h.row, fun k e => Nat.le_trans hb.size (h.new k e), below_then hb h.bel⟩
theorem OwnI.lt {w0 w : World} {v : Value} {l : List Int} (h : OwnI w0 w v l) : ∀ k, v.ownBlock = some k → k < w.heap.size := fun k e => (h.row.lt k e).2
theorem irow_of_own {w : World} {base : Nat} {v : Value} {l : List Int} (h : w.ownsRow base 3 1 v l.length (cellsI l)) : ∃ a c, v = .slice a l.length c ∧ IRow w (fun k => v.ownBlock = some k) a l ∧ (a = none → c = 0) ∧ l.length ≤ c ∧ c ≤ maxLen := by
  rcases h.2 with ⟨h1, h0⟩ | ⟨g, cap, cur, h1, hg, hgb, hcap, hcm, hcur, htk⟩
  · exact ⟨none, 0, by rw [h1, h0], .inl (List.length_eq_zero_iff.1 h0), fun _ => rfl, by omega, Nat.zero_le _⟩
  · refine ⟨_, cap, h1, .inr ⟨g, 0, rfl, by rw [h1]; rfl, fun i x hx => ?_⟩, (fun e => by cases e), hcap, hcm⟩
    have := h.cells (g := g) (by rw [h1]; rfl) i (.int .i64 x) (by rw [cellsI, List.getElem?_map, hx]; rfl)
    rwa [Addr.add_mid] at this
theorem OwnI.form {w0 w : World} {v : Value} {l : List Int} (h : OwnI w0 w v l) : ∃ a c, v = .slice a l.length c ∧ IRow w (fun k => v.ownBlock = some k) a l ∧ (a = none → c = 0) ∧ l.length ≤ c ∧ c ≤ maxLen := irow_of_own h.row
theorem OwnI.append {w0 w : World} {v : Value} {l : List Int} (h : OwnI w0 w v l) {S : Nat → Prop} {ad : Option Addr} {m c : Nat} {x : List Int} (hr : IRow w S ad x) (hx : x.length = m) (hc : ad = none → c = 0) (hs : l.length + m ≤ 2147483648) :
    ∃ v' w', (∀ ty, (Builtin.append_ #[23, 23] ty #[v, .slice ad m c]).run Tryz.prog w = .ok v' w') ∧ OwnI w0 w' v' (l ++ x) ∧ w.grownBy w' v.ownBlock ∧ ∀ k, v'.ownBlock = some k → v.ownBlock = some k ∨ w.heap.size ≤ k := by
  cases ad with
  | some b =>
    obtain ⟨v', w', h1, h2, h3, h4⟩ := append_any (w := w) Tryz.underlying23 infoInt rfl (by decide) h.row (b := b) (m := m) (c := c) (news := cellsI x) (by rw [cellsI_len, hx, Nat.mul_one]) (irow_cells hr)
      (by intro u hu; obtain ⟨z, _, rfl⟩ := List.mem_map.1 hu; rfl) (by unfold maxLen; omega) (by omega)
    refine ⟨v', w', h1, ⟨by rw [List.length_append, hx, cellsI_app]; exact h2, fun k e => ?_, ?_⟩, h3, h4⟩
    · rcases h4 k e with h5 | h5
      · exact h.new k h5
      · exact Nat.le_trans h.bel.size h5
    · exact h.bel.trans (((Keeps.refl (fun k => v.ownBlock = some k) w).grown h3 (fun k e => .inl e)).toBelow h.bel.size (fun k e => h.new k e))
  | none =>
    have hx0 : x = [] := by
      rcases hr with h0 | ⟨b, o, he, _⟩
      · exact h0
      · cases he
    obtain rfl : c = 0 := hc rfl
    subst hx0
    obtain rfl : m = 0 := by rw [← hx]; rfl
    refine ⟨v, w, append_any_none Tryz.underlying23 infoInt h.row, by rw [List.append_nil]; exact h, ⟨rfl, rfl, rfl, Nat.le_refl _, fun _ _ _ => rfl⟩, fun k e => .inl e⟩
/-- A new row of numbers. -/
theorem irow_new (w : World) (l : List Int) (fr : Nat × Nat) : IRow (w.alloc (.cells (cellsI l).toArray 3 fr)) (One w.heap.size) (some ⟨w.heap.size, 0, none⟩) l := by
  refine .inr ⟨_, _, rfl, rfl, fun i c hi => ?_⟩
  rw [Nat.zero_add, World.cell?_alloc_mark w _ 3 fr i]
  rw [List.getElem?_toArray, cellsI, List.getElem?_map, hi]
  rfl

/-- A manifest's value. -/
def manV (g l : Int) (a : Option Addr) (n c : Nat) : Value := .agg #[.int .i64 g, .int .i64 l, .slice a n c]

end Go.Proofs.YtacfcfbleogioaaGreatDoor

namespace Go.Proofs.YtacfcfbleogioaaGreatDoor
open Go.RowKit Go.Lib Go.Joins Go.Shelf
attribute [local go_sem] Oper.semAt_some

/-- The places of chunks. -/
abbrev Plc (len : Nat) := { p : Nat // p < len }
/-- A chunk's length. -/
def chN (len p : Nat) : Nat := ((p : Int) + min 4 ((len - p : Nat) : Int)).toNat - p
theorem chN_is (len p : Nat) : chN len p = min 4 (len - p) := by
  unfold chN
  omega
/-- What a round is handed. -/
def chV (b off len p : Nat) : Value := .slice (some ⟨b, off + p, none⟩) (chN len p) (chN len p)
/-- So many chunks' places. -/
def plcs (k : Nat) : List Nat := (List.range k).map (fun i => 4 * i)
theorem plcs_succ (k : Nat) : plcs (k + 1) = plcs k ++ [4 * k] := by simp [plcs, List.range_succ]
theorem plcs_len (k : Nat) : (plcs k).length = k := by simp [plcs]

/-- What a round keeps: what is older, and the two boxes of slices.Chunk. -/
def Kp2 (n₀ : Nat) (A B : World) : Prop := Below n₀ A B ∧ ∀ k, (k = n₀ + 1 ∨ k = n₀ + 1 + 1) → B.heap[k]? = A.heap[k]?
theorem Kp2.refl (n₀ : Nat) (A : World) : Kp2 n₀ A A := ⟨Below.refl _ _, fun _ _ => rfl⟩
theorem Kp2.trans {n₀ : Nat} {A B C : World} (h : Kp2 n₀ A B) (k : Kp2 n₀ B C) : Kp2 n₀ A C := ⟨h.1.trans k.1, fun i hi => (k.2 i hi).trans (h.2 i hi)⟩
theorem Kp2.drewN {n₀ : Nat} {A B : World} (h : Kp2 n₀ A B) (k : Nat) : Kp2 n₀ A (B.drewN k) := ⟨⟨h.1.os, h.1.tape, h.1.output, h.1.size, h.1.block⟩, h.2⟩
theorem Kp2.box {n₀ k : Nat} {A B : World} (h : Kp2 n₀ A B) (hk : k = n₀ + 1 ∨ k = n₀ + 1 + 1) {v : Value} (hc : A.cell? ⟨k, 0, none⟩ = some v) : B.cell? ⟨k, 0, none⟩ = some v := (World.cell?_of_block (a := ⟨k, 0, none⟩) (h.2 k hk)).trans hc

set_option maxRecDepth 100000 in
set_option maxHeartbeats 4000000 in
theorem chunk1_in (n : Nat) (hn : 1 ≤ n) (l Bs Bn n₀ b off len cap : Nat) (hlen : len ≤ 1073741824) (hlc : len ≤ cap) (_hcm : cap ≤ 9223372036854775807) (hs1 : Bs = n₀ + 1) (hs2 : Bn = n₀ + 1 + 1) (J Jx : List (Plc len) → World → Prop)
    (hJd : ∀ pre W k, J pre W → J pre (W.drewN k)) (hY : ∀ pre x W, J pre W → pre.length < len → YieldAt Fence.wide (n - 1) Tryz.prog l #[chV b off len x.1] W fun e W' =>
      (e = .returned (.bool true) ∧ J (pre ++ [x]) W' ∧ Kp2 n₀ W W') ∨ (e = .returned (.bool false) ∧ Jx (pre ++ [x]) W'))
    (W : World) (hBs : W.cell? ⟨Bs, 0, none⟩ = some (.slice (some ⟨b, off, none⟩) len cap)) (hBn : W.cell? ⟨Bn, 0, none⟩ = some (.int .i64 4)) (h0 : J [] W) :
    CallsIn Fence.wide n Tryz.prog 142 #[.func (.yield l) #[] #[], .pointer (some ⟨Bs, 0, none⟩), .pointer (some ⟨Bn, 0, none⟩)] W fun e W' => (∃ v, e = .returned v) ∧
      ((∃ ys, (∃ k, ys.map (fun x : Plc len => x.1) = plcs k ∧ len ≤ 4 * k ∧ 4 * k < len + 4) ∧ J ys W') ∨ (∃ pre, True ∧ Jx pre W')) := by
  have HS1 : Hid (Bs = n₀ + 1) := Lib.hid hs1
  have HS2 : Hid (Bn = n₀ + 1 + 1) := Lib.hid hs2
  clear hs1 hs2
  refine callsIn_of_wp Tryz.func142 rfl trivial ?_ rfl
  simp only [Tryz.ntmps142, List.size_toArray, List.length_cons, List.length_nil, Nat.reduceAdd, Nat.reduceSub, Array.replicate_succ, Array.replicate_zero, List.push_toArray, List.append_toArray, List.nil_append, List.cons_append]
  gi_wp2
  gi_loopw [4] (fun i wr => ∃ (p k : Nat) (pre : List (Plc len)), i = .int .i64 (p : Int) ∧ p = 4 * k ∧ p < len + 4 ∧ pre.map (fun x : Plc len => x.1) = plcs k ∧ J pre wr ∧ Kp2 n₀ W wr)
    (fun i _ => len + 4 - (intOf i).toNat)
  case atStart => exact ⟨0, 0, [], rfl, rfl, by omega, rfl, h0, Kp2.refl _ _⟩
  case round =>
    obtain ⟨p, k, pre, rfl, hpk, hp4, hpre, hJs, hnx⟩ := hrel
    have c1 := hnx.box (.inl HS1.out) hBs
    have c2 := hnx.box (.inr HS2.out) hBn
    by_cases hlt : p < len
    · have hpl : pre.length = k := by have := congrArg List.length hpre; rwa [List.length_map, plcs_len] at this
      have HYQ := Lib.hid (fun k => hY pre ⟨p, hlt⟩ (wr.drewN k) (hJd _ _ _ hJs) (by omega))
      have HPRE := Lib.hid hpre
      have hd : decide ((p : Int) < (len : Int)) = true := by simp; omega
      have HPK := Lib.hid hpk
      have hp9 : p + 4 ≤ 9223372036854775807 := by omega
      clear hpk hpl hpre hJs hY hJd
      gi_wp2
      gi_quiet (fail)
      obtain ⟨fn, tmps, assign, body, hy, hR⟩ := HYQ.out nq
      unfold chV chN at hy
      try dsimp only at hy
      gi_wp2
      refine hR.mono ?_
      rintro e W3 (⟨rfl, hJ3, hk3⟩ | ⟨rfl, hJx3⟩)
      · have hnx3 : Kp2 n₀ W W3 := (hnx.drewN nq).trans hk3
        have c3 := hnx3.box (.inr HS2.out) hBn
        have HP4 : Hid ((pre ++ [(⟨p, hlt⟩ : Plc len)]).map (fun x : Plc len => x.1) = plcs (k + 1)) := Lib.hid (by rw [List.map_append, HPRE.out, plcs_succ, ← HPK.out]; rfl)
        gi_wp2
        go_roundw
        case rel => exact ⟨p + 4, k + 1, _, by go_num, by have := HPK.out; omega, by omega, HP4.out, hJ3, hnx3⟩
        case measure => simp [intOf]; omega
      · gi_wp2
        refine bodyPost_ret (results_none rfl _ _ _) rfl ?_
        exact ⟨⟨_, rfl⟩, .inr ⟨_, trivial, hJx3⟩⟩
    · have hd : decide ((p : Int) < (len : Int)) = false := by simp; omega
      gi_wp2
      go_end0
      exact ⟨⟨_, rfl⟩, .inl ⟨pre, ⟨k, hpre, by omega, by omega⟩, hJs⟩⟩


/-- .. at a slice without bytes: no round. -/
theorem chunk0_in (n : Nat) (l Bs Bn : Nat) (a : Option Addr) (cap : Nat) (J : List (Plc 0) → World → Prop) (W : World) (hBs : W.cell? ⟨Bs, 0, none⟩ = some (.slice a 0 cap)) (h0 : J [] W) :
    CallsIn Fence.wide n Tryz.prog 142 #[.func (.yield l) #[] #[], .pointer (some ⟨Bs, 0, none⟩), .pointer (some ⟨Bn, 0, none⟩)] W fun e W' => (∃ v, e = .returned v) ∧ J [] W' := by
  refine callsIn_of_wp Tryz.func142 rfl trivial ?_ rfl
  simp only [Tryz.ntmps142, List.size_toArray, List.length_cons, List.length_nil, Nat.reduceAdd, Nat.reduceSub, Array.replicate_succ, Array.replicate_zero, List.push_toArray, List.append_toArray, List.nil_append, List.cons_append]
  gi_wp2
  gi_loopw [4] (fun i wr => i = .int .i64 0 ∧ J [] wr ∧ wr.cell? ⟨Bs, 0, none⟩ = some (.slice a 0 cap)) (fun _ _ => 0)
  case atStart => exact ⟨rfl, h0, hBs⟩
  case round =>
    obtain ⟨rfl, hJs, hc⟩ := hrel
    gi_wp2
    go_end0
    exact ⟨⟨_, rfl⟩, hJs⟩

/-- slices.Chunk by fours: the slice and the number are boxed; the function value captures the boxes. -/
theorem chunk_in (n : Nat) (a : Option Addr) (len cap : Nat) (w : World) :
    CallsIn Fence.wide n Tryz.prog 119 #[.slice a len cap, .int .i64 4] w fun e w' => e = .returned (.func (.func 142) #[] #[.pointer (some ⟨w.heap.size, 0, none⟩), .pointer (some ⟨w.heap.size + 1, 0, none⟩)]) ∧ w' = (w.alloc (.cells #[.slice a len cap] 61)).alloc (.cells #[.int .i64 4] 3) := by
  refine callsIn_of_wp Tryz.func119 rfl trivial ?_ rfl
  simp only [Tryz.ntmps119, List.size_toArray, List.length_cons, List.length_nil, Nat.reduceAdd, Nat.reduceSub, Array.replicate_succ, Array.replicate_zero, List.push_toArray, List.append_toArray, List.nil_append, List.cons_append]
  gi_wp2
  go_ret
  exact ⟨rfl, rfl⟩

/-- What slices.Chunk hands back, as the caller's law wants it. -/
theorem chunk_stops (n : Nat) (hn : 1 ≤ n) (Bs Bn n₀ : Nat) (a : Option Addr) (len cap : Nat) (hlen : len ≤ 1073741824) (hlc : len ≤ cap) (hcm : cap ≤ 9223372036854775807) (w : World) (hB1 : Bs = n₀ + 1) (hB2 : Bn = n₀ + 1 + 1) (b off : Nat) (ha : 0 < len → a = some ⟨b, off, none⟩)
    (hBs : w.cell? ⟨Bs, 0, none⟩ = some (.slice a len cap)) (hBn : w.cell? ⟨Bn, 0, none⟩ = some (.int .i64 4)) :
    SeqStopsK Fence.wide n Tryz.prog 142 #[.pointer (some ⟨Bs, 0, none⟩), .pointer (some ⟨Bn, 0, none⟩)] (fun x : Plc len => #[chV b off len x.1]) (Kp2 n₀) (fun ys => ∃ k, ys.map (fun x : Plc len => x.1) = plcs k ∧ len ≤ 4 * k ∧ 4 * k < len + 4) (fun _ => True) len w := fun l J Jx W hW hJ _ hY h0 => by
  have c1 := (hW.cell (p := ⟨Bs, 0, none⟩) (lt_of_cell hBs)).trans hBs
  have c2 := (hW.cell (p := ⟨Bn, 0, none⟩) (lt_of_cell hBn)).trans hBn
  by_cases h : len = 0
  · subst h
    exact (chunk0_in n l Bs Bn a cap J W c1 h0).mono fun e W' ⟨he, hj⟩ => ⟨he, .inl ⟨[], ⟨0, rfl, Nat.le_refl _, by decide⟩, hj⟩⟩
  · obtain rfl := ha (by omega)
    refine (chunk1_in n hn l Bs Bn n₀ b off len cap hlen hlc hcm hB1 hB2 J Jx (fun pre W1 k hj => hJ _ _ _ none hj ⟨rfl, rfl, rfl, Nat.le_refl _, fun _ _ _ => rfl⟩ (fun r e => by cases e)) hY W c1 c2 h0).mono ?_
    rintro e W' ⟨he, ⟨ys, ⟨k, h1, h2, h3⟩, hj⟩ | ⟨pre, _, hj⟩⟩
    · exact ⟨he, .inl ⟨ys, ⟨k, h1, h2, h3⟩, hj⟩⟩
    · exact ⟨he, .inr ⟨pre, trivial, hj⟩⟩

end Go.Proofs.YtacfcfbleogioaaGreatDoor
