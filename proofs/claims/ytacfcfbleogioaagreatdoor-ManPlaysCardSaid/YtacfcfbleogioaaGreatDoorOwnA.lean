/-
  A slice of slices of bytes; whether two rows of bytes are the same, whether two slices of such rows are; how many bytes they have together. Conditions: slices lead to what they are said to; they are no longer than 2 to the 30.
  append to a row of the call's own: of bytes, and of slices of bytes; bytes.Clone, slices.Grow, slices.Concat. Conditions: slices lead to what they are said to; together they are no longer than 2 to the 31.
  A record's frame, put by the program and by the reference. Condition: the slice leads to bytes, no more than 2 to the 30.
  The record at the beginning of bytes, told by the program and by the reference. Condition: the slice leads to bytes, no more than 2 to the 30.
-/
import Derived.Test.YtacfcfbleogioaaGreatDoorWordA
import Derived.Maps.AppendAt
import Derived.Lib.AppendZerosOnto
import Derived.Lib.SliceRun
import Derived.OwnWalk
namespace Go.Proofs.YtacfcfbleogioaaGreatDoor
open Go.RowKit Go.Lib

/-- These cells are slices of bytes, one behind the other. -/
structure RCells (w : World) (S : Nat → Prop) (cells : List Value) (L : List (List Nat)) : Prop where
  len : cells.length = L.length
  at_ : ∀ (i : Nat) (l : List Nat), L[i]? = some l → ∃ v, cells[i]? = some v ∧ Byt w S v l

theorem RCells.nil (w : World) (S : Nat → Prop) : RCells w S [] [] := ⟨rfl, fun i f h => by simp at h⟩
theorem RCells.keep {w w' : World} {S O : Nat → Prop} {cells : List Value} {L : List (List Nat)} (h : RCells w S cells L) (hb : Keeps O w w') (hO : ∀ k, S k → ¬ O k) : RCells w' S cells L :=
  ⟨h.len, fun i f hi => by obtain ⟨v, h1, h2⟩ := h.at_ i f hi; exact ⟨v, h1, h2.keep hb hO⟩⟩
theorem RCells.mono {w : World} {S S' : Nat → Prop} {cells : List Value} {L : List (List Nat)} (h : RCells w S cells L) (hS : ∀ k, S k → S' k) : RCells w S' cells L :=
  ⟨h.len, fun i f hi => by obtain ⟨v, h1, h2⟩ := h.at_ i f hi; exact ⟨v, h1, h2.mono hS⟩⟩
theorem RCells.app {w : World} {S : Nat → Prop} {cells cells' : List Value} {L L' : List (List Nat)} (h : RCells w S cells L) (h' : RCells w S cells' L') : RCells w S (cells ++ cells') (L ++ L') := by
  have hl := h.len
  refine ⟨by rw [List.length_append, List.length_append, h.len, h'.len], fun i f hi => ?_⟩
  by_cases hlt : i < L.length
  · rw [List.getElem?_append_left hlt] at hi
    rw [List.getElem?_append_left (by omega)]
    exact h.at_ i f hi
  · rw [List.getElem?_append_right (by omega)] at hi
    rw [List.getElem?_append_right (by omega), hl]
    exact h'.at_ _ f hi
theorem RCells.one {w : World} {S : Nat → Prop} {v : Value} {l : List Nat} (h : Byt w S v l) : RCells w S [v] [l] := by
  refine ⟨rfl, fun i g hi => ?_⟩
  cases i with
  | zero =>
    obtain rfl : l = g := by simpa using hi
    exact ⟨v, rfl, h⟩
  | succ k => simp at hi

/-- A slice leads to these rows of bytes, in blocks of S. -/
def Recs (w : World) (S : Nat → Prop) (a : Option Addr) (L : List (List Nat)) : Prop :=
  ∃ cells, RCells w S cells L ∧ (L = [] ∨ ∃ b o, a = some ⟨b, o, none⟩ ∧ S b ∧ ∀ j u, cells[j]? = some u → w.cell? ⟨b, o + j, none⟩ = some u)

theorem Recs.keep {w w' : World} {S O : Nat → Prop} {a : Option Addr} {L : List (List Nat)} (h : Recs w S a L) (hb : Keeps O w w') (hO : ∀ k, S k → ¬ O k) : Recs w' S a L := by
  obtain ⟨cells, h1, h2⟩ := h
  refine ⟨cells, h1.keep hb hO, ?_⟩
  rcases h2 with h2 | ⟨b, o, h2, h3, h4⟩
  · exact .inl h2
  · exact .inr ⟨b, o, h2, h3, fun j u hu => (World.cell?_of_block (a := ⟨b, o + j, none⟩) (hb.block b (lt_of_cell (h4 j u hu)) (hO b h3))).trans (h4 j u hu)⟩
theorem Recs.mono {w : World} {S S' : Nat → Prop} {a : Option Addr} {L : List (List Nat)} (h : Recs w S a L) (hS : ∀ k, S k → S' k) : Recs w S' a L := by
  obtain ⟨cells, h1, h2⟩ := h
  refine ⟨cells, h1.mono hS, ?_⟩
  rcases h2 with h2 | ⟨b, o, h2, h3, h4⟩
  · exact .inl h2
  · exact .inr ⟨b, o, h2, hS b h3, h4⟩
theorem Recs.below {w w' : World} {S : Nat → Prop} {a : Option Addr} {L : List (List Nat)} (h : Recs w S a L) (hb : Below w.heap.size w w') : Recs w' S a L := h.keep (keeps_below hb Non) (fun _ _ h => h)
theorem Recs.draws {w : World} {S : Nat → Prop} {a : Option Addr} {L : List (List Nat)} (h : Recs w S a L) (n : Nat) : Recs (w.drewN n) S a L := h.keep ((Keeps.refl Non _).drewN _) (fun _ _ h => h)
theorem Byt.below {w w' : World} {S : Nat → Prop} {v : Value} {l : List Nat} (h : Byt w S v l) (hb : Below w.heap.size w w') : Byt w' S v l := h.keep (keeps_below hb Non) (fun _ _ h => h)
/-- A row that is there. -/
theorem recs_at {w : World} {S : Nat → Prop} {a : Option Addr} {L : List (List Nat)} (h : Recs w S a L) {i : Nat} {l : List Nat} (hi : L[i]? = some l) :
    ∃ b o da dc, a = some ⟨b, o, none⟩ ∧ S b ∧ w.cell? ⟨b, o + i, none⟩ = some (.slice da l.length dc) ∧ Row w S da l ∧ (da = none → dc = 0) ∧ l.length ≤ dc ∧ dc ≤ maxLen := by
  obtain ⟨cells, h1, h2⟩ := h
  rcases h2 with h2 | ⟨b, o, h2, h3, h4⟩
  · rw [h2] at hi; simp at hi
  · obtain ⟨v, h5, ⟨⟨da, dc, rfl, h6, h7, h8, h9⟩⟩⟩ := h1.at_ i l hi
    exact ⟨b, o, da, dc, h2, h3, h4 i _ h5, h6, h7, h8, h9⟩
theorem tot_drop {L : List (List Nat)} {i : Nat} {f : List Nat} (hf : L[i]? = some f) : tot (L.drop i) = f.length + tot (L.drop (i + 1)) := by
  obtain ⟨h1, rfl⟩ := List.getElem?_eq_some_iff.1 hf
  rw [List.drop_eq_getElem_cons h1, tot_cons]

end Go.Proofs.YtacfcfbleogioaaGreatDoor

namespace Go.Proofs.YtacfcfbleogioaaGreatDoor
open Go.RowKit Go.Lib Go.Joins

/-- append, as one step. -/
theorem fstep_append {P : Program} {ops : Array Oper} {o : Oper} {a : Act} {w w' : World} {K : Act → World → Prop} {Q : Exit → Act → World → Prop} {E : Prop}
    (hg : o.guard = none) (s x : Operand) (t t' : TypeId) (hop : o.op = Op.call { callee := Callee.builtin Builtin.append, args := #[s, x], argTypes := #[t, t'] })
    (vs vx v : Value) (hs : a.eval s = vs) (hx : a.eval x = vx) (hrun : ∀ ty, (Builtin.append_ #[t, t'] ty #[vs, vx]).run P w = .ok v w') (hK : K (a.put o.dst v) w') :
    if Region.wanted o (yielded ops a.tmps) = true then Oper.wp P o a w K Q else E := by
  have hw : Region.wanted o (yielded ops a.tmps) = true := by simp [Region.wanted, hg]
  rw [if_pos hw]
  unfold Oper.wp
  simp [execOp, hop, resolve, invoke, builtin, hs, hx, hrun o.type, Result.andThen]
  exact hK

/-- .. where what it makes is known first. -/
theorem step_app {P : Program} {ops : Array Oper} {o : Oper} {a : Act} {w w' : World} {K : Act → World → Prop} {Q : Exit → Act → World → Prop} {E : Prop} {t t' : TypeId} {vs vx v : Value}
    (hrun : ∀ ty, (Builtin.append_ #[t, t'] ty #[vs, vx]).run P w = .ok v w') (s x : Operand) (hg : o.guard = none) (hop : o.op = Op.call { callee := Callee.builtin Builtin.append, args := #[s, x], argTypes := #[t, t'] })
    (hs : a.eval s = vs) (hx : a.eval x = vx) (hK : K (a.put o.dst v) w') :
    if Region.wanted o (yielded ops a.tmps) = true then Oper.wp P o a w K Q else E := fstep_append hg s x t t' hop vs vx v hs hx hrun hK

theorem frow_cells {w : World} {S : Nat → Prop} {b : Addr} {l : List Nat} (hr : Row w S (some b) l) : ∀ j u, (cellsN l)[j]? = some u → w.cell? (b.add j) = some u := by
  intro j u hj
  rw [cellsN, List.getElem?_map] at hj
  obtain ⟨c, hc, rfl⟩ := Option.map_eq_some_iff.1 hj
  obtain ⟨b', o', hb, hcell⟩ := row_at hr hc
  obtain rfl : b = ⟨b', o', none⟩ := by simpa using hb
  rwa [Addr.add_mid]

/-- Bytes of the call's own: in what it made since w0. -/
structure Own (w0 w : World) (v : Value) (l : List Nat) : Prop where
  row : w.ownsRow 0 5 1 v l.length (cellsN l)
  byts : Byts l
  new : ∀ k, v.ownBlock = some k → w0.heap.size ≤ k
  bel : Below w0.heap.size w0 w

theorem Own.nil (w : World) : Own w w (.slice none 0 0) [] := ⟨World.ownsRow_nil _ _ _ _, (fun c hc => by cases hc), (fun k e => by cases e), Below.refl _ _⟩
theorem Own.empty (w : World) : Own w (w.alloc (.cells #[] 5)) (.slice (some ⟨w.heap.size, 0, none⟩) 0 0) [] :=
  ⟨World.ownsRow_made w #[] 0 (Nat.zero_le _) (by unfold maxLen; omega) rfl, (fun c hc => by cases hc), (fun k e => Nat.le_of_eq (Option.some.inj e)), (Below.refl _ _).alloc (Nat.le_refl _) _⟩
theorem Own.below {w0 w w' : World} {v : Value} {l : List Nat} (h : Own w0 w v l) (hb : Below w.heap.size w w') : Own w0 w' v l :=
  ⟨ownsRow_keep h.row (keeps_below hb Non) (fun _ _ h => h), h.byts, h.new, below_then h.bel hb⟩
theorem Own.from {w00 w0 w : World} {v : Value} {l : List Nat} (h : Own w0 w v l) (hb : Below w00.heap.size w00 w0) : Own w00 w v l :=
  ⟨h.row, h.byts, fun k e => Nat.le_trans hb.size (h.new k e), below_then hb h.bel⟩
theorem Own.lt {w0 w : World} {v : Value} {l : List Nat} (h : Own w0 w v l) : ∀ k, v.ownBlock = some k → k < w.heap.size := fun k e => (h.row.lt k e).2
theorem Own.form {w0 w : World} {v : Value} {l : List Nat} (h : Own w0 w v l) : ∃ a c, v = .slice a l.length c ∧ Row w (fun k => v.ownBlock = some k) a l ∧ (a = none → c = 0) ∧ l.length ≤ c ∧ c ≤ maxLen := by
  rcases h.row.2 with ⟨h1, h0⟩ | ⟨g, cap, cur, h1, hg, hgb, hcap, hcm, hcur, htk⟩
  · exact ⟨none, 0, by rw [h1, h0], ⟨h.byts, .inl (List.length_eq_zero_iff.1 h0)⟩, fun _ => rfl, by omega, Nat.zero_le _⟩
  · refine ⟨_, cap, h1, ⟨h.byts, .inr ⟨g, 0, rfl, by rw [h1]; rfl, fun i x hx => ?_⟩⟩, (fun e => by cases e), hcap, hcm⟩
    have := h.row.cells (g := g) (by rw [h1]; rfl) i (.int .u8 (x : Int)) (by rw [cellsN, List.getElem?_map, hx]; rfl)
    rwa [Addr.add_mid] at this
theorem Own.byt {w0 w : World} {v : Value} {l : List Nat} (h : Own w0 w v l) : Byt w (fun k => v.ownBlock = some k) v l := by
  obtain ⟨a, c, h1, h2, h3, h4, h5⟩ := h.form
  exact ⟨⟨a, c, h1, h2, h3, h4, h5⟩⟩

theorem Own.append {w0 w : World} {v : Value} {l : List Nat} (h : Own w0 w v l) {S : Nat → Prop} {ad : Option Addr} {m c : Nat} {x : List Nat} (hr : Row w S ad x) (hx : x.length = m) (hc : ad = none → c = 0) (hs : l.length + m ≤ 2147483648) :
    ∃ v' w', (∀ ty, (Builtin.append_ #[61, 61] ty #[v, .slice ad m c]).run Tryz.prog w = .ok v' w') ∧ Own w0 w' v' (l ++ x) ∧ w.grownBy w' v.ownBlock ∧ ∀ k, v'.ownBlock = some k → v.ownBlock = some k ∨ w.heap.size ≤ k := by
  cases ad with
  | some b =>
    obtain ⟨v', w', h1, h2, h3, h4⟩ := append_any (w := w) Tryz.underlying61 info5 rfl (by decide) h.row (b := b) (m := m) (c := c) (news := cellsN x) (by rw [cellsN_len, hx, Nat.mul_one]) (frow_cells hr)
      (by intro u hu; obtain ⟨z, _, rfl⟩ := List.mem_map.1 hu; rfl) (by unfold maxLen; omega) (by omega)
    refine ⟨v', w', h1, ⟨by rw [List.length_append, hx, cellsN_app]; exact h2, h.byts.app hr.1, fun k e => ?_, ?_⟩, h3, h4⟩
    · rcases h4 k e with h5 | h5
      · exact h.new k h5
      · exact Nat.le_trans h.bel.size h5
    · exact h.bel.trans (((Keeps.refl (fun k => v.ownBlock = some k) w).grown h3 (fun k e => .inl e)).toBelow h.bel.size (fun k e => h.new k e))
  | none =>
    have hx0 : x = [] := by
      rcases hr.2 with h0 | ⟨b, o, he, _⟩
      · exact h0
      · cases he
    obtain rfl : c = 0 := hc rfl
    subst hx0
    obtain rfl : m = 0 := by rw [← hx]; rfl
    refine ⟨v, w, append_any_none Tryz.underlying61 info5 h.row, by rw [List.append_nil]; exact h, ⟨rfl, rfl, rfl, Nat.le_refl _, fun _ _ _ => rfl⟩, fun k e => .inl e⟩

/-- A call that returns bytes of its own. -/
def Gives (l : List Nat) (w : World) (e : Ending) (w' : World) : Prop := ∃ v, e = .returned v ∧ Own w w' v l

set_option maxRecDepth 100000 in
set_option maxHeartbeats 1000000 in
theorem fclone_calls {S : Nat → Prop} (b : Addr) (l : List Nat) (n c : Nat) (w : World) (hr : Row w S (some b) l) (hn : l.length = n) (hm : n ≤ 2147483648) : Calls Tryz.prog 34 #[.slice (some b) n c] w (Gives l w) := by
  subst hn
  obtain ⟨v', w', hrun, hown, _⟩ := (Own.empty w).append (hr.keep ((Keeps.refl Non w).alloc (.cells #[] 5)) (fun _ _ h => h)) rfl (c := c) (fun e => by cases e) (by simp; omega)
  rw [List.nil_append] at hown
  obtain ⟨a', c', rfl, _⟩ := hown.form
  have HRUN := Lib.hid hrun
  have HO := Lib.hid hown
  have q22 : ∀ W : World, (binOp .eql 61 (.slice (some b) l.length c) (.slice none 0 0)).run Tryz.prog W = .ok (.bool false) W := fun W => Lib.run_eql_slice_nil W _ _ _ _ _ _ _ Tryz.underlying61
  clear hr hrun hown
  go_enter Tryz.func34, Tryz.ntmps34
  go_wp2_with (at_builtin; refine wpList_step (fun K hK => fstep_append rfl _ _ 61 61 rfl _ _ _ rfl rfl HRUN.out (hK _ _ ?_)))
  go_wp2
  go_ret
  exact ⟨_, rfl, HO.out⟩

set_option maxRecDepth 100000 in
set_option maxHeartbeats 1000000 in
theorem grow_calls (n : Nat) (w : World) (hm : n ≤ 2147483648) : Calls Tryz.prog 137 #[.slice none 0 0, .int .i64 (n : Int)] w (Gives [] w) := by
  by_cases h0 : n = 0
  · subst h0
    go_enter Tryz.func137, Tryz.ntmps137
    go_wp2
    go_ret
    exact ⟨_, rfl, Own.nil w⟩
  · obtain ⟨i5, hi5, hj50, hj51, hj52⟩ := info_parts info5
    have hrun : ∀ ty, (Builtin.append_ #[61, 3] ty #[.slice none 0 0, .int .i64 (n : Int)]).run Tryz.prog w = .ok (.slice (some ⟨w.heap.size, 0, none⟩) n (grownCap w n 0 5)) (w.drew.alloc (.cells (Builtin.zeroCells (Value.int .u8 0).cells n ++ Builtin.zeroCells (Value.int .u8 0).cells (grownCap w n 0 5 - n)) 5)) := fun ty =>
      run_append_nil_zeros w 61 3 ty 5 i5 (.int .u8 0) .i64 .i64 Tryz.underlying61 Tryz.underlying3 hi5 hj50 n (by omega) (by omega) (by omega) (by rw [hj52]; omega)
    have hcap := grownCap_ge w n 0 5
    have hcm := grownCap_le_maxLen w n 0 5 (by unfold maxLen; omega)
    have hown : Own w (w.drew.alloc (.cells (Builtin.zeroCells (Value.int .u8 0).cells n ++ Builtin.zeroCells (Value.int .u8 0).cells (grownCap w n 0 5 - n)) 5)) (.slice (some ⟨w.heap.size, 0, none⟩) 0 (grownCap w n 0 5)) [] :=
      ⟨World.ownsRow_made w.drew _ _ (Nat.zero_le _) hcm (by simp [Builtin.zeroCells, Value.cells]; omega), (fun c hc => by cases hc), (fun k e => Nat.le_of_eq (Option.some.inj e)), (Below.refl _ _).drew.alloc (Nat.le_refl _) _⟩
    have HRUN := Lib.hid hrun
    have HO := Lib.hid hown
    have hd1 : decide ((n : Int) < 0) = false := by simp
    have hd2 : decide ((n : Int) > 0) = true := by simp; omega
    obtain ⟨W, hW⟩ : ∃ W, (w.drew.alloc (.cells (Builtin.zeroCells (Value.int .u8 0).cells n ++ Builtin.zeroCells (Value.int .u8 0).cells (grownCap w n 0 5 - n)) 5)) = W := ⟨_, rfl⟩
    obtain ⟨C, hC⟩ : ∃ C, grownCap w n 0 5 = C := ⟨_, rfl⟩
    rw [hW] at HRUN HO
    rw [hC] at HRUN HO hcap hcm
    clear hrun hown hW hC
    go_enter Tryz.func137, Tryz.ntmps137
    go_wp2_with (at_builtin; refine wpList_step (fun K hK => fstep_append rfl _ _ 61 3 rfl _ _ _ rfl rfl HRUN.out (hK _ _ ?_)))
    go_wp2
    go_ret
    exact ⟨_, rfl, HO.out⟩

theorem flat_take {L : List (List Nat)} {i : Nat} {f : List Nat} (hf : L[i]? = some f) : (L.take (i + 1)).flatten = (L.take i).flatten ++ f := by
  rw [List.take_add_one, hf, List.flatten_append]
  simp
theorem flat_len : ∀ L : List (List Nat), L.flatten.length = tot L
  | [] => rfl
  | r :: L => by rw [List.flatten_cons, List.length_append, flat_len L, tot_cons]
theorem flat_take_le (L : List (List Nat)) (i : Nat) : (L.take i).flatten.length ≤ tot L := by
  have h := flat_len L
  have e : L.flatten = (L.take i).flatten ++ (L.drop i).flatten := by rw [← List.flatten_append, List.take_append_drop]
  rw [e, List.length_append] at h
  omega

set_option maxRecDepth 100000 in
set_option maxHeartbeats 4000000 in
theorem concat_calls {S : Nat → Prop} (a : Option Addr) (L : List (List Nat)) (n c : Nat) (w : World) (hr : Recs w S a L) (hn : L.length = n) (hm : tot L ≤ 1073741824) (hb2 : n ≤ 281474976710656) : Calls Tryz.prog 114 #[.slice a n c] w (Gives L.flatten w) := by
  obtain ⟨q, hq⟩ : ∃ q, tot L = q := ⟨_, rfl⟩
  have HT := Lib.hid (fun i => flat_take_le L i)
  rw [hq] at hm HT
  have HQ := Lib.hid hq
  have HR := Lib.hid hr
  have HN := Lib.hid hn
  clear hr hn hq
  go_enter Tryz.func114, Tryz.ntmps114
  go_wp2
  go_loopg [3, 11] n (fun g acc idx wr => ∃ (i m : Nat), idx = .int .i64 (i : Int) ∧ acc = .int .i64 (m : Int) ∧ g + i = n ∧ m + tot (L.drop i) = q ∧ w = wr)
  case atStart => exact ⟨0, 0, rfl, rfl, rfl, by rw [Nat.zero_add]; exact HQ.out, rfl⟩
  case round =>
    obtain ⟨i, m, rfl, rfl, hg, hmm, rfl⟩ := hrel
    have HG := Lib.hid hg
    have HM := Lib.hid hmm
    clear hg hmm HQ
    by_cases hlt : i < n
    · obtain ⟨g', rfl⟩ : ∃ g', gk = g' + 1 := ⟨gk - 1, by have := HG.out; omega⟩
      have hdd : decide ((i : Int) < (n : Int)) = true := by simp; omega
      obtain ⟨f, hf⟩ : ∃ x, L[i]? = some x := ⟨L[i]'(by rw [HN.out]; exact hlt), List.getElem?_eq_getElem _⟩
      have HN2 : Hid (m + f.length + tot (L.drop (i + 1)) = q) := Lib.hid (by rw [← HM.out, tot_drop hf]; omega)
      obtain ⟨b, o, da, dc, rfl, _, r0, _⟩ := recs_at HR.out hf
      obtain ⟨z, hz⟩ : ∃ z, f.length = z := ⟨_, rfl⟩
      rw [hz] at r0 HN2
      have hz1 : (m : Int) + (z : Int) ≤ 9223372036854775807 := by have := HN2.out; omega
      have hz2 : decide ((m : Int) + (z : Int) < 0) = false := by simp; omega
      clear hf hz HM
      go_wp2
      go_roundg g'
      case measure => omega
      case rel => exact ⟨i + 1, m + z, by go_num, by go_num, by have := HG.out; omega, HN2.out, rfl⟩
    · have hdd : decide ((i : Int) < (n : Int)) = false := by simp; omega
      have hmq : m = q := by
        have := HM.out
        rw [List.drop_eq_nil_of_le (by rw [HN.out]; omega), tot_nil] at this
        omega
      subst hmq
      clear HM
      go_wp2_with fail
      refine (grow_calls m _ (by omega)).mono ?_
      rintro e w1 ⟨v1, rfl, hown1⟩
      have HO1 := Lib.hid hown1
      clear hown1
      go_wp2
      go_loopg [6, 27] n (fun g acc idx wr => ∃ (i : Nat), idx = .int .i64 (i : Int) ∧ g + i = n ∧ Own w wr acc (L.take i).flatten)
      case atStart => exact ⟨0, rfl, rfl, HO1.out⟩
      case round =>
        obtain ⟨i2, rfl, hg2, hown2⟩ := hrel
        have HG2 := Lib.hid hg2
        have HO2 := Lib.hid hown2
        clear hg2 HO1 hown2
        by_cases hlt2 : i2 < n
        · obtain ⟨g2, rfl⟩ : ∃ g2, gk = g2 + 1 := ⟨gk - 1, by have := HG2.out; omega⟩
          have hdd2 : decide ((i2 : Int) < (n : Int)) = true := by simp; omega
          obtain ⟨f, hf⟩ : ∃ x, L[i2]? = some x := ⟨L[i2]'(by rw [HN.out]; exact hlt2), List.getElem?_eq_getElem _⟩
          obtain ⟨b, o, da, dc, rfl, _, r0, hrow, hnil, _⟩ := recs_at (HR.out.below HO2.out.bel) hf
          obtain ⟨v3, w3, hrun, hown3, _⟩ := HO2.out.append hrow rfl hnil (by
            have h1 := HT.out (i2 + 1)
            rw [flat_take hf, List.length_append] at h1
            omega)
          rw [← flat_take hf] at hown3
          have HO3 := Lib.hid hown3
          have HRUN := Lib.hid hrun
          clear hf hrow hnil hrun hown3
          go_wp2_with (at_builtin; refine wpList_step (fun K hK => fstep_append rfl _ _ 61 61 rfl _ _ _ rfl rfl HRUN.out (hK _ _ ?_)))
          go_wp2
          go_roundg g2
          case measure => omega
          case rel => exact ⟨i2 + 1, by go_num, by have := HG2.out; omega, HO3.out⟩
        · have hdd2 : decide ((i2 : Int) < (n : Int)) = false := by simp; omega
          have HF : Hid ((L.take i2).flatten = L.flatten) := Lib.hid (by rw [List.take_of_length_le (by rw [HN.out]; omega)])
          go_wp2
          go_ret
          exact ⟨_, rfl, by rw [← HF.out]; exact HO2.out⟩

end Go.Proofs.YtacfcfbleogioaaGreatDoor

namespace Go.Proofs.YtacfcfbleogioaaGreatDoor
open Go.RowKit Go.Lib

theorem recs_made {w : World} {S : Nat → Prop} {cells : List Value} {L : List (List Nat)} (h : RCells w S cells L) : Recs (w.alloc (.cells cells.toArray 61)) (fun k => S k ∨ k = w.heap.size) (some ⟨w.heap.size, 0, none⟩) L := by
  refine ⟨cells, (h.keep ((Keeps.refl Non w).alloc _) (fun _ _ h => h)).mono (fun _ h => .inl h), .inr ⟨_, _, rfl, .inr rfl, fun j u hu => ?_⟩⟩
  rw [Nat.zero_add, World.cell?_alloc_mark w cells.toArray 61 (0, 0) j]
  simpa using hu

/-- Four6 bytes of a number, of the call's own. -/
def Fours (n : Nat) (w : World) (e : Ending) (w' : World) : Prop := e = .returned (.slice (some ⟨w.heap.size, 0, none⟩) 4 4) ∧ Own w w' (.slice (some ⟨w.heap.size, 0, none⟩) 4 4) (w32 n)
theorem four_gives {n : Nat} (h : n < 4294967296) {w w' : World} {e : Ending} (hf : Four6 (n : Int) w e w') : Fours n w e w' := by
  obtain ⟨h1, h2, h3⟩ := four_own h hf
  exact ⟨h1, ⟨⟨h2.1, by rcases h2.2 with h | ⟨g, cap, cur, e1, _, e2⟩; exact .inl h; exact .inr ⟨g, cap, cur, e1, Nat.zero_le _, e2⟩⟩, w32_byts n, (fun k e => Nat.le_of_eq (Option.some.inj e)), h3⟩⟩
theorem write_gives (n : Nat) (w : World) (h : n < 4294967296) : Calls Tryz.prog 113 #[.int .u32 (n : Int)] w (Fours n w) := (write_calls (n : Int) w (by omega) (by omega)).mono fun _ _ hf => four_gives h hf
theorem put32_gives (n : Nat) (w : World) (h : n < 4294967296) : Calls Tryz.prog 107 #[.int .u32 (n : Int)] w (Fours n w) := (put32_calls (n : Int) w (by omega) (by omega)).mono fun _ _ hf => four_gives h hf

theorem byt_of {w : World} {S : Nat → Prop} {a : Option Addr} {l : List Nat} {n c : Nat} (hr : Row w S a l) (hn : l.length = n) (h0 : a = none → c = 0) (h1 : n ≤ c) (h2 : c ≤ maxLen) : Byt w S (.slice a n c) l := by
  subst hn
  exact ⟨⟨a, c, rfl, hr, h0, h1, h2⟩⟩

set_option maxRecDepth 100000 in
set_option maxHeartbeats 4000000 in
theorem put_calls {S : Nat → Prop} (a : Option Addr) (l : List Nat) (n c : Nat) (w : World) (hr : Row w S a l) (hn : l.length = n) (hm : n ≤ 1073741824) (h0 : a = none → c = 0) (h1 : n ≤ c) (h2 : c ≤ maxLen) :
    Calls Tryz.prog 75 #[.slice a n c] w (Gives (putB l) w) := by
  by_cases hmay : 1 ≤ n ∧ n ≤ 1048576
  · have hmb : mayB (n : Int) = true := by unfold mayB; simp; omega
    have hp : putB l = w32 n ++ (w32 (sumN (w32 n) l) ++ l) := by
      unfold putB frm
      rw [hn, if_pos hmay]
    rw [hp]
    have HS := Lib.hid (sumN_lt (w32 n) l)
    have HSUM := Lib.hid (fun b W (h : Row W (fun k => (Value.slice (some b) 4 4).ownBlock = some k) (some b) (w32 n)) (h' : Row W S a l) => fsum_calls (some b) a (w32 n) l 4 4 n c W h rfl (by omega) h' hn hm)
    obtain ⟨s, hs⟩ : ∃ s, sumN (w32 n) l = s := ⟨_, rfl⟩
    rw [hs] at HS HSUM ⊢
    have HR := Lib.hid hr
    have HB := Lib.hid (byt_of hr hn h0 h1 h2)
    have hn32 : (n : Int) < 4294967296 := by omega
    clear hr hp hs
    go_enter Tryz.func75, Tryz.ntmps75
    go_wp2_with fail
    refine (fmay_calls _ _).mono ?_
    rintro e w1 ⟨rfl, rfl⟩
    rw [hmb]
    go_wp2_with fail
    refine (write_gives n w1 (by omega)).mono ?_
    rintro e w2 ⟨rfl, hown2⟩
    have HO2 := Lib.hid hown2
    obtain ⟨a2, c2, hv2, hr2, -⟩ := hown2.form
    simp only [Value.slice.injEq] at hv2
    obtain ⟨rfl, -, rfl⟩ := hv2
    have HR2 := Lib.hid hr2
    clear hown2 hr2
    go_wp2_with fail
    refine (HSUM.out _ w2 HR2.out (HR.out.below HO2.out.bel)).mono ?_
    rintro e w3 ⟨rfl, rfl⟩
    go_wp2_with fail
    refine (write_gives s w3 HS.out).mono ?_
    rintro e w4 ⟨rfl, hown4⟩
    have HO4 := Lib.hid hown4
    clear hown4
    have HREC : Hid (∃ S', Recs (w4.alloc (.cells #[.slice (some ⟨w1.heap.size, 0, none⟩) 4 4, .slice (some ⟨w3.heap.size, 0, none⟩) 4 4, .slice a n c] 61)) S' (some ⟨w4.heap.size, 0, none⟩) [w32 n, w32 s, l]) := Lib.hid ⟨_, recs_made
      ((RCells.one ((HO2.out.below HO4.out.bel).byt.mono (S' := fun _ => True) (fun _ _ => trivial))).app ((RCells.one (HO4.out.byt.mono (S' := fun _ => True) (fun _ _ => trivial))).app (RCells.one (((HB.out.below HO2.out.bel).below HO4.out.bel).mono (S' := fun _ => True) (fun _ _ => trivial)))))⟩
    go_wp2_with fail
    obtain ⟨S', hrec⟩ := HREC.out
    refine (concat_calls _ [w32 n, w32 s, l] 3 3 _ hrec rfl (by rw [tot_cons, tot_cons, tot_cons, tot_nil, w32_len, w32_len, hn]; omega) (by omega)).mono ?_
    rintro e w5 ⟨v5, rfl, hown5⟩
    have HO5 := Lib.hid hown5
    clear hown5 hrec
    go_wp2
    go_ret
    refine ⟨v5, rfl, ?_⟩
    have h5 := HO5.out.from (((below_then HO2.out.bel HO4.out.bel)).alloc (by have h6 := HO2.out.bel.size; have h7 := HO4.out.bel.size; omega) _)
    simpa using h5
  · have hmb : mayB (n : Int) = false := by
      unfold mayB
      rw [Bool.eq_false_iff]
      intro h
      simp at h
      exact hmay (by omega)
    have hp : putB l = [] := by
      unfold putB
      rw [hn, if_neg hmay]
    rw [hp]
    clear hr hp hn h0 h1 h2
    go_enter Tryz.func75, Tryz.ntmps75
    go_wp2_with fail
    refine (fmay_calls _ _).mono ?_
    rintro e w1 ⟨rfl, rfl⟩
    rw [hmb]
    go_wp2
    go_ret
    exact ⟨_, rfl, Own.nil _⟩

set_option maxRecDepth 100000 in
set_option maxHeartbeats 4000000 in
theorem frput_calls {S : Nat → Prop} (a : Option Addr) (l : List Nat) (n c : Nat) (w : World) (hr : Row w S a l) (hn : l.length = n) (hm : n ≤ 1073741824) (h0 : a = none → c = 0) :
    Calls Tryz.prog 108 #[.slice a n c] w (Gives (putB l) w) := by
  by_cases hlo : n < 1
  · have hd : decide ((n : Int) < 1) = true := by simp; omega
    have hp : putB l = [] := by
      unfold putB
      rw [hn, if_neg (by omega)]
    rw [hp]
    clear hr hp hn h0
    go_enter Tryz.func108, Tryz.ntmps108
    go_wp2
    go_ret
    exact ⟨_, rfl, Own.nil _⟩
  have hd : decide ((n : Int) < 1) = false := by simp; omega
  by_cases hhi : 1048576 < n
  · have hd2 : decide ((n : Int) > 1048576) = true := by simp; omega
    have hp : putB l = [] := by
      unfold putB
      rw [hn, if_neg (by omega)]
    rw [hp]
    clear hr hp hn h0
    go_enter Tryz.func108, Tryz.ntmps108
    go_wp2
    go_ret
    exact ⟨_, rfl, Own.nil _⟩
  have hd2 : decide ((n : Int) > 1048576) = false := by simp; omega
  have hp : putB l = w32 n ++ w32 (sumN (w32 n) l) ++ l := by
    unfold putB frm
    rw [hn, if_pos (by omega), List.append_assoc]
  rw [hp]
  have HS := Lib.hid (sumN_lt (w32 n) l)
  have HSUM := Lib.hid (fun b k W S' (h : Row W S' b (w32 n ++ l)) => ref_calls b (w32 n ++ l) (4 + n) k W h (by rw [List.length_append, w32_len, hn]) (by omega))
  have hsu : uv (sumB (w32 n ++ l)) = ((sumN (w32 n) l : Nat) : Int) := by rw [← on_sum]; rfl
  rw [hsu] at HSUM
  obtain ⟨s, hs⟩ : ∃ s, sumN (w32 n) l = s := ⟨_, rfl⟩
  rw [hs] at HS HSUM ⊢
  have HR := Lib.hid hr
  have H0 := Lib.hid h0
  have HN := Lib.hid hn
  have hn32 : (n : Int) < 4294967296 := by omega
  clear hr hp hs hsu h0 hn
  go_enter Tryz.func108, Tryz.ntmps108
  go_wp2_with fail
  refine (put32_gives n w (by omega)).mono ?_
  rintro e w2 ⟨rfl, hown2⟩
  have HO2 := Lib.hid hown2
  obtain ⟨a2, c2, hv2, hr2, hnil2, -⟩ := hown2.form
  simp only [Value.slice.injEq] at hv2
  obtain ⟨rfl, -, rfl⟩ := hv2
  obtain ⟨v3, w3, hrun3, hown3, -⟩ := (Own.empty w2).append (hr2.keep ((Keeps.refl Non w2).alloc (.cells #[] 5)) (fun _ _ h => h)) rfl hnil2 (by rw [w32_len]; simp)
  have HRUN3 := Lib.hid hrun3
  have HO3 := Lib.hid hown3
  have HB3 := Lib.hid (below_then HO2.out.bel hown3.bel)
  obtain ⟨v4, w4, hrun4, hown4, -⟩ := hown3.append (HR.out.below HB3.out) HN.out H0.out (by rw [List.nil_append, w32_len]; omega)
  rw [List.nil_append] at hown4
  have HRUN4 := Lib.hid hrun4
  have HB4 := Lib.hid (below_then HO2.out.bel hown4.bel)
  have HO24 := Lib.hid (HO2.out.below hown4.bel)
  obtain ⟨a3, c3, rfl, -⟩ := hown3.form
  obtain ⟨a4, c4, rfl, hr4, -⟩ := hown4.form
  have HR4 := Lib.hid hr4
  have hlen4 : (w32 n ++ l).length = 4 + n := by rw [List.length_append, w32_len, HN.out]
  rw [hlen4] at HRUN4 HR4
  rw [List.nil_append] at HRUN3 HRUN4
  rw [w32_len] at HRUN3 HRUN4
  clear hown2 hr2 hnil2 hrun3 hown3 hrun4 hown4 hr4 HO3 hlen4
  go_wp2_with (at_builtin; first | refine wpList_step (fun K hK => step_app HRUN3.out (.tmp 17) (.tmp 18) rfl rfl rfl rfl (hK _ _ ?_)) | refine wpList_step (fun K hK => step_app HRUN4.out (.tmp 19) (.tmp 20) rfl rfl rfl rfl (hK _ _ ?_)))
  refine (HSUM.out a4 c4 w4 _ HR4.out).mono ?_
  rintro e w5 ⟨rfl, rfl⟩
  go_wp2_with fail
  refine (put32_gives s w5 HS.out).mono ?_
  rintro e w6 ⟨rfl, hown6⟩
  have HB6 := Lib.hid (below_then HB4.out hown6.bel)
  have HO26 := Lib.hid (HO24.out.below hown6.bel)
  obtain ⟨a6, c6, hv6, hr6, hnil6, -⟩ := hown6.form
  simp only [Value.slice.injEq] at hv6
  obtain ⟨rfl, -, rfl⟩ := hv6
  obtain ⟨v7, w7, hrun7, hown7, -⟩ := HO26.out.append hr6 rfl hnil6 (by rw [w32_len, w32_len]; omega)
  obtain ⟨v8, w8, hrun8, hown8, -⟩ := hown7.append (HR.out.below hown7.bel) HN.out H0.out (by rw [List.length_append, w32_len, w32_len]; omega)
  have HRUN7 := Lib.hid hrun7
  have HRUN8 := Lib.hid hrun8
  have HO8 := Lib.hid hown8
  obtain ⟨a7, c7, rfl, -⟩ := hown7.form
  obtain ⟨a8, c8, rfl, -⟩ := hown8.form
  rw [List.length_append, w32_len, w32_len] at HRUN7 HRUN8
  rw [List.length_append, List.length_append, w32_len, w32_len, HN.out] at HRUN8 HO8
  clear hown6 hr6 hnil6 hrun7 hown7 hrun8 hown8 HO2 HB3 HB4 HO24 HO26
  go_wp2_with (at_builtin; first | refine wpList_step (fun K hK => step_app HRUN7.out (.tmp 24) (.tmp 25) rfl rfl rfl rfl (hK _ _ ?_)) | refine wpList_step (fun K hK => step_app HRUN8.out (.tmp 26) (.tmp 27) rfl rfl rfl rfl (hK _ _ ?_)))
  go_wp2
  go_ret
  exact ⟨_, rfl, HO8.out⟩

end Go.Proofs.YtacfcfbleogioaaGreatDoor

namespace Go.Proofs.YtacfcfbleogioaaGreatDoor
open Go.RowKit Go.Lib

theorem below_draws (w : World) (k : Nat) : Below w.heap.size w (w.drewN k) := ⟨rfl, rfl, rfl, Nat.le_refl _, fun _ _ => rfl⟩

/-- The record told; how many bytes its frame has. -/
def nxtR (l : List Nat) : List Nat := if standsB l = 1 then recB l else []
def nxtN (l : List Nat) : Nat := if standsB l = 1 then 8 + get32 l else 0
def NextOut (l : List Nat) (w : World) (e : Ending) (w' : World) : Prop :=
  ∃ v, e = .returned (.tuple #[v, .int .i64 ((nxtN l : Nat) : Int), .int .i64 ((standsB l : Nat) : Int)]) ∧ Own w w' v (nxtR l)

/-- The reference's test of the sum. -/
theorem put_same {l : List Nat} (hb : Byts l) (h1 : 1 ≤ get32 l) (h2 : get32 l ≤ 1048576) (h3 : 8 + get32 l ≤ l.length) : putB (recB l) = l.take (8 + get32 l) ↔ standsB l = 1 := by
  have hlen : (recB l).length = get32 l := by unfold recB; rw [List.length_take, List.length_drop]; omega
  have hp : putB (recB l) = frm (recB l) := by unfold putB; rw [hlen, if_pos ⟨h1, h2⟩]
  rw [hp]
  constructor
  · intro he
    have e1 : l.take 4 = w32 (get32 l) := (w32_get hb (by omega)).symm
    have e2 : get32 (l.drop 4) = sumN (w32 (get32 l)) (recB l) := by
      have h5 : get32 ((l.take (8 + get32 l)).drop 4) = get32 (l.drop 4) := by
        rw [List.drop_take, get32_take (by omega)]
      rw [← h5, ← he]
      unfold frm
      rw [hlen]
      show get32 (w32 _ ++ recB l) = _
      exact get_w32 (sumN_lt _ _) _
    unfold standsB
    rw [if_neg (by omega), if_neg (by omega), if_neg (by omega), if_neg (by omega), if_neg (by rw [e1]; exact fun h => h e2)]
  · exact whole_frm hb

set_option maxRecDepth 100000 in
set_option maxHeartbeats 4000000 in
theorem next_calls {S : Nat → Prop} (a : Option Addr) (l : List Nat) (n c : Nat) (w : World) (hr : Row w S a l) (hn : l.length = n) (hm : n ≤ 1073741824) (hc : n ≤ c) (hc2 : c ≤ maxLen) :
    Calls Tryz.prog 76 #[.slice a n c] w (NextOut l w) := by
  by_cases hs : standsB l = 1
  · obtain ⟨g1, g2, g3, _, g5⟩ := fwhole hs
    obtain ⟨b, o, rfl⟩ := row_form hr (by omega)
    have HSTAND := Lib.hid (stands_calls _ l n c w hr hn hm hc hc2)
    have HREACH := Lib.hid (fun W (h : Row W S (some ⟨b, o, none⟩) l) => reach_calls (some ⟨b, o, none⟩) l n c W h hn (by omega))
    have HCLONE := Lib.hid (fun W (h : Row W S (some ⟨b, o + 8, none⟩) (recB l)) => fclone_calls ⟨b, o + 8, none⟩ (recB l) (get32 l) (c - 8) W h g5 (by omega))
    have HOUT : Hid (∀ k v w', Own (w.drewN k) w' v (recB l) → NextOut l w (.returned (.tuple #[v, .int .i64 (8 + (get32 l : Nat)), .int .i64 1])) w') := Lib.hid (fun k v w' h => by
      refine ⟨v, ?_, ?_⟩
      · unfold nxtN
        rw [if_pos hs, hs]
        rfl
      · unfold nxtR
        rw [if_pos hs]
        exact h.from (below_draws w k))
    rw [hs] at HSTAND
    have HR := Lib.hid hr
    have HRR : Hid (Row w S (some ⟨b, o + 8, none⟩) (recB l)) := Lib.hid ((hr.drop 8).take _)
    have gg : (get32 l : Int) ≤ 1048576 := by omega
    have gn : 8 + (get32 l : Int) ≤ (n : Int) := by omega
    obtain ⟨g, hg⟩ : ∃ g, get32 l = g := ⟨_, rfl⟩
    rw [hg] at HREACH HCLONE HOUT g1 g2 g3 gg gn
    clear hr hs hn g5 hg
    go_enter Tryz.func76, Tryz.ntmps76
    go_wp2_with fail
    refine HSTAND.out.mono ?_
    rintro e w1 ⟨rfl, k1, rfl⟩
    go_wp2_with fail
    refine (HREACH.out _ (HR.out.draws k1)).mono ?_
    rintro e w1 ⟨rfl, k2, rfl⟩
    go_wp2_with fail
    refine (HCLONE.out _ (HRR.out.draws _)).mono ?_
    rintro e w1 ⟨v, rfl, hown⟩
    have HO := Lib.hid hown
    clear hown
    go_wp2
    go_ret3
    exact HOUT.out _ _ _ HO.out
  · have HSTAND := Lib.hid (stands_calls _ l n c w hr hn hm hc hc2)
    have HOUT : Hid (∀ k, NextOut l w (.returned (.tuple #[.slice none 0 0, .int .i64 0, .int .i64 ((standsB l : Nat) : Int)])) (w.drewN k)) := Lib.hid (fun k => by
      refine ⟨.slice none 0 0, ?_, ?_⟩
      · unfold nxtN
        rw [if_neg hs]
        rfl
      · unfold nxtR
        rw [if_neg hs]
        exact (Own.nil _).from (below_draws w k))
    have hne : (((standsB l : Nat) : Int) != 1) = true := by simp; omega
    obtain ⟨s, hs2⟩ : ∃ s : Int, ((standsB l : Nat) : Int) = s := ⟨_, rfl⟩
    rw [hs2] at HSTAND HOUT hne
    clear hr hs hs2 hn
    go_enter Tryz.func76, Tryz.ntmps76
    go_wp2_with fail
    refine HSTAND.out.mono ?_
    rintro e w1 ⟨rfl, k1, rfl⟩
    go_wp2
    go_ret3
    exact HOUT.out _

set_option maxRecDepth 100000 in
set_option maxHeartbeats 4000000 in
theorem rnext_calls {S : Nat → Prop} (a : Option Addr) (l : List Nat) (n c : Nat) (w : World) (hr : Row w S a l) (hn : l.length = n) (hm : n ≤ 1073741824) (hc : n ≤ c) (_hc2 : c ≤ maxLen) :
    Calls Tryz.prog 90 #[.slice a n c] w (NextOut l w) := by
  have HELSE : Hid (∀ s : Nat, standsB l = s → s ≠ 1 → ∀ W, Below w.heap.size w W → NextOut l w (.returned (.tuple #[.slice none 0 0, .int .i64 0, .int .i64 (s : Int)])) W) := Lib.hid (fun s hs hs1 W hW => by
    have hn1 : standsB l ≠ 1 := by rw [hs]; exact hs1
    refine ⟨.slice none 0 0, ?_, ?_⟩
    · unfold nxtN
      rw [if_neg hn1, hs]
      rfl
    · unfold nxtR
      rw [if_neg hn1]
      exact (Own.nil _).from hW)
  by_cases h0 : n = 0
  · have hs : standsB l = 2 := by unfold standsB; rw [hn, if_pos h0]
    have H := Lib.hid (HELSE.out 2 hs (by decide) _ (Below.refl _ _))
    subst h0
    clear hr hn hm hc _hc2 HELSE hs
    go_enter Tryz.func90, Tryz.ntmps90
    go_wp2
    go_ret3
    exact H.out
  have hne : ((n : Int) == 0) = false := by simp; omega
  by_cases h4 : n < 4
  · have hs : standsB l = 3 := by unfold standsB; rw [hn, if_neg h0, if_pos h4]
    have H := Lib.hid (HELSE.out 3 hs (by decide) _ (Below.refl _ _))
    have hd : decide ((n : Int) ≥ 4) = false := by simp; omega
    have hd2 : decide ((n : Int) < 4) = true := by simp; omega
    clear hr hn hm hc _hc2 HELSE hs
    go_enter Tryz.func90, Tryz.ntmps90
    go_wp2
    go_ret3
    exact H.out
  have hd : decide ((n : Int) ≥ 4) = true := by simp; omega
  have hd2 : decide ((n : Int) < 4) = false := by simp; omega
  obtain ⟨b, o, rfl⟩ := row_form hr (by omega)
  have HGET := Lib.hid (fun W (h : Row W S (some ⟨b, o, none⟩) l) => get32_calls (some ⟨b, o, none⟩) l n c W h hn (by omega))
  have HR := Lib.hid hr
  have hlt := get32_lt hr.1
  by_cases hlo : get32 l < 1
  · have hs : standsB l = 4 := by unfold standsB; rw [hn, if_neg h0, if_neg h4, if_pos (by omega)]
    have H := Lib.hid (fun k => HELSE.out 4 hs (by decide) _ (below_draws w k))
    have hd3 : decide (((get32 l : Nat) : Int) < 1) = true := by simp; omega
    have g0 : (0 : Int) ≤ ((get32 l : Nat) : Int) := by omega
    obtain ⟨g, hg⟩ : ∃ g : Int, ((get32 l : Nat) : Int) = g := ⟨_, rfl⟩
    rw [hg] at HGET hd3 g0
    clear hr hn hm hc _hc2 HELSE hs hlo hlt hg
    go_enter Tryz.func90, Tryz.ntmps90
    go_wp2_with fail
    refine (HGET.out _ HR.out).mono ?_
    rintro e w1 ⟨rfl, k1, rfl⟩
    go_wp2
    go_ret3
    exact H.out _
  have hd3 : decide (((get32 l : Nat) : Int) < 1) = false := by simp; omega
  by_cases hhi : 1048576 < get32 l
  · have hs : standsB l = 4 := by unfold standsB; rw [hn, if_neg h0, if_neg h4, if_pos (by omega)]
    have H := Lib.hid (fun k => HELSE.out 4 hs (by decide) _ (below_draws w k))
    have hd4 : decide (((get32 l : Nat) : Int) > 1048576) = true := by simp; omega
    have g0 : (0 : Int) ≤ ((get32 l : Nat) : Int) := by omega
    obtain ⟨g, hg⟩ : ∃ g : Int, ((get32 l : Nat) : Int) = g := ⟨_, rfl⟩
    rw [hg] at HGET hd3 hd4 g0
    clear hr hn hm hc _hc2 HELSE hs hlo hlt hg hhi
    go_enter Tryz.func90, Tryz.ntmps90
    go_wp2_with fail
    refine (HGET.out _ HR.out).mono ?_
    rintro e w1 ⟨rfl, k1, rfl⟩
    go_wp2_with fail
    refine (HGET.out _ (HR.out.draws _)).mono ?_
    rintro e w1 ⟨rfl, k2, rfl⟩
    go_wp2
    go_ret3
    exact H.out _
  have hd4 : decide (((get32 l : Nat) : Int) > 1048576) = false := by simp; omega
  by_cases hsh : n < 8 + get32 l
  · have hs : standsB l = 3 := by unfold standsB; rw [hn, if_neg h0, if_neg h4, if_neg (by omega), if_pos hsh]
    have H := Lib.hid (fun k => HELSE.out 3 hs (by decide) _ (below_draws w k))
    have hd5 : decide ((n : Int) < 8 + ((get32 l : Nat) : Int)) = true := by simp; omega
    have g0 : (0 : Int) ≤ ((get32 l : Nat) : Int) := by omega
    have g1 : ((get32 l : Nat) : Int) ≤ 1048576 := by omega
    obtain ⟨g, hg⟩ : ∃ g : Int, ((get32 l : Nat) : Int) = g := ⟨_, rfl⟩
    rw [hg] at HGET hd3 hd4 hd5 g0 g1
    clear hr hn hm hc _hc2 HELSE hs hlo hlt hg hhi hsh
    go_enter Tryz.func90, Tryz.ntmps90
    go_wp2_with fail
    refine (HGET.out _ HR.out).mono ?_
    rintro e w1 ⟨rfl, k1, rfl⟩
    go_wp2_with fail
    refine (HGET.out _ (HR.out.draws _)).mono ?_
    rintro e w1 ⟨rfl, k2, rfl⟩
    go_wp2_with fail
    refine (HGET.out _ (HR.out.draws _)).mono ?_
    rintro e w1 ⟨rfl, k3, rfl⟩
    go_wp2
    go_ret3
    exact H.out _
  have hd5 : decide ((n : Int) < 8 + ((get32 l : Nat) : Int)) = false := by simp; omega
  have hlen : (recB l).length = get32 l := by unfold recB; rw [List.length_take, List.length_drop]; omega
  have hps := put_same hr.1 (by omega) (by omega) (by omega)
  have HPUT := Lib.hid (fun W (h : Row W S (some ⟨b, o + 8, none⟩) (recB l)) => frput_calls (some ⟨b, o + 8, none⟩) (recB l) (get32 l) (c - 8) W h hlen (by omega) (fun e => by cases e))
  have HBY := Lib.hid (fun a2 n2 c2 (W : World) (S2 : Nat → Prop) (h : Row W S2 a2 (putB (recB l))) (hn2 : (putB (recB l)).length = n2) (h' : Row W S (some ⟨b, o, none⟩) (l.take (8 + get32 l))) => bytes_calls a2 (some ⟨b, o, none⟩) (putB (recB l)) (l.take (8 + get32 l)) c2 c n2 (8 + get32 l) W h h' hn2 (by rw [List.length_take]; omega) (by
    have := putB_len (recB l)
    omega) (by omega))
  have HRR : Hid (Row w S (some ⟨b, o + 8, none⟩) (recB l)) := Lib.hid ((hr.drop 8).take _)
  have HRT : Hid (Row w S (some ⟨b, o, none⟩) (l.take (8 + get32 l))) := Lib.hid (hr.take _)
  have HREC := Lib.hid hlen
  by_cases hs : standsB l = 1
  · have hby : decide (putB (recB l) = l.take (8 + get32 l)) = true := decide_eq_true (hps.2 hs)
    have HOUT : Hid (∀ w1 v w', Below w.heap.size w w1 → Own w1 w' v (recB l) → NextOut l w (.returned (.tuple #[v, .int .i64 (8 + (get32 l : Nat)), .int .i64 1])) w') := Lib.hid (fun w1 v w' hb h => by
      refine ⟨v, ?_, ?_⟩
      · unfold nxtN
        rw [if_pos hs, hs]
        rfl
      · unfold nxtR
        rw [if_pos hs]
        exact h.from hb)
    rw [hby] at HBY
    have gg : (get32 l : Int) ≤ 1048576 := by omega
    have gn : 8 + (get32 l : Int) ≤ (n : Int) := by omega
    have HGL := Lib.hid hlen
    obtain ⟨g, hg⟩ : ∃ g, get32 l = g := ⟨_, rfl⟩
    rw [hg] at HGET HPUT HBY HOUT hd3 hd4 hd5 gg gn hlo hhi hsh HRT HGL
    clear hr hn HELSE hs hlt hg hlen hps hby HREC
    go_enter Tryz.func90, Tryz.ntmps90
    go_wp2_with fail
    refine (HGET.out _ HR.out).mono ?_
    rintro e w1 ⟨rfl, k1, rfl⟩
    go_wp2_with fail
    refine (HGET.out _ (HR.out.draws _)).mono ?_
    rintro e w1 ⟨rfl, k2, rfl⟩
    go_wp2_with fail
    refine (HGET.out _ (HR.out.draws _)).mono ?_
    rintro e w1 ⟨rfl, k3, rfl⟩
    go_wp2_with fail
    refine (HGET.out _ (HR.out.draws _)).mono ?_
    rintro e w1 ⟨rfl, k4, rfl⟩
    go_wp2_with fail
    refine (HPUT.out _ (HRR.out.draws _)).mono ?_
    rintro e w5 ⟨v5, rfl, hown5⟩
    have HB5 := Lib.hid (below_then (below_draws w _) hown5.bel)
    obtain ⟨a5, c5, rfl, hr5, _⟩ := hown5.form
    have HR5 := Lib.hid hr5
    clear hown5 hr5
    go_wp2_with fail
    refine (HBY.out a5 _ c5 _ _ HR5.out rfl (HRT.out.below HB5.out)).mono ?_
    rintro e w6 ⟨rfl, k6, rfl⟩
    obtain ⟨v7, w7, hrun7, hown7, -⟩ := (Own.empty (w5.drewN k6)).append (m := 8 + g - 8) (c := c - 8) ((HRR.out.below (below_then HB5.out (below_draws w5 k6))).keep ((Keeps.refl Non _).alloc (.cells #[] 5)) (fun _ _ h => h)) (by have := HGL.out; omega) (fun e => by cases e) (by simp; omega)
    rw [List.nil_append] at hown7
    have H7 := Lib.hid (HOUT.out _ _ _ (below_then HB5.out (below_draws w5 k6)) hown7)
    have HRUN7 := Lib.hid hrun7
    clear hrun7 hown7
    go_wp2_with (at_builtin; refine wpList_step (fun K hK => step_app HRUN7.out (.tmp 50) (.tmp 54) rfl rfl rfl rfl (hK _ _ ?_)))
    go_wp2
    go_ret3
    exact H7.out
  · have hby : decide (putB (recB l) = l.take (8 + get32 l)) = false := decide_eq_false (fun h => hs (hps.1 h))
    have hs4 : standsB l = 4 := by
      rcases stands_any l with h | h | h | h
      · exact absurd h hs
      · exfalso
        unfold standsB at h
        rw [hn, if_neg h0, if_neg h4, if_neg (by omega), if_neg hsh] at h
        split at h <;> cases h
      · exfalso
        unfold standsB at h
        rw [hn, if_neg h0, if_neg h4, if_neg (by omega), if_neg hsh] at h
        split at h <;> cases h
      · exact h
    have H := Lib.hid (fun W hW => HELSE.out 4 hs4 (by decide) W hW)
    rw [hby] at HBY
    have gg : (get32 l : Int) ≤ 1048576 := by omega
    have gn : 8 + (get32 l : Int) ≤ (n : Int) := by omega
    obtain ⟨g, hg⟩ : ∃ g, get32 l = g := ⟨_, rfl⟩
    rw [hg] at HGET HPUT HBY hd3 hd4 hd5 gg gn hlo hhi hsh HRT
    clear hr hn HELSE hs hlt hg hlen hps hby HREC hs4
    go_enter Tryz.func90, Tryz.ntmps90
    go_wp2_with fail
    refine (HGET.out _ HR.out).mono ?_
    rintro e w1 ⟨rfl, k1, rfl⟩
    go_wp2_with fail
    refine (HGET.out _ (HR.out.draws _)).mono ?_
    rintro e w1 ⟨rfl, k2, rfl⟩
    go_wp2_with fail
    refine (HGET.out _ (HR.out.draws _)).mono ?_
    rintro e w1 ⟨rfl, k3, rfl⟩
    go_wp2_with fail
    refine (HGET.out _ (HR.out.draws _)).mono ?_
    rintro e w1 ⟨rfl, k4, rfl⟩
    go_wp2_with fail
    refine (HPUT.out _ (HRR.out.draws _)).mono ?_
    rintro e w5 ⟨v5, rfl, hown5⟩
    have HB5 := Lib.hid (below_then (below_draws w _) hown5.bel)
    obtain ⟨a5, c5, rfl, hr5, _⟩ := hown5.form
    have HR5 := Lib.hid hr5
    clear hown5 hr5
    go_wp2_with fail
    refine (HBY.out a5 _ c5 _ _ HR5.out rfl (HRT.out.below HB5.out)).mono ?_
    rintro e w6 ⟨rfl, k6, rfl⟩
    have H6 := Lib.hid (H.out _ (below_then HB5.out (below_draws w5 k6)))
    go_wp2
    go_ret3
    exact H6.out

end Go.Proofs.YtacfcfbleogioaaGreatDoor
