/-
  The reference's Less. Condition: names are small.
  The reference's Read. Conditions: the disk lies in memory; it has few bytes.
  The reference's Arm. Conditions: the disk lies in memory; the troubles lie beside it and are few.
  The reference's drop. Conditions: the disk lies in memory; it has few files.
-/
import Derived.Test.YtfiacojgddpphaaRBase
namespace Go.Proofs.Ytfiacojgddpphaa
open Go.RowKit Go.Lib Go.Joins

def ltF (a b : ByteArray) (i : Nat) : Bool := decide (a.data.toList.drop i < b.data.toList.drop i)
theorem ltF_step {a b : ByteArray} {i : Nat} (ha : i < a.size) (hb : i < b.size) : ltF a b i = if a[i] = b[i] then ltF a b (i + 1) else decide (a[i].toNat < b[i].toNat) := by
  unfold ltF
  rw [drop_at ha, drop_at hb]
  split
  · next h =>
    rw [Bool.eq_iff_iff, h]
    simp
  · next h =>
    rw [Bool.eq_iff_iff]
    simp [List.cons_lt_cons_iff, h, UInt8.lt_iff_toNat_lt]
theorem ltF_end {a b : ByteArray} {i : Nat} (ha : i ≤ a.size) (hb : i ≤ b.size) (h : i = a.size ∨ i = b.size) : ltF a b i = decide (a.size < b.size) := by
  unfold ltF
  by_cases h1 : i = a.size
  · rw [List.drop_eq_nil_of_le (by rw [Array.length_toList]; exact Nat.le_of_eq h1.symm)]
    by_cases h2 : i < b.size
    · rw [drop_at h2, Bool.eq_iff_iff]
      simp
      omega
    · rw [List.drop_eq_nil_of_le (by rw [Array.length_toList]; exact Nat.le_of_not_lt h2), Bool.eq_iff_iff]
      simp
      omega
  · have h2 : i = b.size := by rcases h with h | h; exact absurd h h1; exact h
    have hbn : b.data.toList.drop i = [] := List.drop_eq_nil_of_le (by rw [Array.length_toList]; exact Nat.le_of_eq h2.symm)
    rw [hbn, Bool.eq_iff_iff]
    simp
    omega

set_option maxRecDepth 100000 in
set_option maxHeartbeats 4000000 in
theorem rless_calls (a b : ByteArray) (w : World) (ha : a.size ≤ 1099511627776) (_hb : b.size ≤ 1099511627776) : Calls Try.prog 56 #[.string a, .string b] w (Tells (.bool (nlt a b)) w) := by
  obtain ⟨q, hq⟩ : ∃ q, nlt a b = q := ⟨_, rfl⟩
  rw [hq]
  have HQ : Hid (ltF a b 0 = q) := Lib.hid hq
  clear hq
  go_enter Try.func56, Try.ntmps56
  go_wp2
  go_loopg [5] a.size (fun g idx wr => ∃ (i k : Nat), idx = .int .i64 (i : Int) ∧ g + i = a.size ∧ i ≤ b.size ∧ ltF a b i = q ∧ wr = w.drewN k)
  case atStart => exact ⟨0, 0, rfl, rfl, Nat.zero_le _, HQ.out, rfl⟩
  case round =>
    obtain ⟨i, k, rfl, hg, hib, hq, rfl⟩ := hrel
    have HG := Lib.hid hg
    have HE := Lib.hid hq
    have HIB := Lib.hid hib
    clear hg hq HQ hib
    by_cases hla : i < a.size
    · have hda : decide ((i : Int) < (a.size : Int)) = true := by simp; omega
      by_cases hlb : i < b.size
      · have hdb : decide ((i : Int) < (b.size : Int)) = true := by simp; omega
        obtain ⟨g', rfl⟩ : ∃ g', gk = g' + 1 := ⟨gk - 1, by have := HG.out; omega⟩
        have hst := ltF_step hla hlb
        rw [HE.out] at hst
        obtain ⟨x, hx⟩ : ∃ x, a[i] = x := ⟨_, rfl⟩
        obtain ⟨y, hy⟩ : ∃ y, b[i] = y := ⟨_, rfl⟩
        rw [hx, hy] at hst
        by_cases hxy : x = y
        · have H : Hid (ltF a b (i + 1) = q) := Lib.hid (by rw [if_pos hxy] at hst; exact hst.symm)
          subst hxy
          clear hst
          go_wp2
          go_quiet (fail)
          go_wp2
          go_roundg g'
          case measure => omega
          case rel => exact ⟨i + 1, _, by go_num, by have := HG.out; omega, by omega, H.out, rfl⟩
        · have hne : ((x.toNat : Int) != (y.toNat : Int)) = true := by
            have : x.toNat ≠ y.toNat := fun e => hxy (UInt8.toNat_inj.1 e)
            simp; omega
          have hne2 : ((x.toNat : Int) == (y.toNat : Int)) = false := by
            have : x.toNat ≠ y.toNat := fun e => hxy (UInt8.toNat_inj.1 e)
            simp; omega
          have H : Hid (q = decide (x.toNat < y.toNat)) := Lib.hid (by rw [if_neg hxy] at hst; exact hst)
          clear hst
          go_wp2
          go_quiet (fail)
          go_wp2
          go_quiet (fail)
          go_wp2
          go_ret
          exact ⟨by rw [H.out]; rfl, _, by rw [World.drewN_drewN, World.drewN_drewN]⟩
      · have hdb : decide ((i : Int) < (b.size : Int)) = false := by simp; omega
        have hend := ltF_end (i := i) (a := a) (b := b) (by omega) HIB.out (.inr (by have := HIB.out; omega))
        have H : Hid (q = decide (a.size < b.size)) := Lib.hid (by rw [← hend]; exact HE.out.symm)
        clear hend
        go_wp2
        go_ret
        exact ⟨by rw [H.out]; rfl, k, rfl⟩
    · have hda : decide ((i : Int) < (a.size : Int)) = false := by simp; omega
      have hend := ltF_end (i := i) (a := a) (b := b) (by have := HG.out; omega) HIB.out (.inl (by have := HG.out; omega))
      have H : Hid (q = decide (a.size < b.size)) := Lib.hid (by rw [← hend]; exact HE.out.symm)
      clear hend
      go_wp2
      go_ret
      exact ⟨by rw [H.out]; rfl, k, rfl⟩

end Go.Proofs.Ytfiacojgddpphaa
namespace Go.Proofs.Ytfiacojgddpphaa
open Go.RowKit Go.Lib Go.Joins

/-- A copy of bytes: append to an empty row. -/
theorem copy_row {W : World} {S : Nat → Prop} {a : Option Addr} {l : List Nat} {c : Nat} (hr : Row W S a l) (hc : a = none → c = 0) (hl : l.length ≤ 1073741824) {N : Nat} (hN : W.heap.size = N) :
    ∃ v' w', (∀ ty, (Builtin.append_ #[35, 35] ty #[.slice (some ⟨N, 0, none⟩) 0 0, .slice a l.length c]).run Try.prog (W.alloc (.cells #[] 5)) = .ok v' w') ∧ w'.ownsRow 0 5 1 v' l.length (cellsN l) ∧ (∀ k, v'.ownBlock = some k → W.heap.size ≤ k) ∧ Below W.heap.size W w' := by
  subst hN
  have hb : Below W.heap.size W (W.alloc (.cells #[] 5)) := (Below.refl _ W).alloc (Nat.le_refl _) _
  have hown : (W.alloc (.cells #[] 5)).ownsRow 0 5 1 (.slice (some ⟨W.heap.size, 0, none⟩) 0 0) 0 [] := World.ownsRow_lit W #[] 0 (Nat.zero_le _) (Nat.zero_le _) rfl
  obtain ⟨v', w', h1, h2, h3, h4⟩ := append_run hown rfl (hr.below hb) hc (by omega)
  refine ⟨v', w', h1, by rw [Nat.zero_add, List.nil_append] at h2; exact h2, fun k e => ?_, ?_⟩
  · rcases h4 k e with h5 | h5
    · have : W.heap.size = k := Option.some.inj h5
      omega
    · simp at h5; omega
  · have hk : Keeps Non W w' := ((Keeps.refl Non W).alloc _).grown h3 (fun k e => .inr (by have : W.heap.size = k := Option.some.inj e; omega))
    exact hk.toBelow (Nat.le_refl _) (fun _ h => h.elim)

set_option maxRecDepth 100000 in
set_option maxHeartbeats 4000000 in
theorem rread_calls (s : ByteArray) (w : World) {S : Nat → Prop} {B : Nat} {d : Dsk} (hd : RefD w S B d) (hu : used d.L ≤ 1073741824) : Calls Try.prog 22 #[.pointer (some ⟨B, 0, none⟩), .string s] w (ReadAny (fnd s d.L) w) := by
  have HAT := Lib.hid (rat_calls s w hd)
  obtain ⟨hi, _, lv, ta, tn, tc, Sd, St, h⟩ := hd
  obtain ⟨la, lc, rfl, hf, _, _, _⟩ := h.fils
  have hmost := hi.most
  cases hfn : fnd s d.L with
  | none =>
    rw [ixF_none hfn] at HAT
    clear h hi hf hmost
    go_enter Try.func22, Try.ntmps22
    go_wp2_with fail
    with_reducible refine HAT.out.mono ?_
    rintro e w1 ⟨rfl, rfl⟩
    go_wp2
    go_ret2
    exact ⟨none, 0, Non, rfl, ⟨(fun c hc => by cases hc), Or.inl rfl⟩, fun k hk => hk.elim, Below.refl _ _⟩
  | some f =>
    obtain ⟨j, hj, hfj⟩ := ixF_some (i := 0) hfn
    rw [hj, Nat.zero_add] at HAT
    have hjl : j < d.L.length := (List.getElem?_eq_some_iff.1 hfj).1
    have hfi : (d.L.map toI)[j]? = some (toI f) := by rw [List.getElem?_map, hfj]; rfl
    obtain ⟨b, o, da, dc, rfl, _, _, r1, _, hrow, hn0, _, _⟩ := fils_at hf hfi
    have hlen : f.data.length ≤ 1073741824 := Nat.le_trans (used_mem (fnd_some hfn).1) hu
    have hrow' : Row w S da f.data := hrow
    obtain ⟨W1, hW1⟩ : ∃ W1, w.alloc (.cells #[] 5) = W1 := ⟨_, rfl⟩
    have hbW : Below w.heap.size w W1 := by rw [← hW1]; exact (Below.refl _ w).alloc (Nat.le_refl _) _
    obtain ⟨v', w', hrun, hown, hnew, hbel⟩ := copy_row hrow' hn0 hlen (N := w.heap.size) rfl
    rw [hW1] at hrun
    have b1 : w.cell? ⟨B, 1, none⟩ = some (.slice (some ⟨b, o, none⟩) d.L.length lc) := (cell_of_block h.blk 1).trans rfl
    have b2 : W1.cell? ⟨B, 1, none⟩ = some (.slice (some ⟨b, o, none⟩) d.L.length lc) := (cell_of_block (block_below hbW h.blk) 1).trans rfl
    have r1' : w.cell? ⟨b, o + j * 3 + 1, none⟩ = some (.slice da f.data.length dc) := r1
    have r2 : W1.cell? ⟨b, o + j * 3 + 1, none⟩ = some (.slice da f.data.length dc) := (World.cell?_of_block (a := ⟨b, o + j * 3 + 1, none⟩) (hbW.block b (lt_of_cell r1'))).trans r1'
    obtain ⟨a2, c2, hv2, hrow2, _⟩ := (row_of_own (hi.byte f (fnd_some hfn).1) rfl hown).is
    have hlt2 : ∀ k, v'.ownBlock = some k → w.heap.size ≤ k ∧ k < w'.heap.size := fun k e => ⟨hnew k e, (hown.lt k e).2⟩
    have HOUT : Hid (ReadAny (some f) w (.returned (.tuple #[v', .int .i64 0])) w') := Lib.hid ⟨a2, c2, _, by rw [hv2]; rfl, hrow2, hlt2, hbel⟩
    subst hv2
    have HRUN := Lib.hid hrun
    obtain ⟨n, hn⟩ : ∃ n, d.L.length = n := ⟨_, rfl⟩
    obtain ⟨fl, hfl⟩ : ∃ fl, f.data.length = fl := ⟨_, rfl⟩
    rw [hn] at b1 b2 hmost hjl
    rw [hfl] at r1' r2 HRUN HOUT
    clear h hi hf hfn hfj hfi hrow hrow' hown hnew hbel hrow2 hlt2 hrun hbW hlen r1 hj
    go_enter Try.func22, Try.ntmps22
    go_wp2_with fail
    with_reducible refine HAT.out.mono ?_
    rintro e w1 ⟨rfl, rfl⟩
    go_wp2_with (at_builtin; refine wpList_step (fun K hK => step_append rfl _ _ 35 rfl _ _ _ rfl rfl HRUN.out (hK _ _ ?_)))
    go_ret2
    exact HOUT.out

end Go.Proofs.Ytfiacojgddpphaa
namespace Go.Proofs.Ytfiacojgddpphaa
open Go.RowKit Go.Lib Go.Joins

/-- The reference's disk's block. -/
abbrev RFive (w : World) (B : Nat) (room : Int) (lv tv : Value) (ops : Int) (down : Bool) : Prop := w.heap[B]? = some (.cells #[.int .i64 room, lv, tv, .int .i64 ops, .bool down] 44 (0, 0))

/-- Troubles as cells. -/
def cellsT (l : List Tro) : List Value := l.flatMap (fun t => [.int .i64 t.at_, .int .i64 t.kind, .int .i64 t.part])
theorem cellsT_len (l : List Tro) : (cellsT l).length = l.length * 3 := by
  induction l with
  | nil => rfl
  | cons t l ih =>
    unfold cellsT at ih ⊢
    rw [List.flatMap_cons, List.length_append, ih, List.length_cons]
    simp only [List.length_cons, List.length_nil]
    omega
theorem cellsT_at : ∀ (l : List Tro) (i : Nat) (t : Tro), l[i]? = some t → (cellsT l)[i * 3]? = some (.int .i64 t.at_) ∧ (cellsT l)[i * 3 + 1]? = some (.int .i64 t.kind) ∧ (cellsT l)[i * 3 + 2]? = some (.int .i64 t.part)
  | u :: l, 0, t, h => by
    obtain rfl : u = t := by simpa using h
    exact ⟨rfl, rfl, rfl⟩
  | u :: l, i + 1, t, h => by
    obtain ⟨h0, h1, h2⟩ := cellsT_at l i t (by simpa using h)
    refine ⟨?_, ?_, ?_⟩
    · show (_ :: _ :: _ :: cellsT l)[(i + 1) * 3]? = _
      rw [show (i + 1) * 3 = i * 3 + 1 + 1 + 1 by omega, List.getElem?_cons_succ, List.getElem?_cons_succ, List.getElem?_cons_succ]
      exact h0
    · show (_ :: _ :: _ :: cellsT l)[(i + 1) * 3 + 1]? = _
      rw [show (i + 1) * 3 + 1 = (i * 3 + 1) + 1 + 1 + 1 by omega, List.getElem?_cons_succ, List.getElem?_cons_succ, List.getElem?_cons_succ]
      exact h1
    · show (_ :: _ :: _ :: cellsT l)[(i + 1) * 3 + 2]? = _
      rw [show (i + 1) * 3 + 2 = (i * 3 + 2) + 1 + 1 + 1 by omega, List.getElem?_cons_succ, List.getElem?_cons_succ, List.getElem?_cons_succ]
      exact h2
  | [], i, t, h => by simp at h
theorem cellsT_mem {l : List Tro} {u : Value} (h : u ∈ cellsT l) : u.oneCell' = true := by
  unfold cellsT at h
  obtain ⟨t, _, ht⟩ := List.mem_flatMap.1 h
  simp at ht
  rcases ht with rfl | rfl | rfl <;> rfl
theorem rowT_cells {w : World} {S : Nat → Prop} {b : Addr} {l : List Tro} (hr : RowT w S (some b) l) : ∀ j u, (cellsT l)[j]? = some u → w.cell? (b.add j) = some u := by
  intro j u hj
  have hjl : j < l.length * 3 := by rw [← cellsT_len]; exact (List.getElem?_eq_some_iff.1 hj).1
  rcases hr with h0 | ⟨b2, o2, he, _, hcell⟩
  · rw [h0] at hjl; simp at hjl
  · obtain rfl := Option.some.inj he
    rw [Addr.add_mid]
    have hi : j / 3 < l.length := by omega
    obtain ⟨e0, e1, e2⟩ := cellsT_at l (j / 3) l[j / 3] (List.getElem?_eq_getElem hi)
    obtain ⟨c0, c1, c2⟩ := hcell (j / 3) l[j / 3] (List.getElem?_eq_getElem hi)
    rcases (show j = j / 3 * 3 ∨ j = j / 3 * 3 + 1 ∨ j = j / 3 * 3 + 2 by omega) with e | e | e
    · rw [e] at hj ⊢
      rw [e0] at hj
      rw [← hj]; exact c0
    · rw [e] at hj ⊢
      rw [e1] at hj
      rw [← hj, ← Nat.add_assoc]; exact c1
    · rw [e] at hj ⊢
      rw [e2] at hj
      rw [← hj, ← Nat.add_assoc]; exact c2

theorem append_any_none0 {w : World} {t e size : Nat} {z : Value} {bytes : Nat} (ht : Try.prog.underlying t = some (.slice e)) (hinfo : (Try.prog.info? e).map (fun i => (i.zero, i.size, i.bytes)) = some (some z, size, bytes))
    {v : Value} {n : Nat} {xs : List Value} (hown : w.ownsRow 0 e size v n xs) (c : Nat) : ∀ ty, (Builtin.append_ #[t, t] ty #[v, .slice none 0 c]).run Try.prog w = .ok v w := by
  obtain ⟨i5, hi5, hj50, hj51, hj52⟩ := info_parts hinfo
  intro ty
  rcases hown.2 with ⟨rfl, rfl⟩ | ⟨g, cap, cur, rfl, _, _, hnc, _⟩
  · simp [Builtin.append_, run_underlying ht, sizeOf, typeInfo, hi5, Builtin.lenOf, Builtin.firstCells]
  · simp [Builtin.append_, run_underlying ht, sizeOf, typeInfo, hi5, Builtin.lenOf, Builtin.firstCells, hnc, storeCells]

/-- A copy of troubles: append to an empty row. -/
theorem copy_tro {W : World} {S : Nat → Prop} {a : Option Addr} {l : List Tro} {c : Nat} (hr : RowT W S a l) (hl : l.length ≤ 1048576) {N : Nat} (hN : W.heap.size = N) :
    ∃ a' c' S' w', (∀ ty, (Builtin.append_ #[37, 37] ty #[.slice (some ⟨N, 0, none⟩) 0 0, .slice a l.length c]).run Try.prog (W.alloc (.cells #[] 92)) = .ok (.slice a' l.length c') w') ∧ RowT w' S' a' l ∧ (∀ k, S' k → W.heap.size ≤ k ∧ k < w'.heap.size) ∧ Below W.heap.size W w' := by
  subst hN
  have hb : Below W.heap.size W (W.alloc (.cells #[] 92)) := (Below.refl _ W).alloc (Nat.le_refl _) _
  have hown : (W.alloc (.cells #[] 92)).ownsRow 0 92 3 (.slice (some ⟨W.heap.size, 0, none⟩) 0 0) 0 [] := World.ownsRow_lit W #[] 0 (Nat.zero_le _) (Nat.zero_le _) rfl
  cases a with
  | none =>
    obtain rfl : l = [] := by
      rcases hr with h | ⟨b, o, h, _⟩
      · exact h
      · cases h
    exact ⟨some ⟨W.heap.size, 0, none⟩, 0, Non, _, append_any_none0 Try.underlying37 info92 hown c, .inl rfl, fun k h => h.elim, hb⟩
  | some b =>
    have hr' : RowT (W.alloc (.cells #[] 92)) S (some b) l := hr.keep (keeps_below hb Non) (fun _ _ h => h)
    obtain ⟨v', w', h1, h2, h3, h4⟩ := append_any (m := l.length) (c := c) (news := cellsT l) Try.underlying37 info92 rfl (by decide) hown (cellsT_len l) (rowT_cells hr') (fun u hu => cellsT_mem hu) (by unfold maxLen; omega) (by omega)
    rw [Nat.zero_add, List.nil_append] at h2
    obtain ⟨a', c', rfl⟩ := dv_form2 h2
    have hnew : ∀ k, (Value.slice a' (0 + l.length) c').ownBlock = some k → W.heap.size ≤ k := fun k e => by
      rcases h4 k (by rw [Nat.zero_add] at e; exact e) with h5 | h5
      · have : W.heap.size = k := Option.some.inj h5
        omega
      · simp at h5; omega
    rw [Nat.zero_add] at hnew
    refine ⟨a', c', fun k => (Value.slice a' l.length c').ownBlock = some k, w', h1, ?_, fun k e => ⟨hnew k e, (h2.lt k e).2⟩, ?_⟩
    · rcases h2.2 with ⟨e1, e0⟩ | ⟨g, cap, cur, e1, _⟩
      · exact .inl (List.length_eq_zero_iff.1 e0)
      · obtain ⟨rfl, _, _⟩ := Value.slice.inj e1
        refine .inr ⟨g, 0, rfl, rfl, fun i t hi => ?_⟩
        obtain ⟨q0, q1, q2⟩ := cellsT_at l i t hi
        have p0 := h2.cells (g := g) rfl _ _ q0
        have p1 := h2.cells (g := g) rfl _ _ q1
        have p2 := h2.cells (g := g) rfl _ _ q2
        rw [Addr.add_mid] at p0 p1 p2
        exact ⟨p0, by rw [Nat.add_assoc]; exact p1, by rw [Nat.add_assoc]; exact p2⟩
    · have hk : Keeps Non W w' := ((Keeps.refl Non W).alloc _).grown h3 (fun k e => .inr (by have : W.heap.size = k := Option.some.inj e; omega))
      exact hk.toBelow (Nat.le_refl _) (fun _ h => h.elim)

def RArmOut (w : World) (S : Nat → Prop) (B : Nat) (d' : Dsk) (e : Ending) (w' : World) : Prop := e = .returned (.tuple #[]) ∧ RTurns w S B d' w'

set_option maxRecDepth 100000 in
set_option maxHeartbeats 4000000 in
theorem rarm_calls (a : Option Addr) (l : List Tro) (c : Nat) (w : World) {S S0 : Nat → Prop} {B : Nat} {d : Dsk} (hd : RefD w S B d) (hr : RowT w S0 a l) (hl : l.length ≤ 1048576) :
    Calls Try.prog 42 #[.pointer (some ⟨B, 0, none⟩), .slice a l.length c] w (RArmOut w S B (arm l d)) := by
  obtain ⟨hi, hSlt, lv, ta, tn, tc, Sd, St, h⟩ := hd
  obtain ⟨a', c', S', w', hrun, hT, hS', hbel⟩ := copy_tro (c := c) hr hl (N := w.heap.size) rfl
  have hblk := block_below hbel h.blk
  have hblt := lt_of_block h.blk
  have k2 := unfrozen_of_block hblk 2
  have k3 := unfrozen_of_block hblk 3
  have c2 : w'.cell? ⟨B, 2, none⟩ = some (.slice ta tn tc) := (cell_of_block hblk 2).trans rfl
  have c3 : w'.cell? ⟨B, 3, none⟩ = some (.int .i64 d.ops) := (cell_of_block hblk 3).trans rfl
  obtain ⟨n, hn⟩ : ∃ n, l.length = n := ⟨_, rfl⟩
  rw [hn] at hrun ⊢
  have hk2 : Keeps (One B) w' ((w'.setCell ⟨B, 2, none⟩ (.slice a' n c')).setCell ⟨B, 3, none⟩ (.int .i64 0)) := ((Keeps.refl (One B) w').setCell (p := ⟨B, 2, none⟩) (.inl rfl) _).setCell (p := ⟨B, 3, none⟩) (.inl rfl) _
  have hk : Keeps (One B) w ((w'.setCell ⟨B, 2, none⟩ (.slice a' n c')).setCell ⟨B, 3, none⟩ (.int .i64 0)) := ((keeps_below hbel (One B)).setCell (p := ⟨B, 2, none⟩) (.inl rfl) _).setCell (p := ⟨B, 3, none⟩) (.inl rfl) _
  have H : Hid (RTurns w S B (arm l d) ((w'.setCell ⟨B, 2, none⟩ (.slice a' n c')).setCell ⟨B, 3, none⟩ (.int .i64 0))) := Lib.hid (by
    obtain ⟨cells, ho, hfc⟩ := h.row
    have hbr : lv.ownBlock ≠ some B := other_elem_n h.blk ho (by decide)
    refine ⟨fun k => S k ∨ S' k, ⟨inv_arm hi l, fun k e => ?_, lv, a', n, c', Sd, S', ?_⟩, fun k e => ?_, hk.mono (fun k _ e => by rw [show k = B from e]; exact h.sB)⟩
    · rcases e with e | e
      · exact Nat.lt_of_lt_of_le (hSlt k e) hk.size
      · exact Nat.lt_of_lt_of_le (hS' k e).2 hk2.size
    · exact {
        blk := block_setCell (i := 3) (block_setCell (i := 2) hblk (.slice a' n c')) (.int .i64 0)
        row := ⟨cells, ownsRow_keep ho hk (fun k e hkB => hbr (by rw [e, show k = B from hkB])), hfc.keep hk (fun k e hkB => (h.sD k e).2.1 hkB)⟩
        tro := hT.keep hk2 (fun k e hkB => by have := (hS' k e).1; rw [show k = B from hkB] at this; omega)
        trn := hn
        sB := .inl h.sB
        sR := fun k e => .inl (h.sR k e)
        sD := fun k e => ⟨.inl (h.sD k e).1, (h.sD k e).2⟩
        sT := fun k e => ⟨.inr e, fun hkB => by have := (hS' k e).1; omega, fun hkr => by have := (hS' k e).1; have := (ho.lt k hkr).2; omega⟩ }
    · rcases e with e | e
      · exact .inl e
      · exact .inr (hS' k e).1)
  have HRUN := Lib.hid hrun
  clear h hi hSlt hT hS' hbel hblk hblt hk hk2 hrun hr hl hn
  go_enter Try.func42, Try.ntmps42
  go_wp2_with (at_builtin; refine wpList_step (fun K hK => step_append rfl _ _ 37 rfl _ _ _ rfl rfl HRUN.out (hK _ _ ?_)))
  go_end0
  exact ⟨rfl, H.out⟩

end Go.Proofs.Ytfiacojgddpphaa
namespace Go.Proofs.Ytfiacojgddpphaa
open Go.RowKit Go.Lib Go.Joins

theorem FCells.take {w : World} {S : Nat → Prop} {cells : List Value} {L : List FilI} (h : FCells w S cells L) (i : Nat) : FCells w S (cells.take (i * 3)) (L.take i) := by
  refine ⟨by rw [List.length_take, List.length_take, h.len]; omega, fun j f hj => ?_⟩
  have hji : j < i := by
    have := (List.getElem?_eq_some_iff.1 hj).1
    rw [List.length_take] at this
    omega
  rw [List.getElem?_take_of_lt hji] at hj
  rw [List.getElem?_take_of_lt (by omega), List.getElem?_take_of_lt (by omega), List.getElem?_take_of_lt (by omega)]
  exact h.at_ j f hj
theorem FCells.drop {w : World} {S : Nat → Prop} {cells : List Value} {L : List FilI} (h : FCells w S cells L) (i : Nat) : FCells w S (cells.drop (i * 3)) (L.drop i) := by
  refine ⟨by rw [List.length_drop, List.length_drop, h.len]; omega, fun j f hj => ?_⟩
  rw [List.getElem?_drop] at hj
  rw [List.getElem?_drop, List.getElem?_drop, List.getElem?_drop, show i * 3 + j * 3 = (i + j) * 3 by omega, show i * 3 + (j * 3 + 1) = (i + j) * 3 + 1 by omega, show i * 3 + (j * 3 + 2) = (i + j) * 3 + 2 by omega]
  exact h.at_ (i + j) f hj
theorem FCells.one' {w : World} {S : Nat → Prop} {cells : List Value} {L : List FilI} (h : FCells w S cells L) : ∀ u ∈ cells, u.oneCell' = true := by
  intro u hu
  obtain ⟨j, hj⟩ := List.mem_iff_getElem?.1 hu
  have hjl : j < L.length * 3 := by rw [← h.len]; exact (List.getElem?_eq_some_iff.1 hj).1
  obtain ⟨e0, ⟨dv, e1, ⟨a, c, hd, _⟩⟩, e2⟩ := h.at_ (j / 3) L[j / 3] (List.getElem?_eq_getElem (by omega))
  rcases (show j = j / 3 * 3 ∨ j = j / 3 * 3 + 1 ∨ j = j / 3 * 3 + 2 by omega) with e | e | e
  · rw [e, e0] at hj
    rw [← Option.some.inj hj]; rfl
  · rw [e, e1, hd] at hj
    rw [← Option.some.inj hj]; rfl
  · rw [e, e2] at hj
    rw [← Option.some.inj hj]; rfl

/-- All files but one, in a new row. -/
theorem drop_rows {w : World} {g len lc i : Nat} {cells : List Value} (ho : w.ownsRow 0 52 3 (.slice (some ⟨g, 0, none⟩) len lc) len cells) (h1 : ∀ u ∈ cells, u.oneCell' = true) (hi : i < len) (hlen : len ≤ 1000) {N : Nat} (hN : w.heap.size = N) {X : Addr} (hX : X = ⟨g, (i + 1) * 3, none⟩ ∨ len = i + 1) :
    ∃ a1 c1 w1 a2 c2 w2, (∀ ty, (Builtin.append_ #[22, 22] ty #[.slice (some ⟨N, 0, none⟩) 0 0, .slice (some ⟨g, 0, none⟩) i lc]).run Try.prog (w.alloc (.cells #[] 52)) = .ok (.slice a1 i c1) w1) ∧
      (∀ ty, (Builtin.append_ #[22, 22] ty #[.slice a1 i c1, .slice (some X) (len - (i + 1)) (lc - (i + 1))]).run Try.prog w1 = .ok (.slice a2 (len - 1) c2) w2) ∧
      w2.ownsRow 0 52 3 (.slice a2 (len - 1) c2) (len - 1) (cells.take (i * 3) ++ cells.drop ((i + 1) * 3)) ∧ (∀ k, (Value.slice a2 (len - 1) c2).ownBlock = some k → w.heap.size ≤ k) ∧ Below w.heap.size w w1 ∧ Below w.heap.size w w2 := by
  subst hN
  have hcl : cells.length = len * 3 := ho.1
  have hb : Below w.heap.size w (w.alloc (.cells #[] 52)) := (Below.refl _ w).alloc (Nat.le_refl _) _
  have hown : (w.alloc (.cells #[] 52)).ownsRow 0 52 3 (.slice (some ⟨w.heap.size, 0, none⟩) 0 0) 0 [] := World.ownsRow_lit w #[] 0 (Nat.zero_le _) (Nat.zero_le _) rfl
  have ho1 := ownsRow_keep ho (keeps_below hb Non) (fun _ _ h => h)
  obtain ⟨v1, w1, r1, o1, g1, n1⟩ := append_any (m := i) (c := lc) (b := ⟨g, 0, none⟩) (news := cells.take (i * 3)) Try.underlying22 info52 rfl (by decide) hown (by rw [List.length_take]; omega)
    (fun j u hu => ho1.cells (g := g) rfl j u (by
      have hj : j < i * 3 := by
        have := (List.getElem?_eq_some_iff.1 hu).1
        rw [List.length_take] at this
        omega
      rw [List.getElem?_take_of_lt hj] at hu
      exact hu)) (fun u hu => h1 u (List.mem_of_mem_take hu)) (by unfold maxLen; omega) (by omega)
  rw [Nat.zero_add, List.nil_append] at o1
  obtain ⟨a1, c1, rfl⟩ := dv_form2 o1
  have hnew1 : ∀ k, (Value.slice a1 i c1).ownBlock = some k → w.heap.size ≤ k := fun k e => by
    rcases n1 k e with h5 | h5
    · have : w.heap.size = k := Option.some.inj h5
      omega
    · simp at h5; omega
  have k1 : Keeps Non w w1 := ((Keeps.refl Non w).alloc _).grown g1 (fun k e => .inr (by have : w.heap.size = k := Option.some.inj e; omega))
  have b1 : Below w.heap.size w w1 := k1.toBelow (Nat.le_refl _) (fun _ h => h.elim)
  have ho2 := ownsRow_keep ho (keeps_below b1 Non) (fun _ _ h => h)
  obtain ⟨v2, w2, r2, o2, g2, n2⟩ := append_any (m := len - (i + 1)) (c := lc - (i + 1)) (b := X) (news := cells.drop ((i + 1) * 3)) Try.underlying22 info52 rfl (by decide) o1 (by rw [List.length_drop]; omega)
    (fun j u hu => by
      rcases hX with rfl | hX
      · rw [List.getElem?_drop] at hu
        have := ho2.cells (g := g) rfl _ u hu
        rw [Addr.add_mid] at this ⊢
        rw [Nat.zero_add] at this
        exact this
      · have := (List.getElem?_eq_some_iff.1 hu).1
        rw [List.length_drop] at this
        omega) (fun u hu => h1 u (List.mem_of_mem_drop hu)) (by unfold maxLen; omega) (by omega)
  rw [show i + (len - (i + 1)) = len - 1 by omega] at o2
  obtain ⟨a2, c2, rfl⟩ := dv_form2 o2
  have k2 : Keeps Non w w2 := k1.grown g2 (fun k e => .inr (hnew1 k e))
  refine ⟨a1, c1, w1, a2, c2, w2, r1, r2, o2, fun k e => ?_, b1, k2.toBelow (Nat.le_refl _) (fun _ h => h.elim)⟩
  rcases n2 k e with h5 | h5
  · exact hnew1 k h5
  · have := b1.size; omega

theorem dro_erase {n : ByteArray} : ∀ {L : List Fil}, Srt L → ∀ {i : Nat} {f : Fil}, L[i]? = some f → f.name = n → dro n L = L.take i ++ L.drop (i + 1)
  | g :: L, hs, 0, f, hi, hn => by
    obtain rfl : g = f := by simpa using hi
    obtain ⟨h1, _⟩ := List.pairwise_cons.1 hs
    unfold dro
    rw [List.filter_cons, hn]
    simp only [decide_true, Bool.not_true, Bool.false_eq_true, if_false, List.take_zero, List.nil_append, Nat.zero_add, List.drop_succ_cons, List.drop_zero]
    refine List.filter_eq_self.2 (fun x hx => ?_)
    have : x.name ≠ n := by rw [← hn]; exact (nlt_ne (h1 x hx)).symm
    simp [this]
  | g :: L, hs, i + 1, f, hi, hn => by
    obtain ⟨h1, h2⟩ := List.pairwise_cons.1 hs
    have hi' : L[i]? = some f := by simpa using hi
    have hg : g.name ≠ n := by rw [← hn]; exact nlt_ne (h1 f (List.mem_of_getElem? hi'))
    have ih := dro_erase h2 hi' hn
    unfold dro at ih ⊢
    rw [List.filter_cons, decide_eq_false hg]
    simp only [Bool.not_false, if_true, List.take_succ_cons, List.cons_append, List.drop_succ_cons]
    rw [ih]
  | [], _, i, f, hi, _ => by simp at hi

def RDropT (w : World) (S : Nat → Prop) (B : Nat) (d' : Dsk) (w' : World) : Prop := RTurns w S B d' w' ∧ Keeps (One B) w w'
def RDropOut (w : World) (S : Nat → Prop) (B : Nat) (d' : Dsk) (e : Ending) (w' : World) : Prop := e = .returned (.tuple #[]) ∧ RDropT w S B d' w'

/-- What a new row of files leaves. -/
theorem RefAt.newRow {w w2 : World} {S : Nat → Prop} {B : Nat} {d : Dsk} {lv v2 : Value} {ta : Option Addr} {tn tc : Nat} {Sd St Sn : Nat → Prop} (h : RefAt w S B d lv ta tn tc Sd St) (hS : ∀ k, S k → k < w.heap.size) {L' : List Fil} {cells : List Value} (hb : Below w.heap.size w w2)
    (ho : w2.ownsRow 0 52 3 v2 L'.length cells) (hfc : FCells w2 Sn cells (L'.map toI)) (hv : ∀ k, v2.ownBlock = some k → w.heap.size ≤ k) (hSn : ∀ k, Sn k → Sd k ∨ (w.heap.size ≤ k ∧ k < w2.heap.size ∧ v2.ownBlock ≠ some k)) :
    RMoves w S B { d with L := L' } (w2.setCell ⟨B, 1, none⟩ v2) := by
  have hblt := lt_of_block h.blk
  have hblk := block_below hb h.blk
  have hk2 : Keeps (One B) w2 (w2.setCell ⟨B, 1, none⟩ v2) := (Keeps.refl (One B) w2).setCell (p := ⟨B, 1, none⟩) (.inl rfl) _
  have hk : Keeps (One B) w (w2.setCell ⟨B, 1, none⟩ v2) := (keeps_below hb (One B)).setCell (p := ⟨B, 1, none⟩) (.inl rfl) _
  have hnB : ∀ k, Sn k → k ≠ B := fun k e hkB => by
    rcases hSn k e with e1 | ⟨e1, _⟩
    · exact (h.sD k e1).2.1 hkB
    · omega
  refine ⟨fun k => S k ∨ (w.heap.size ≤ k ∧ k < w2.heap.size), ⟨fun k e => ?_, v2, ta, tn, tc, Sn, St, ?_⟩, fun k e => ?_, hk.mono (fun k _ e => by rw [show k = B from e]; exact h.sB)⟩
  · rcases e with e | e
    · exact Nat.lt_of_lt_of_le (hS k e) hk.size
    · exact Nat.lt_of_lt_of_le e.2 hk2.size
  · exact {
      blk := block_setCell (i := 1) hblk v2
      row := ⟨cells, ownsRow_keep ho hk2 (fun k e hkB => by have := hv k e; rw [show k = B from hkB] at this; omega), hfc.keep hk2 (fun k e hkB => hnB k e hkB)⟩
      tro := h.tro.keep hk (fun k e hkB => (h.sT k e).2.1 hkB)
      trn := h.trn
      sB := .inl h.sB
      sR := fun k e => .inr ⟨hv k e, (ho.lt k e).2⟩
      sD := fun k e => ⟨by
        rcases hSn k e with e1 | ⟨e1, e2, _⟩
        · exact .inl (h.sD k e1).1
        · exact .inr ⟨e1, e2⟩, hnB k e, by
        rcases hSn k e with e1 | ⟨_, _, e3⟩
        · intro hkr
          have := hv k hkr
          have := hS k (h.sD k e1).1
          omega
        · exact e3⟩
      sT := fun k e => ⟨.inl (h.sT k e).1, (h.sT k e).2.1, fun hkr => by have := hv k hkr; have := hS k (h.sT k e).1; omega⟩ }
  · rcases e with e | e
    · exact .inl e
    · exact .inr e.1

theorem RMoves.of_drew {w : World} {S : Nat → Prop} {B : Nat} {d : Dsk} {w' : World} (h : RMoves w.drew S B d w') : RMoves w S B d w' := by
  obtain ⟨S', h1, h2, h3⟩ := h
  exact ⟨S', h1, h2, ⟨h3.os, h3.tape, h3.output, h3.size, h3.block⟩⟩
theorem RTurns.of_drew {w : World} {S : Nat → Prop} {B : Nat} {d : Dsk} {w' : World} (h : RTurns w.drew S B d w') : RTurns w S B d w' := by
  obtain ⟨S', h1, h2, h3⟩ := h
  exact ⟨S', h1, h2, ⟨h3.os, h3.tape, h3.output, h3.size, h3.block⟩⟩

end Go.Proofs.Ytfiacojgddpphaa
