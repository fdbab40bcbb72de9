/-
  The reference's drop: its walk. Condition: the disk lies in memory.
-/
import Derived.Test.YtfiacojgddpphaaRCell
namespace Go.Proofs.Ytfiacojgddpphaa
open Go.RowKit Go.Lib Go.Joins

set_option maxRecDepth 100000 in
set_option maxHeartbeats 8000000 in
theorem rdrop_calls (s : ByteArray) (w : World) {S : Nat → Prop} {B : Nat} {d : Dsk} (hd : RefD w S B d) : Calls Try.prog 61 #[.pointer (some ⟨B, 0, none⟩), .string s] w (RDropOut w S B { d with L := dro s d.L }) := by
  have HAT := Lib.hid (rat_calls s w hd)
  cases hfn : fnd s d.L with
  | none =>
    rw [ixF_none hfn] at HAT
    have H : Hid (RDropT w S B { d with L := dro s d.L } w) := Lib.hid ⟨⟨S, by rw [dro_none hfn]; exact hd, fresh_refl _ _, Keeps.refl _ _⟩, Keeps.refl _ _⟩
    clear hd hfn
    go_enter Try.func61, Try.ntmps61
    go_wp2_with fail
    with_reducible refine HAT.out.mono ?_
    rintro e w1 ⟨rfl, rfl⟩
    go_wp2
    go_end0
    exact ⟨rfl, H.out⟩
  | some f =>
    obtain ⟨hi, hSlt, lv, ta, tn, tc, Sd, St, h⟩ := hd
    obtain ⟨j, hj, hfj⟩ := ixF_some (i := 0) hfn
    rw [hj, Nat.zero_add] at HAT
    have hjl : j < d.L.length := (List.getElem?_eq_some_iff.1 hfj).1
    have hmost := hi.most
    have hdro := dro_erase hi.srt hfj (fnd_some hfn).2
    have hlen : (dro s d.L).length = d.L.length - 1 := by rw [hdro, List.length_append, List.length_take, List.length_drop]; omega
    obtain ⟨cells, ho, hfc⟩ := h.row
    obtain ⟨g, lc, rfl⟩ : ∃ g lc, lv = .slice (some ⟨g, 0, none⟩) d.L.length lc := by
      rcases ho.2 with ⟨_, e0⟩ | ⟨g, cap, _, e1, _⟩
      · omega
      · exact ⟨g, cap, e1⟩
    have hlc : d.L.length ≤ lc := by
      rcases ho.2 with ⟨e1, _⟩ | ⟨g', cap, cur, e1, _, _, h3, _⟩
      · cases e1
      · obtain ⟨_, _, rfl⟩ := Value.slice.inj e1
        exact h3
    have ho' : w.drew.ownsRow 0 52 3 (.slice (some ⟨g, 0, none⟩) d.L.length lc) d.L.length cells := ho
    have hX : ∃ X : Addr, (X = ⟨g, (j + 1) * 3, none⟩ ∨ d.L.length = j + 1) ∧ X = (if lc = j + 1 then ⟨g, 0, none⟩ else ⟨g, (j + 1) * 3, none⟩) := by
      by_cases hc : lc = j + 1
      · exact ⟨_, .inr (by omega), rfl⟩
      · exact ⟨_, .inl (by rw [if_neg hc]), rfl⟩
    obtain ⟨X, hX1, hX2⟩ := hX
    obtain ⟨a1, c1, w1, a2, c2, w2, r1, r2, o2, n2, bl1, bl2⟩ := drop_rows ho' hfc.one' hjl (by omega) (N := w.heap.size) rfl hX1
    have hfc2 : FCells w2 Sd (cells.take (j * 3) ++ cells.drop ((j + 1) * 3)) ((dro s d.L).map toI) := by
      have hk : FCells w2 Sd cells (d.L.map toI) := hfc.keep (w := w) (w' := w2) (O := Non) ⟨bl2.os, bl2.tape, bl2.output, bl2.size, fun k hk _ => bl2.block k hk⟩ (fun _ _ h => h)
      rw [hdro, List.map_append, List.map_take, List.map_drop]
      exact (hk.take j).app (hk.drop (j + 1))
    have hblw : Below w.heap.size w w2 := ⟨bl2.os, bl2.tape, bl2.output, bl2.size, bl2.block⟩
    have hblw1 : Below w.heap.size w w1 := ⟨bl1.os, bl1.tape, bl1.output, bl1.size, bl1.block⟩
    have H : Hid (RDropT w S B { d with L := dro s d.L } (w2.setCell ⟨B, 1, none⟩ (.slice a2 (d.L.length - 1) c2))) := Lib.hid ⟨(h.newRow hSlt hblw (by rw [hlen]; exact o2) hfc2 n2 (fun k e => .inl e)).turns (inv_dro hi s d.ops d.tr d.down), (keeps_below hblw (One B)).setCell (p := ⟨B, 1, none⟩) (.inl rfl) _⟩
    have hbW0 : Below w.heap.size w (w.drew.alloc (.cells #[] 52)) := ⟨rfl, rfl, rfl, by simp, fun k hk => Below.heap_alloc w.drew _ k hk⟩
    have b0 : w.drew.cell? ⟨B, 1, none⟩ = some (.slice (some ⟨g, 0, none⟩) d.L.length lc) := (cell_of_block h.blk 1).trans rfl
    have b1 : (w.drew.alloc (.cells #[] 52)).cell? ⟨B, 1, none⟩ = some (.slice (some ⟨g, 0, none⟩) d.L.length lc) := (cell_of_block (block_below hbW0 h.blk) 1).trans rfl
    have b2 : w1.cell? ⟨B, 1, none⟩ = some (.slice (some ⟨g, 0, none⟩) d.L.length lc) := (cell_of_block (block_below hblw1 h.blk) 1).trans rfl
    have b3 : w2.cell? ⟨B, 1, none⟩ = some (.slice (some ⟨g, 0, none⟩) d.L.length lc) := (cell_of_block (block_below hblw h.blk) 1).trans rfl
    have f3 := unfrozen_of_block (block_below hblw h.blk) 1
    have HR1 := Lib.hid r1
    have HR2 := Lib.hid r2
    obtain ⟨n, hn⟩ : ∃ n, d.L.length = n := ⟨_, rfl⟩
    rw [hn] at hjl hlc hmost b0 b1 b2 b3 HR2 H
    clear h hi hSlt ho ho' hfc hfc2 hdro hlen hfn hfj hj hX1 o2 n2 bl1 bl2 hblw hblw1 hbW0 r1 r2 hn
    have U1 : Hid (IntKind.i64.wrap ((j : Int) + 1) = (j : Int) + 1) := Lib.hid (IntWalk.i64_in _ ⟨by omega, by omega⟩)
    have u2 : (0 : Int) ≤ (j : Int) + 1 := by omega
    have U3 : Hid (((j : Int) + 1).toNat = j + 1) := Lib.hid (by omega)
    by_cases hc : lc = j + 1
    · rw [if_pos hc] at hX2
      subst hX2
      obtain rfl : n = j + 1 := by omega
      subst hc
      rw [Nat.sub_self, Nat.add_sub_cancel] at HR2
      rw [Nat.add_sub_cancel] at H
      have u4 : (j : Int) ≤ (j : Int) + 1 := by omega
      have u1 := U1.out
      have u3 := U3.out
      clear hjl hlc
      go_enter Try.func61, Try.ntmps61
      go_wp2_with fail
      with_reducible refine HAT.out.mono ?_
      rintro e wx ⟨rfl, rfl⟩
      go_wp2
      refine wp_region_z (S := fun W => W.cell? ⟨B, 1, none⟩ = some (.slice (some ⟨g, 0, none⟩) (j + 1) (j + 1))) 19 (by kernel_rfl) b0 (fun hHeld => ?_)
      refine wpAnyZ_take (i := 0) (f := 20) (v := ?_) rfl (by kernel_rfl) (by kernel_rfl) (by kernel_rfl) (by kernel_rfl) (by kernel_rfl) (fun _ _ _ h => h) (Or.inl ⟨by rfl, ?_⟩) (by assumption) ?_
      rotate_left
      · intro W hS
        try dsimp only at hS
        try obtain ⟨hs0, hs1⟩ := hS
        go_simp
        try with_reducible rfl
      simp only [Act.put, List.setIfInBounds_toArray]
      refine wpAnyZ_take (i := 2) (f := 20) (v := ?_) rfl (by kernel_rfl) (by kernel_rfl) (by kernel_rfl) (by kernel_rfl) (by kernel_rfl) (fun _ _ _ h => h) (Or.inl ⟨by rfl, ?_⟩) (by assumption) ?_
      rotate_left
      · intro W hS
        try dsimp only at hS
        try obtain ⟨hs0, hs1⟩ := hS
        go_simp
        try with_reducible rfl
      simp only [Act.put]
      refine wpAnyZ_take (i := 3) (f := 20) (v := ?_) rfl (by kernel_rfl) (by kernel_rfl) (by kernel_rfl) (by kernel_rfl) (by kernel_rfl) (fun _ _ _ h => h) (Or.inl ⟨by rfl, ?_⟩) (by assumption) ?_
      rotate_left
      · intro W hS
        try dsimp only at hS
        try obtain ⟨hs0, hs1⟩ := hS
        go_simp
        try with_reducible rfl
      simp only [Act.put]
      refine wpAnyZ_take (i := 4) (f := 20) (v := ?_) rfl (by kernel_rfl) (by kernel_rfl) (by kernel_rfl) (by kernel_rfl) (by kernel_rfl) (fun _ _ _ h => h) (Or.inl ⟨by rfl, ?_⟩) (by assumption) ?_
      rotate_left
      · intro W hS
        try dsimp only at hS
        try obtain ⟨hs0, hs1⟩ := hS
        go_simp
        try with_reducible rfl
      simp only [Act.put]
      refine wpAnyZ_take (i := 5) (f := 20) (v := ?_) rfl (by kernel_rfl) (by kernel_rfl) (by kernel_rfl) (by kernel_rfl) (by kernel_rfl) (fun _ _ _ h => h) (Or.inl ⟨by rfl, ?_⟩) (by assumption) ?_
      rotate_left
      · intro W hS
        try dsimp only at hS
        try obtain ⟨hs0, hs1⟩ := hS
        go_simp
        try with_reducible rfl
      simp only [Act.put]
      refine wpAnyZ_take (i := 6) (f := 20) (v := ?_) rfl (by kernel_rfl) (by kernel_rfl) (by kernel_rfl) (by kernel_rfl) (by kernel_rfl) (fun _ _ _ h => h) (Or.inl ⟨by rfl, ?_⟩) (by assumption) ?_
      rotate_left
      · intro W hS
        try dsimp only at hS
        try obtain ⟨hs0, hs1⟩ := hS
        go_simp
        try with_reducible rfl
      simp only [Act.put]
      refine wpAnyZ_take (i := 7) (f := 20) (v := ?_) rfl (by kernel_rfl) (by kernel_rfl) (by kernel_rfl) (by kernel_rfl) (by kernel_rfl) (fun _ _ _ h => h) (Or.inl ⟨by rfl, ?_⟩) (by assumption) ?_
      rotate_left
      · intro W hS
        try dsimp only at hS
        try obtain ⟨hs0, hs1⟩ := hS
        go_simp
        try with_reducible rfl
      simp only [Act.put]
      refine wpAnyZ_take (i := 9) (f := 20) (v := ?_) rfl (by kernel_rfl) (by kernel_rfl) (by kernel_rfl) (by kernel_rfl) (by kernel_rfl) (fun _ _ _ h => h) (Or.inl ⟨by rfl, ?_⟩) (by assumption) ?_
      rotate_left
      · intro W hS
        try dsimp only at hS
        try obtain ⟨hs0, hs1⟩ := hS
        go_simp
        try with_reducible rfl
      simp only [Act.put]
      refine wpAnyZ_take (i := 10) (f := 20) (v := ?_) rfl (by kernel_rfl) (by kernel_rfl) (by kernel_rfl) (by kernel_rfl) (by kernel_rfl) (fun _ _ _ h => h) (Or.inl ⟨by rfl, ?_⟩) (by assumption) ?_
      rotate_left
      · intro W hS
        try dsimp only at hS
        try obtain ⟨hs0, hs1⟩ := hS
        go_simp
        try with_reducible rfl
      simp only [Act.put]
      refine wpAnyZ_take (i := 11) (f := 20) (v := ?_) rfl (by kernel_rfl) (by kernel_rfl) (by kernel_rfl) (by kernel_rfl) (by kernel_rfl) (fun _ _ _ h => h) (Or.inl ⟨by rfl, ?_⟩) (by assumption) ?_
      rotate_left
      · intro W hS
        try dsimp only at hS
        try obtain ⟨hs0, hs1⟩ := hS
        go_simp
        try with_reducible rfl
      simp only [Act.put]
      refine wpAnyZ_take (i := 12) (f := 20) (v := ?_) rfl (by kernel_rfl) (by kernel_rfl) (by kernel_rfl) (by kernel_rfl) (by kernel_rfl) (fun _ _ _ h => h) (Or.inl ⟨by rfl, ?_⟩) (by assumption) ?_
      rotate_left
      · intro W hS
        try dsimp only at hS
        try obtain ⟨hs0, hs1⟩ := hS
        go_simp
        try with_reducible rfl
      simp only [Act.put]
      refine wpAnyZ_take (i := 13) (f := 20) (v := ?_) rfl (by kernel_rfl) (by kernel_rfl) (by kernel_rfl) (by kernel_rfl) (by kernel_rfl) (fun _ _ _ h => h) (Or.inl ⟨by rfl, ?_⟩) (by assumption) ?_
      rotate_left
      · intro W hS
        try dsimp only at hS
        try obtain ⟨hs0, hs1⟩ := hS
        go_simp
        try with_reducible rfl
      simp only [Act.put]
      refine wpAnyZ_take (i := 14) (f := 20) (v := ?_) rfl (by kernel_rfl) (by kernel_rfl) (by kernel_rfl) (by kernel_rfl) (by kernel_rfl) (fun _ _ _ h => h) (Or.inl ⟨by rfl, ?_⟩) (by assumption) ?_
      rotate_left
      · intro W hS
        try dsimp only at hS
        try obtain ⟨hs0, hs1⟩ := hS
        go_simp
        try with_reducible rfl
      simp only [Act.put]
      refine wpAnyZ_take (i := 15) (f := 20) (v := ?_) rfl (by kernel_rfl) (by kernel_rfl) (by kernel_rfl) (by kernel_rfl) (by kernel_rfl) (fun _ _ _ h => h) (Or.inl ⟨by rfl, ?_⟩) (by assumption) ?_
      rotate_left
      · intro W hS
        try dsimp only at hS
        try obtain ⟨hs0, hs1⟩ := hS
        go_simp
        try with_reducible rfl
      simp only [Act.put]
      refine wpAnyZ_one (i := 1) (by kernel_rfl) rfl (fun K hK => ?_)
      go_simp
      refine hK.out _ _ b1 (fun hHeld => ?_)
      clear hK K
      try simp only [Act.put, List.setIfInBounds_toArray, List.set_cons_zero, List.set_cons_succ]
      refine wpAnyZ_one (i := 8) (by kernel_rfl) rfl (fun K hK => ?_)
      refine step_append rfl _ _ 22 rfl _ _ _ rfl rfl HR1.out ?_
      refine hK.out _ _ b2 (fun hHeld => ?_)
      clear hK K
      try simp only [Act.put, List.setIfInBounds_toArray]
      refine wpAnyZ_one (i := 16) (by kernel_rfl) rfl (fun K hK => ?_)
      refine step_append rfl _ _ 22 rfl _ _ _ rfl rfl HR2.out ?_
      refine hK.out _ _ b3 (fun hHeld => ?_)
      clear hK K
      try simp only [Act.put]
      refine wpAnyZ_take (i := 17) (f := 20) (v := ?_) rfl (by kernel_rfl) (by kernel_rfl) (by kernel_rfl) (by kernel_rfl) (by kernel_rfl) (fun _ _ _ h => h) (Or.inl ⟨by rfl, ?_⟩) (by assumption) ?_
      rotate_left
      · intro W hS
        try dsimp only at hS
        try obtain ⟨hs0, hs1⟩ := hS
        go_simp
        try with_reducible rfl
      simp only [Act.put]
      refine wpAnyZ_take (i := 18) (f := 20) (v := ?_) rfl (by kernel_rfl) (by kernel_rfl) (by kernel_rfl) (by kernel_rfl) (by kernel_rfl) (fun _ _ _ h => h) (Or.inl ⟨by rfl, ?_⟩) (by assumption) ?_
      rotate_left
      · intro W hS
        try dsimp only at hS
        try obtain ⟨hs0, hs1⟩ := hS
        go_simp
        try with_reducible rfl
      simp only [Act.put]
      refine wpAnyZ_last (by kernel_rfl) rfl (by kernel_rfl) (fun K hK => ?_)
      go_simp
      refine hK.out _ _ ?_
      clear hK K
      try simp only [Act.put, List.setIfInBounds_toArray, List.set_cons_zero, List.set_cons_succ]
      go_end0
      exact ⟨rfl, H.out⟩
    · rw [if_neg hc] at hX2
      subst hX2
      have u4 : (j : Int) ≤ (lc : Int) := by omega
      have u5 : (j : Int) + 1 ≤ (n : Int) := by omega
      have u6 : (n : Int) ≤ (lc : Int) := by omega
      have u7 : ¬ lc - (j + 1) = 0 := by omega
      have u1 := U1.out
      have u3 := U3.out
      clear hjl hlc
      go_enter Try.func61, Try.ntmps61
      go_wp2_with fail
      with_reducible refine HAT.out.mono ?_
      rintro e wx ⟨rfl, rfl⟩
      go_wp2
      refine wp_region_z (S := fun W => W.cell? ⟨B, 1, none⟩ = some (.slice (some ⟨g, 0, none⟩) n lc)) 19 (by kernel_rfl) b0 (fun hHeld => ?_)
      refine wpAnyZ_take (i := 0) (f := 20) (v := ?_) rfl (by kernel_rfl) (by kernel_rfl) (by kernel_rfl) (by kernel_rfl) (by kernel_rfl) (fun _ _ _ h => h) (Or.inl ⟨by rfl, ?_⟩) (by assumption) ?_
      rotate_left
      · intro W hS
        try dsimp only at hS
        try obtain ⟨hs0, hs1⟩ := hS
        go_simp
        try with_reducible rfl
      simp only [Act.put, List.setIfInBounds_toArray]
      refine wpAnyZ_take (i := 2) (f := 20) (v := ?_) rfl (by kernel_rfl) (by kernel_rfl) (by kernel_rfl) (by kernel_rfl) (by kernel_rfl) (fun _ _ _ h => h) (Or.inl ⟨by rfl, ?_⟩) (by assumption) ?_
      rotate_left
      · intro W hS
        try dsimp only at hS
        try obtain ⟨hs0, hs1⟩ := hS
        go_simp
        try with_reducible rfl
      simp only [Act.put]
      refine wpAnyZ_take (i := 3) (f := 20) (v := ?_) rfl (by kernel_rfl) (by kernel_rfl) (by kernel_rfl) (by kernel_rfl) (by kernel_rfl) (fun _ _ _ h => h) (Or.inl ⟨by rfl, ?_⟩) (by assumption) ?_
      rotate_left
      · intro W hS
        try dsimp only at hS
        try obtain ⟨hs0, hs1⟩ := hS
        go_simp
        try with_reducible rfl
      simp only [Act.put]
      refine wpAnyZ_take (i := 4) (f := 20) (v := ?_) rfl (by kernel_rfl) (by kernel_rfl) (by kernel_rfl) (by kernel_rfl) (by kernel_rfl) (fun _ _ _ h => h) (Or.inl ⟨by rfl, ?_⟩) (by assumption) ?_
      rotate_left
      · intro W hS
        try dsimp only at hS
        try obtain ⟨hs0, hs1⟩ := hS
        go_simp
        try with_reducible rfl
      simp only [Act.put]
      refine wpAnyZ_take (i := 5) (f := 20) (v := ?_) rfl (by kernel_rfl) (by kernel_rfl) (by kernel_rfl) (by kernel_rfl) (by kernel_rfl) (fun _ _ _ h => h) (Or.inl ⟨by rfl, ?_⟩) (by assumption) ?_
      rotate_left
      · intro W hS
        try dsimp only at hS
        try obtain ⟨hs0, hs1⟩ := hS
        go_simp
        try with_reducible rfl
      simp only [Act.put]
      refine wpAnyZ_take (i := 6) (f := 20) (v := ?_) rfl (by kernel_rfl) (by kernel_rfl) (by kernel_rfl) (by kernel_rfl) (by kernel_rfl) (fun _ _ _ h => h) (Or.inl ⟨by rfl, ?_⟩) (by assumption) ?_
      rotate_left
      · intro W hS
        try dsimp only at hS
        try obtain ⟨hs0, hs1⟩ := hS
        go_simp
        try with_reducible rfl
      simp only [Act.put]
      refine wpAnyZ_take (i := 7) (f := 20) (v := ?_) rfl (by kernel_rfl) (by kernel_rfl) (by kernel_rfl) (by kernel_rfl) (by kernel_rfl) (fun _ _ _ h => h) (Or.inl ⟨by rfl, ?_⟩) (by assumption) ?_
      rotate_left
      · intro W hS
        try dsimp only at hS
        try obtain ⟨hs0, hs1⟩ := hS
        go_simp
        try with_reducible rfl
      simp only [Act.put]
      refine wpAnyZ_take (i := 9) (f := 20) (v := ?_) rfl (by kernel_rfl) (by kernel_rfl) (by kernel_rfl) (by kernel_rfl) (by kernel_rfl) (fun _ _ _ h => h) (Or.inl ⟨by rfl, ?_⟩) (by assumption) ?_
      rotate_left
      · intro W hS
        try dsimp only at hS
        try obtain ⟨hs0, hs1⟩ := hS
        go_simp
        try with_reducible rfl
      simp only [Act.put]
      refine wpAnyZ_take (i := 10) (f := 20) (v := ?_) rfl (by kernel_rfl) (by kernel_rfl) (by kernel_rfl) (by kernel_rfl) (by kernel_rfl) (fun _ _ _ h => h) (Or.inl ⟨by rfl, ?_⟩) (by assumption) ?_
      rotate_left
      · intro W hS
        try dsimp only at hS
        try obtain ⟨hs0, hs1⟩ := hS
        go_simp
        try with_reducible rfl
      simp only [Act.put]
      refine wpAnyZ_take (i := 11) (f := 20) (v := ?_) rfl (by kernel_rfl) (by kernel_rfl) (by kernel_rfl) (by kernel_rfl) (by kernel_rfl) (fun _ _ _ h => h) (Or.inl ⟨by rfl, ?_⟩) (by assumption) ?_
      rotate_left
      · intro W hS
        try dsimp only at hS
        try obtain ⟨hs0, hs1⟩ := hS
        go_simp
        try with_reducible rfl
      simp only [Act.put]
      refine wpAnyZ_take (i := 12) (f := 20) (v := ?_) rfl (by kernel_rfl) (by kernel_rfl) (by kernel_rfl) (by kernel_rfl) (by kernel_rfl) (fun _ _ _ h => h) (Or.inl ⟨by rfl, ?_⟩) (by assumption) ?_
      rotate_left
      · intro W hS
        try dsimp only at hS
        try obtain ⟨hs0, hs1⟩ := hS
        go_simp
        try with_reducible rfl
      simp only [Act.put]
      refine wpAnyZ_take (i := 13) (f := 20) (v := ?_) rfl (by kernel_rfl) (by kernel_rfl) (by kernel_rfl) (by kernel_rfl) (by kernel_rfl) (fun _ _ _ h => h) (Or.inl ⟨by rfl, ?_⟩) (by assumption) ?_
      rotate_left
      · intro W hS
        try dsimp only at hS
        try obtain ⟨hs0, hs1⟩ := hS
        go_simp
        try with_reducible rfl
      simp only [Act.put]
      refine wpAnyZ_take (i := 14) (f := 20) (v := ?_) rfl (by kernel_rfl) (by kernel_rfl) (by kernel_rfl) (by kernel_rfl) (by kernel_rfl) (fun _ _ _ h => h) (Or.inl ⟨by rfl, ?_⟩) (by assumption) ?_
      rotate_left
      · intro W hS
        try dsimp only at hS
        try obtain ⟨hs0, hs1⟩ := hS
        go_simp
        try with_reducible rfl
      simp only [Act.put]
      refine wpAnyZ_take (i := 15) (f := 20) (v := ?_) rfl (by kernel_rfl) (by kernel_rfl) (by kernel_rfl) (by kernel_rfl) (by kernel_rfl) (fun _ _ _ h => h) (Or.inl ⟨by rfl, ?_⟩) (by assumption) ?_
      rotate_left
      · intro W hS
        try dsimp only at hS
        try obtain ⟨hs0, hs1⟩ := hS
        go_simp
        try with_reducible rfl
      simp only [Act.put]
      refine wpAnyZ_one (i := 1) (by kernel_rfl) rfl (fun K hK => ?_)
      go_simp
      refine hK.out _ _ b1 (fun hHeld => ?_)
      clear hK K
      try simp only [Act.put, List.setIfInBounds_toArray, List.set_cons_zero, List.set_cons_succ]
      refine wpAnyZ_one (i := 8) (by kernel_rfl) rfl (fun K hK => ?_)
      refine step_append rfl _ _ 22 rfl _ _ _ rfl rfl HR1.out ?_
      refine hK.out _ _ b2 (fun hHeld => ?_)
      clear hK K
      try simp only [Act.put, List.setIfInBounds_toArray]
      refine wpAnyZ_one (i := 16) (by kernel_rfl) rfl (fun K hK => ?_)
      refine step_append rfl _ _ 22 rfl _ _ _ rfl rfl HR2.out ?_
      refine hK.out _ _ b3 (fun hHeld => ?_)
      clear hK K
      try simp only [Act.put]
      refine wpAnyZ_take (i := 17) (f := 20) (v := ?_) rfl (by kernel_rfl) (by kernel_rfl) (by kernel_rfl) (by kernel_rfl) (by kernel_rfl) (fun _ _ _ h => h) (Or.inl ⟨by rfl, ?_⟩) (by assumption) ?_
      rotate_left
      · intro W hS
        try dsimp only at hS
        try obtain ⟨hs0, hs1⟩ := hS
        go_simp
        try with_reducible rfl
      simp only [Act.put]
      refine wpAnyZ_take (i := 18) (f := 20) (v := ?_) rfl (by kernel_rfl) (by kernel_rfl) (by kernel_rfl) (by kernel_rfl) (by kernel_rfl) (fun _ _ _ h => h) (Or.inl ⟨by rfl, ?_⟩) (by assumption) ?_
      rotate_left
      · intro W hS
        try dsimp only at hS
        try obtain ⟨hs0, hs1⟩ := hS
        go_simp
        try with_reducible rfl
      simp only [Act.put]
      refine wpAnyZ_last (by kernel_rfl) rfl (by kernel_rfl) (fun K hK => ?_)
      go_simp
      refine hK.out _ _ ?_
      clear hK K
      try simp only [Act.put, List.setIfInBounds_toArray, List.set_cons_zero, List.set_cons_succ]
      go_end0
      exact ⟨rfl, H.out⟩

end Go.Proofs.Ytfiacojgddpphaa
