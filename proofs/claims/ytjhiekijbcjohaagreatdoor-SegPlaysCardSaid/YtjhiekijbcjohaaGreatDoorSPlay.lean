/-
  The walk of the law SegPlays at every room and every script. Conditions: the script leads to steps as its reading says, no longer than 2 to the 47; the library's table of powers of ten is laid; errors.errorType holds its handle.
-/
import Derived.Test.YtjhiekijbcjohaaGreatDoorPTwo
import Derived.Test.YtjhiekijbcjohaaGreatDoorFCode
import Derived.Deep.RegionHeld
namespace Go.Proofs.YtjhiekijbcjohaaGreatDoor
open Go.RowKit Go.Lib Go.Joins
open List (getElem_toArray getElem_cons_succ getElem_cons_zero setIfInBounds_toArray set_cons_zero set_cons_succ)

/-- What the law reads of the reference's disk. -/
theorem ref_row {w : World} {S : Nat → Prop} {B : Nat} {d : Dsk} (h : RefD w S B d) : ∃ la lc n1, Fils w S la (d.L.map toI) ∧ (∀ W, Below w.heap.size w W → W.cell? ⟨B, 1, none⟩ = some (.slice la n1 lc)) ∧ d.L.length = n1 := by
  obtain ⟨_, _, lv, ta, tn, tc, Sd, St, h⟩ := h
  obtain ⟨la, lc, rfl, hf, _⟩ := h.fils
  exact ⟨la, lc, _, hf, fun W hb => (cell_of_block (block_below hb h.blk) 1).trans rfl, rfl⟩
theorem same_both {d : Dsk} (hi : Inv d) (hu : used d.L ≤ 1073741824) (W : World) (b1 b2 : Option Addr) (c1 c2 : Nat) (T1 T2 : Nat → Prop) (n1 : Nat) (h1 : Fils W T1 b1 (d.L.map toI)) (h2 : Fils W T2 b2 (d.L.map toI)) (h3 : d.L.length = n1) :
    Calls Tryz.prog 21 #[.slice b1 n1 c1, .slice b2 n1 c2] W (Tells (.bool true) W) := by
  have hd1 : ∀ f ∈ d.L.map toI, f.data.length ≤ 1073741824 := fun f hf => by
    obtain ⟨g, hg, rfl⟩ := List.mem_map.1 hf
    exact Nat.le_trans (used_mem hg) hu
  have hl1 : (d.L.map toI).length = n1 := by rw [List.length_map]; exact h3
  have hm := hi.most
  have := same_calls b1 b2 _ _ c1 c2 n1 n1 W h1 h2 hl1 hl1 (by omega) (by omega) hd1 hd1
  rw [sameB_eq.2 rfl] at this
  exact this
theorem pair_of {x y : Option (Nat × Sg)} (h : x.map (·.2) = y.map (·.2)) : (x = none ∧ y = none) ∨ ∃ b1 b2 g, x = some (b1, g) ∧ y = some (b2, g) := by
  cases x with
  | none =>
    cases y with
    | none => exact .inl ⟨rfl, rfl⟩
    | some q => cases h
  | some p =>
    cases y with
    | none => cases h
    | some q =>
      obtain ⟨b1, g⟩ := p
      obtain ⟨b2, g2⟩ := q
      have h1 : g = g2 := Option.some.inj h
      subst h1
      exact .inr ⟨b1, b2, g, rfl, rfl⟩
theorem all_bounds7 : ∀ (n : Nat) (b : List Nat), b.length ≤ n → (allB b).1.length ≤ b.length ∧ ∀ r ∈ (allB b).1, r.length ≤ b.length
  | 0, b, h => by
    have hb : b = [] := List.length_eq_zero_iff.1 (by omega)
    subst hb
    rw [allB_nil]
    exact ⟨Nat.le_refl _, fun r hr => by cases hr⟩
  | n + 1, b, h => by
    by_cases hs : standsB b = 1
    · obtain ⟨g1, g2, g3, _, g5⟩ := fwhole hs
      have ih := all_bounds7 n (b.drop (8 + get32 b)) (by rw [List.length_drop]; omega)
      rw [List.length_drop] at ih
      rw [allB_whole hs]
      refine ⟨?_, fun r hr => ?_⟩
      · show _ + 1 ≤ _
        omega
      · rcases List.mem_cons.1 hr with rfl | hr
        · omega
        · have := ih.2 r hr
          omega
    · rw [allB_else hs]
      exact ⟨Nat.zero_le _, fun r hr => by cases hr⟩
theorem open_bounds (d : Dsk) (n : Int) : (openB d n).2.2.1.length ≤ used d.L ∧ ∀ r ∈ (openB d n).2.2.1, r.length ≤ used d.L := by
  unfold openB
  cases hf : fnd (nameB n) d.L with
  | none => exact ⟨Nat.zero_le _, fun r hr => by cases hr⟩
  | some f =>
    dsimp only
    have hu := used_mem (fnd_some hf).1
    split
    · unfold scanB
      split
      · exact ⟨Nat.zero_le _, fun r hr => by cases hr⟩
      · split
        · exact ⟨Nat.zero_le _, fun r hr => by cases hr⟩
        · have h := all_bounds7 _ (f.data.drop 12) (Nat.le_refl _)
          rw [List.length_drop] at h
          exact ⟨by dsimp only; omega, fun r hr => by have := h.2 r hr; omega⟩
    · exact ⟨Nat.zero_le _, fun r hr => by cases hr⟩

set_option maxRecDepth 100000 in
set_option maxHeartbeats 32000000 in
theorem law_plays7 (room : Int) (a : Option Addr) (l : List SDoI) (n c : Nat) (w : World) (ht : Tab w) (hgd : Handle w) (hroom : room ≤ 9223372036854775807) (hl : SDos w (Was0 w) a l) (hn : l.length = n) (hb : n ≤ 140737488355328) :
    Calls Tryz.prog 4 #[.int .i64 room, .slice a n c] w (Leaves (.bool true) w) := by
  have HTAB := Lib.hid ht
  have HGD := Lib.hid hgd
  have HDO := Lib.hid hl
  have HN := Lib.hid hn
  have HROOM := Lib.hid hroom
  obtain ⟨C0, hC0⟩ : ∃ C, w.heap[0]? = some C := ⟨_, Array.getElem?_eq_getElem (lt_of_cell hgd)⟩
  have HC0 := Lib.hid hC0
  clear ht hgd hl hn hC0 hroom
  go_enter Tryz.func4, Tryz.ntmps4
  go_wp2_with fail
  with_reducible refine (awake_calls w HTAB.out).mono ?_
  rintro e w1 ⟨rfl, hb1⟩
  have HB1 := Lib.hid hb1
  clear hb1
  obtain ⟨q, hq⟩ : ∃ q, smallS l 0 = q := ⟨_, rfl⟩
  have hsc := ssmall_calls a l c n w1 (HDO.out.below HB1.out) HN.out (by omega)
  rw [hq] at hsc
  have HSC := Lib.hid hsc
  have HQ := Lib.hid hq
  clear hsc hq
  go_wp2_with fail
  with_reducible refine HSC.out.mono ?_
  rintro e w2 ⟨rfl, rfl⟩
  clear HSC
  cases q with
  | false =>
    go_wp2
    go_ret
    exact ⟨rfl, HB1.out⟩
  | true =>
  go_wp2_with fail
  with_reducible refine (new_calls room _ HROOM.out).mono ?_
  rintro e w2 ⟨B1, S1, rfl, hd2, hf2, hb2⟩
  have HL2 : Hid (Live w w2 S1 B1 (dsk0 room)) := Lib.hid (Live.born HB1.out hd2 hf2 hb2)
  clear hd2 hf2 hb2 HB1
  go_wp2_with fail
  with_reducible refine (rnew_calls room _ HROOM.out).mono ?_
  rintro e w3 ⟨B2, S2, rfl, hd3, hf3, hb3⟩
  have HPF3 : Hid (PF w w3 S1 B1 (dsk0 room) none S2 B2 (dsk0 room) none 0 C0) := Lib.hid (by
    have h0 := lt_of_block HC0.out
    have h1 := HL2.out.bel.size
    have hown : ∀ k, S2 k → w2.heap.size ≤ k := fun k e => by
      rcases hf3 k e with h | h
      · exact h.elim
      · exact h
    refine ⟨HL2.out.quiet hb3, hd3, fun k e => Nat.le_trans h1 (hown k e), fun k e e2 => ?_, (fun b g h => by cases h), (fun b g h => by cases h), (fun b g c h h1 h2 => by cases h2), (block_below (below_then HL2.out.bel hb3) HC0.out), fun e => ?_, fun e => ?_, (fun g h => by cases h), (fun g h => by cases h)⟩
    · have := HL2.out.disk.2.1 k e
      have := hown k e2
      omega
    · have := HL2.out.own 0 e; omega
    · have := hown 0 e; omega)
  have HPS3 := Lib.hid (PS.create HROOM.out)
  clear hd3 hf3 hb3 HL2 HC0
  have hc4 := screate_calls (n := 3) HPF3.out.live HTAB.out (by decide) (few_dsk0 HROOM.out) (by decide) (by decide)
  have HCR : Hid (∀ W S2' x, PF w W S2' B1 (createB (dsk0 room) 3).2 x S2 B2 (dsk0 room) none 0 C0 → Calls Tryz.prog 19 #[.pointer (some ⟨B2, 0, none⟩), .int .i64 3] W (RCOut W S2 B2 3 (createB (dsk0 room) 3).1 (createB (dsk0 room) 3).2 (if (createB (dsk0 room) 3).1 = 0 then some ⟨12, false⟩ else none))) :=
    Lib.hid (fun W S2' x h => rcreate_calls h.ref (by decide) (few_dsk0 HROOM.out) (by decide) (by decide) (Nat.zero_le _))
  obtain ⟨A, hA⟩ : ∃ A, createB (dsk0 room) 3 = A := ⟨_, rfl⟩
  rw [hA] at hc4 HCR HPS3
  obtain ⟨c0, d0⟩ := A
  dsimp only at hc4 HCR HPS3
  obtain ⟨g0, hg0⟩ : ∃ g : Option Sg, (if c0 = 0 then some (⟨12, false⟩ : Sg) else none) = g := ⟨_, rfl⟩
  rw [hg0] at hc4 HCR HPS3
  have HC4 := Lib.hid hc4
  clear hc4 hA hg0
  go_wp2_with fail
  with_reducible refine HC4.out.mono ?_
  rintro e w4 ⟨v4, ev4, rfl, herr4, hst4⟩
  obtain ⟨S1c, x4, rfl, hx4, hpf4⟩ := HPF3.out.open1 hst4
  have HX4 := Lib.hid hx4
  have HPF4 := Lib.hid hpf4
  have HERR4 := Lib.hid herr4
  clear herr4 hst4 hx4 hpf4 HC4
  go_wp2_with fail
  with_reducible refine (HCR.out _ _ _ HPF4.out).mono ?_
  rintro e w5 ⟨v5, rfl, hst5⟩
  have hk5 := hst5
  obtain ⟨_, _, _, hk5, _⟩ := hk5
  have HERR5 : Hid (ErrAt 0 w5 c0 3 ev4) := Lib.hid ((HERR4.out.keep hk5 HPF3.out.ref.2.1).low (Nat.zero_le _))
  obtain ⟨S2c, y5, rfl, hy5, hpf5⟩ := HPF4.out.open2 hst5
  have HXY5 : Hid (x4.map (·.2) = y5.map (·.2)) := Lib.hid (HX4.out.trans hy5.symm)
  have HPF5 := Lib.hid hpf5
  rw [← HX4.out] at HPS3
  obtain ⟨xv, hxv⟩ : ∃ v, ptrV x4 = v := ⟨_, rfl⟩
  obtain ⟨yv, hyv⟩ : ∃ v, ptrV y5 = v := ⟨_, rfl⟩
  rw [hxv, hyv]
  have HXV := Lib.hid hxv.symm
  have HYV := Lib.hid hyv.symm
  clear hk5 hst5 hy5 hpf5 HX4 HPF4 HERR4 HCR HPF3 hxv hyv
  go_wp2
  go_loopg [7, 8, 9, 10, 11] n (fun gm xv ev yv fv idx wr => ∃ (i : Nat) (S1 S2 : Nat → Prop) (d : Dsk) (x y : Option (Nat × Sg)) (F : Nat) (C : Obj) (cd : Int), idx = .int .i64 (i : Int) ∧ fv = .int .i64 cd ∧ xv = ptrV x ∧ yv = ptrV y ∧ gm + i = n ∧ i ≤ 30 ∧ ErrAt 0 wr cd 3 ev ∧ x.map (·.2) = y.map (·.2) ∧ PF w wr S1 B1 d x S2 B2 d y F C ∧ PS d i (x.map (·.2)))
  case atStart => exact ⟨0, S1c, S2c, d0, x4, y5, 0, C0, c0, rfl, rfl, HXV.out, HYV.out, rfl, by decide, HERR5.out, HXY5.out, HPF5.out, HPS3.out⟩
  case round =>
    obtain ⟨i, S1, S2, d, x, y, F0, CF, cd, rfl, rfl, hxv, hyv, hg, hi30, herr, hxy, hpf, hps⟩ := hrel
    have HG := Lib.hid hg
    have HERR := Lib.hid herr
    have HPF := Lib.hid hpf
    have HPS := Lib.hid hps
    have HUSED : Hid (used d.L ≤ 1073741824) := Lib.hid (by have := hps.few.used; omega)
    have HCODE := Lib.hid (code_calls cd 3 _ wr.drew (herr.below (below_drewN wr 1)) (HGD.out.below (below_then hpf.live.bel (below_drewN wr 1))))
    have HFILES := Lib.hid (fun W (hB : Below wr.heap.size wr W) => files_calls W (HPF.out.live.quiet hB).disk HUSED.out)
    have HSAME := Lib.hid (same_both hpf.ref.1 HUSED.out)
    obtain ⟨la, lc, n1, hla, hq2, hn1⟩ := ref_row hpf.ref
    have HLA := Lib.hid hla
    have HSC := Lib.hid hq2
    have HN1 := Lib.hid hn1
    clear hg herr hpf hps hla hq2 hn1 HPF5 HPS3 HXY5 HERR5 HXV HYV
    by_cases hlt : i < n ∧ i < 30
    · obtain ⟨hlt, h30⟩ := hlt
      obtain ⟨g', rfl⟩ : ∃ g', gk = g' + 1 := ⟨gk - 1, by have := HG.out; omega⟩
      have hdd : decide ((i : Int) < (n : Int)) = true := by simp; omega
      have hdd3 : decide ((i : Int) < 30) = true := by simp; omega
      have hi1 : (i : Int) < (n : Int) := by omega
      have hi0 : (0 : Int) ≤ (i : Int) := by omega
      rcases pair_of hxy with ⟨rfl, rfl⟩ | ⟨b1, b2, g, rfl, rfl⟩
      · obtain rfl := hxv
        obtain rfl := hyv
        clear hxy
        dsimp only [ptrV]
        go_wp2
        refine wp_region_held_drew (S := fun W => W.cell? ⟨B2, 1, none⟩ = some (.slice la n1 lc)) (by kernel_rfl) (HSC.out _ (below_drewN wr 1)) (fun hHeld => ?_)
        refine tkH 0 (v := ?_) rfl ?_ ?_ (by kernel_rfl) (fun _ _ _ h => h) (by rfl) (by assumption)
        rotate_left
        · intro W hS; (try dsimp only at hS); go_simp; try with_reducible rfl
        simp only [getElem_toArray, getElem_cons_zero, Act.put, setIfInBounds_toArray, set_cons_zero, set_cons_succ]
        refine tkH 2 (v := ?_) rfl ?_ ?_ (by kernel_rfl) (fun _ _ _ h => h) (by rfl) (by assumption)
        rotate_left
        · intro W hS; (try dsimp only at hS); go_simp; try with_reducible rfl
        simp only [getElem_toArray, getElem_cons_succ, getElem_cons_zero, Act.put, setIfInBounds_toArray, set_cons_zero, set_cons_succ]
        refine wpAnyH_ready (rs := [1]) (by kernel_rfl) (by simp) ?_
        refine AllReadyH.cons rfl (fun K hK => ?_) AllReadyH.nil
        go_simp
        with_reducible refine (HCODE.out).mono ?_
        rintro e w6 ⟨rfl, hb6⟩
        have HB6 : Hid (Below wr.heap.size wr w6) := Lib.hid (below_then (below_drewN wr 1) hb6)
        clear hb6
        refine hK.out _ _ (HSC.out _ HB6.out) (fun hHeld => ?_)
        clear hK K
        try simp only [getElem_toArray, getElem_cons_succ, getElem_cons_zero, Act.put, setIfInBounds_toArray, set_cons_zero, set_cons_succ]
        refine tkH 3 (v := ?_) rfl ?_ ?_ (by kernel_rfl) (fun _ _ _ h => h) (by rfl) (by assumption)
        rotate_left
        · intro W hS; (try dsimp only at hS); go_simp; try with_reducible rfl
        simp only [getElem_toArray, getElem_cons_succ, getElem_cons_zero, Act.put, setIfInBounds_toArray, set_cons_zero, set_cons_succ]
        refine tkH 4 (v := ?_) rfl ?_ ?_ (by kernel_rfl) (fun _ _ _ h => h) (by rfl) (by assumption)
        rotate_left
        · intro W hS; (try dsimp only at hS); go_simp; try with_reducible rfl
        simp only [getElem_toArray, getElem_cons_succ, getElem_cons_zero, Act.put, setIfInBounds_toArray, set_cons_zero, set_cons_succ]
        refine tkH 5 (v := ?_) rfl ?_ ?_ (by kernel_rfl) (fun _ _ _ h => h) (by rfl) (by assumption)
        rotate_left
        · intro W hS; (try dsimp only at hS); go_simp; try with_reducible rfl
        simp only [getElem_toArray, getElem_cons_succ, getElem_cons_zero, Act.put, setIfInBounds_toArray, set_cons_zero, set_cons_succ]
        refine tkH 6 (v := ?_) rfl ?_ ?_ (by kernel_rfl) (fun _ _ _ h => h) (by rfl) (by assumption)
        rotate_left
        · intro W hS; (try dsimp only at hS); go_simp; try with_reducible rfl
        simp only [getElem_toArray, getElem_cons_succ, getElem_cons_zero, Act.put, setIfInBounds_toArray, set_cons_zero, set_cons_succ]
        refine tkH 7 (v := ?_) rfl ?_ ?_ (by kernel_rfl) (fun _ _ _ h => h) (by rfl) (by assumption)
        rotate_left
        · intro W hS; (try dsimp only at hS); go_simp; try with_reducible rfl
        simp only [getElem_toArray, getElem_cons_succ, getElem_cons_zero, Act.put, setIfInBounds_toArray, set_cons_zero, set_cons_succ]
        refine tkH 8 (v := ?_) rfl ?_ ?_ (by kernel_rfl) (fun _ _ _ h => h) (by rfl) (by assumption)
        rotate_left
        · intro W hS; (try dsimp only at hS); go_simp; try with_reducible rfl
        simp only [getElem_toArray, getElem_cons_succ, getElem_cons_zero, Act.put, setIfInBounds_toArray, set_cons_zero, set_cons_succ]
        refine tkH 9 (v := ?_) rfl ?_ ?_ (by kernel_rfl) (fun _ _ _ h => h) (by rfl) (by assumption)
        rotate_left
        · intro W hS; (try dsimp only at hS); go_simp; try with_reducible rfl
        simp only [getElem_toArray, getElem_cons_succ, getElem_cons_zero, Act.put, setIfInBounds_toArray, set_cons_zero, set_cons_succ]
        refine tkH 10 (v := ?_) rfl ?_ ?_ (by kernel_rfl) (fun _ _ _ h => h) (by rfl) (by assumption)
        rotate_left
        · intro W hS; (try dsimp only at hS); go_simp; try with_reducible rfl
        simp only [getElem_toArray, getElem_cons_succ, getElem_cons_zero, Act.put, setIfInBounds_toArray, set_cons_zero, set_cons_succ]
        refine tkH 11 (v := ?_) rfl ?_ ?_ (by kernel_rfl) (fun _ _ _ h => h) (by rfl) (by assumption)
        rotate_left
        · intro W hS; (try dsimp only at hS); go_simp; try with_reducible rfl
        simp only [getElem_toArray, getElem_cons_succ, getElem_cons_zero, Act.put, setIfInBounds_toArray, set_cons_zero, set_cons_succ]
        refine tkH 12 (v := ?_) rfl ?_ ?_ (by kernel_rfl) (fun _ _ _ h => h) (by rfl) (by assumption)
        rotate_left
        · intro W hS; (try dsimp only at hS); go_simp; try with_reducible rfl
        simp only [getElem_toArray, getElem_cons_succ, getElem_cons_zero, Act.put, setIfInBounds_toArray, set_cons_zero, set_cons_succ]
        refine tkH 14 (v := ?_) rfl ?_ ?_ (by kernel_rfl) (fun _ _ _ h => h) (by rfl) (by assumption)
        rotate_left
        · intro W hS; (try dsimp only at hS); go_simp; try with_reducible rfl
        simp only [getElem_toArray, getElem_cons_succ, getElem_cons_zero, Act.put, setIfInBounds_toArray, set_cons_zero, set_cons_succ]
        refine tkH 15 (v := ?_) rfl ?_ ?_ (by kernel_rfl) (fun _ _ _ h => h) (by rfl) (by assumption)
        rotate_left
        · intro W hS; (try dsimp only at hS); go_simp; try with_reducible rfl
        simp only [getElem_toArray, getElem_cons_succ, getElem_cons_zero, Act.put, setIfInBounds_toArray, set_cons_zero, set_cons_succ]
        refine tkH 16 (v := ?_) rfl ?_ ?_ (by kernel_rfl) (fun _ _ _ h => h) (by rfl) (by assumption)
        rotate_left
        · intro W hS; (try dsimp only at hS); go_simp; try with_reducible rfl
        simp only [getElem_toArray, getElem_cons_succ, getElem_cons_zero, Act.put, setIfInBounds_toArray, set_cons_zero, set_cons_succ]
        refine tkH 17 (v := ?_) rfl ?_ ?_ (by kernel_rfl) (fun _ _ _ h => h) (by rfl) (by assumption)
        rotate_left
        · intro W hS; (try dsimp only at hS); go_simp; try with_reducible rfl
        simp only [getElem_toArray, getElem_cons_succ, getElem_cons_zero, Act.put, setIfInBounds_toArray, set_cons_zero, set_cons_succ]
        refine wpAnyH_ready (rs := [13]) (by kernel_rfl) (by simp) ?_
        refine AllReadyH.cons rfl (fun K hK => ?_) AllReadyH.nil
        go_simp
        with_reducible refine (HFILES.out _ HB6.out).mono ?_
        rintro e w8 ⟨fa, fc, Sf, rfl, hf8, _, _, _, hSf, hb8⟩
        have HBL8 : Hid (Below wr.heap.size wr w8) := Lib.hid (below_then HB6.out hb8)
        have HF8 := Lib.hid hf8
        clear hf8 hb8 hSf
        rw [List.length_map, HN1.out]
        refine hK.out _ _ (HSC.out _ HBL8.out) (fun hHeld => ?_)
        clear hK K
        try simp only [getElem_toArray, getElem_cons_succ, getElem_cons_zero, Act.put, setIfInBounds_toArray, set_cons_zero, set_cons_succ]
        refine wpAnyH_ready (rs := [18]) (by kernel_rfl) (by simp) ?_
        refine AllReadyH.cons rfl (fun K hK => ?_) AllReadyH.nil
        go_simp
        with_reducible refine (HSAME.out _ _ _ _ _ _ _ _ HF8.out (HLA.out.below HBL8.out) HN1.out).mono ?_
        rintro e w9 ⟨rfl, k9, rfl⟩
        have HBL9 : Hid (Below wr.heap.size wr (w8.drewN k9)) := Lib.hid (below_then HBL8.out (below_drewN w8 k9))
        obtain ⟨wc, hwc⟩ : ∃ W, w8.drewN k9 = W := ⟨_, rfl⟩
        rw [hwc] at HBL9
        try simp only [hwc]
        clear hwc
        refine hK.out _ _ (HSC.out _ HBL9.out) (fun hHeld => ?_)
        clear hK K
        try simp only [getElem_toArray, getElem_cons_succ, getElem_cons_zero, Act.put, setIfInBounds_toArray, set_cons_zero, set_cons_succ]
        refine tkH 19 (v := ?_) rfl ?_ ?_ (by kernel_rfl) (fun _ _ _ h => h) (by rfl) (by assumption)
        rotate_left
        · intro W hS; (try dsimp only at hS); go_simp; try with_reducible rfl
        simp only [getElem_toArray, getElem_cons_succ, getElem_cons_zero, Act.put, setIfInBounds_toArray, set_cons_zero, set_cons_succ]
        refine tkH 20 (v := ?_) rfl ?_ ?_ (by kernel_rfl) (fun _ _ _ h => h) (by rfl) (by assumption)
        rotate_left
        · intro W hS; (try dsimp only at hS); go_simp; try with_reducible rfl
        simp only [getElem_toArray, getElem_cons_succ, getElem_cons_zero, Act.put, setIfInBounds_toArray, set_cons_zero, set_cons_succ]
        refine wpAnyH_done (by kernel_rfl) ?_ _
        clear HFILES HSAME HLA HSC HN1 HF8 HBL8 HB6 HCODE HERR hHeld
        have HPFc := Lib.hid (HPF.out.quiet HBL9.out)
        obtain ⟨sx, hx⟩ : ∃ x, l[i]? = some x := ⟨l[i]'(by rw [HN.out]; exact hlt), List.getElem?_eq_getElem _⟩
        have HXS : Hid (SDoS sx) := Lib.hid (smallS_at HQ.out hx (by omega))
        obtain ⟨xb, xo, dc, rfl, hxb, hdv, p0, p1, p2, p3⟩ := sdos_at HDO.out hx
        have HDV := Lib.hid hdv
        have hbw := HPFc.out.live.bel
        have k0 : wc.cell? ⟨xb, xo + i * 4, none⟩ = some (.int .i64 sx.kind) := (hbw.cell (p := ⟨xb, xo + i * 4, none⟩) hxb).trans p0
        have k1 : wc.cell? ⟨xb, xo + i * 4 + 1, none⟩ = some (.slice dc.ar sx.recs.length dc.cr) := (hbw.cell (p := ⟨xb, xo + i * 4 + 1, none⟩) hxb).trans p1
        have k2 : wc.cell? ⟨xb, xo + i * 4 + 2, none⟩ = some (.slice dc.at_ sx.tails.length dc.ct) := (hbw.cell (p := ⟨xb, xo + i * 4 + 2, none⟩) hxb).trans p2
        have k3 : wc.cell? ⟨xb, xo + i * 4 + 3, none⟩ = some (.slice dc.al sx.list.length dc.cl) := (hbw.cell (p := ⟨xb, xo + i * 4 + 3, none⟩) hxb).trans p3
        obtain ⟨W1, hW1⟩ : ∃ W, wc.alloc (.cells (sdoA sx dc) 56) = W := ⟨_, rfl⟩
        have hpf1 := HPFc.out.beside (w' := W1) (.cells (sdoA sx dc) 56 (0, 0)) (by rw [← hW1]; simp) (by rw [← hW1]; exact (Below.refl _ _).alloc (Nat.le_refl _) _) (by rw [← hW1]; exact heap_alloc_new wc _)
        obtain ⟨F, hFF⟩ : ∃ F, wc.heap.size = F := ⟨_, rfl⟩
        rw [hFF] at hpf1
        obtain ⟨xk, hxk⟩ : ∃ y, sx.kind = y := ⟨_, rfl⟩
        obtain ⟨z1, hz1⟩ : ∃ y, sx.recs.length = y := ⟨_, rfl⟩
        obtain ⟨z3, hz3⟩ : ∃ y, sx.tails.length = y := ⟨_, rfl⟩
        obtain ⟨z4, hz4⟩ : ∃ y, sx.list.length = y := ⟨_, rfl⟩
        have hda : sdoA sx dc = #[.int .i64 xk, .slice dc.ar z1 dc.cr, .slice dc.at_ z3 dc.ct, .slice dc.al z4 dc.cl] := by rw [← hxk, ← hz1, ← hz3, ← hz4]
        rw [hda] at hpf1 hW1
        rw [hxk] at k0
        rw [hz1] at k1
        rw [hz3] at k2
        rw [hz4] at k3
        obtain ⟨CD, hCD⟩ : ∃ C, Obj.cells #[.int .i64 xk, .slice dc.ar z1 dc.cr, .slice dc.at_ z3 dc.ct, .slice dc.al z4 dc.cl] 56 (0, 0) = C := ⟨_, rfl⟩
        rw [hCD] at hpf1
        have HFC : Hid (∀ W : World, W.heap[F]? = some CD → W.cell? ⟨F, 0, none⟩ = some (.int .i64 xk) ∧ W.cell? ⟨F, 1, none⟩ = some (.slice dc.ar z1 dc.cr) ∧ W.cell? ⟨F, 2, none⟩ = some (.slice dc.at_ z3 dc.ct) ∧ W.cell? ⟨F, 3, none⟩ = some (.slice dc.al z4 dc.cl)) := Lib.hid (fun W h => by
          rw [← hCD] at h
          exact ⟨(cell_of_block h 0).trans rfl, (cell_of_block h 1).trans rfl, (cell_of_block h 2).trans rfl, (cell_of_block h 3).trans rfl⟩)
        have HPF1 := Lib.hid hpf1
        have HZ1 := Lib.hid hz1
        have HZ3 := Lib.hid hz3
        have HZ4 := Lib.hid hz4
        obtain ⟨f0, f1, f2, f3⟩ := HFC.out W1 HPF1.out.blk
        clear hxk hz1 hz3 hz4 hda hx hdv p0 p1 p2 p3 hbw hpf1 hCD HPF HPFc HBL9
        by_cases e0 : xk = 0
        · subst e0
          go_wp2
          go_roundg g'
          case measure => omega
          case rel => exact ⟨i + 1, S1, S2, d, none, none, F, CD, 0, by go_num, rfl, rfl, rfl, by have := HG.out; omega, by omega, .inl ⟨rfl, rfl⟩, rfl, HPF1.out, HPS.out.next⟩
        have q0 : (xk == 0) = false := by simpa using e0
        clear e0
        by_cases e1 : xk = 1
        · subst e1
          have hrt : RowT W1 (Was0 w) dc.al sx.list := HDV.out.list.keep (keeps_below HPF1.out.live.bel Non) (fun _ _ h => h)
          have harm := arm_calls dc.al sx.list dc.cl z4 W1 HPF1.out.live.disk hrt HZ4.out (fun k hk => ⟨fun hs => by have h1 := HPF1.out.live.own k hs; have h2 : k < w.heap.size := hk; omega, Nat.lt_of_lt_of_le hk HPF1.out.live.bel.size⟩) (by have h1 := HXS.out.list; have h2 := HZ4.out; omega) HDV.out.wf
          have HARM := Lib.hid harm
          have HRARM : Hid (∀ W S1', PF w W S1' B1 (arm sx.list d) none S2 B2 d none F CD → Calls Tryz.prog 29 #[.pointer (some ⟨B2, 0, none⟩), .slice dc.al z4 dc.cl] W (RArmOut W S2 B2 (arm sx.list d))) := Lib.hid (fun W S1' h => by
            have := rarm_calls dc.al sx.list dc.cl W h.ref (HDV.out.list.keep (keeps_below h.live.bel Non) (fun _ _ h => h)) (by have h1 := HXS.out.list; omega)
            rw [HZ4.out] at this
            exact this)
          clear hrt harm
          go_wp2_with fail
          with_reducible refine HARM.out.mono ?_
          rintro e w4 ⟨rfl, ht4⟩
          obtain ⟨S1a, hpf4⟩ := HPF1.out.turn1 ht4
          have HPF4 := Lib.hid hpf4
          obtain ⟨j0, j1, j2, j3⟩ := HFC.out w4 hpf4.blk
          clear ht4 hpf4 HARM HPF1 f0 f1 f2 f3
          go_wp2_with fail
          with_reducible refine (HRARM.out _ _ HPF4.out).mono ?_
          rintro e w5 ⟨rfl, ht5⟩
          obtain ⟨S2a, hpf5⟩ := HPF4.out.turn2 ht5
          have HPF5 := Lib.hid hpf5
          clear ht5 hpf5 HRARM HPF4
          go_wp2
          go_roundg g'
          case measure => omega
          case rel => exact ⟨i + 1, S1a, S2a, arm sx.list d, none, none, F, CD, 0, by go_num, rfl, rfl, rfl, by have := HG.out; omega, by omega, .inl ⟨rfl, rfl⟩, rfl, HPF5.out, HPS.out.arm HXS.out.list⟩
        have q1 : (xk == 1) = false := by simpa using e1
        clear e1
        by_cases e2 : xk = 2
        · subst e2
          have hcr := crash_calls dc.at_ sx.tails dc.ct z3 W1 HPF1.out.live.disk HUSED.out (HDV.out.tails.keep (keeps_below HPF1.out.live.bel Non) (fun _ _ h => h)) HZ3.out (fun k hk hs => by have h1 := HPF1.out.live.own k hs; have h2 : k < w.heap.size := hk; omega) (by have h1 := HDV.out.lt; have h2 := HZ3.out; omega) (by have h1 := HXS.out.tails; have h2 := HZ3.out; omega)
          have HCRA := Lib.hid hcr
          have HRCR : Hid (∀ W S1', PF w W S1' B1 (crash sx.tails d) none S2 B2 d none F CD → Calls Tryz.prog 31 #[.pointer (some ⟨B2, 0, none⟩), .slice dc.at_ z3 dc.ct] W (RCrashOut W S2 B2 (crash sx.tails d))) := Lib.hid (fun W S1' h =>
            rcrash_calls dc.at_ sx.tails dc.ct z3 W h.ref HUSED.out (HDV.out.tails.keep (keeps_below h.live.bel Non) (fun _ _ h => h)) HZ3.out (fun k hk hs => by have h1 := h.own k hs; have h2 : k < w.heap.size := hk; omega) (by have h1 := HDV.out.lt; have h2 := HZ3.out; omega) (by have h1 := HXS.out.tails; have h2 := HZ3.out; omega))
          clear hcr
          go_wp2_with fail
          with_reducible refine HCRA.out.mono ?_
          rintro e w3 ⟨rfl, ht3⟩
          obtain ⟨S1a, hpf3⟩ := HPF1.out.turn1 ht3
          have HPF3 := Lib.hid hpf3
          obtain ⟨j0, j1, j2, j3⟩ := HFC.out w3 hpf3.blk
          clear ht3 hpf3 HCRA HPF1 f0 f1 f2 f3
          go_wp2_with fail
          with_reducible refine (HRCR.out _ _ HPF3.out).mono ?_
          rintro e w4 ⟨rfl, ht4⟩
          obtain ⟨S2a, hpf4⟩ := HPF3.out.turn2 ht4
          have HPF4 := Lib.hid hpf4
          have HPS4 := Lib.hid (HPS.out.crash sx.tails)
          clear ht4 hpf4 HRCR HPF3 HPS HUSED
          have HS2L : Hid (∀ k, S2a k → k < w4.heap.size) := Lib.hid HPF4.out.ref.2.1
          have hop := sopen_calls (n := 3) HPF4.out.live HTAB.out HPS4.out.few (by omega) (by omega)
          have HROP : Hid (∀ W S1' d' x', PF w W S1' B1 d' x' S2a B2 (crash sx.tails d) none F CD → Calls Tryz.prog 33 #[.pointer (some ⟨B2, 0, none⟩), .int .i64 3, .bool true] W (ROOut W S2a B2 3 (openB (crash sx.tails d) 3).1 (openB (crash sx.tails d) 3).2.2.1 (openB (crash sx.tails d) 3).2.2.2 (if (openB (crash sx.tails d) 3).1 = 0 then some ⟨(openB (crash sx.tails d) 3).2.1, false⟩ else none))) :=
            Lib.hid (fun W S1' d' x' h => ropen_calls h.ref HPS4.out.few (by omega) (by omega) (by have := HPS4.out.tr; omega))
          have HBD := Lib.hid (open_bounds (crash sx.tails d) 3)
          have HUS : Hid (used (crash sx.tails d).L ≤ 1073741824) := Lib.hid (by have := HPS4.out.few.used; omega)
          have hpo := HPS4.out.open_
          obtain ⟨A, hA⟩ : ∃ A, openB (crash sx.tails d) 3 = A := ⟨_, rfl⟩
          rw [hA] at hop HROP HBD hpo
          obtain ⟨cO, sO, RO, dO⟩ := A
          dsimp only at hop HROP HBD hpo
          obtain ⟨gO, hgO⟩ : ∃ g : Option Sg, (if cO = 0 then some (⟨sO, false⟩ : Sg) else none) = g := ⟨_, rfl⟩
          rw [hgO] at hop HROP hpo
          have HOP := Lib.hid hop
          have HPSO := Lib.hid hpo
          clear hop hpo hA hgO
          go_wp2_with fail
          with_reducible refine HOP.out.mono ?_
          rintro e w5 ⟨v5, ev5, a5, c5, SR5, rfl, herr5, hst5, hr5, hSR5, hn5, hlc5, hcm5⟩
          obtain ⟨S1o, x5, rfl, hx5, hpf5⟩ := HPF4.out.open1 hst5
          have HPF5 := Lib.hid hpf5
          have HX5 := Lib.hid hx5
          have HERR5 := Lib.hid herr5
          have HR5 := Lib.hid hr5
          have HSR5 := Lib.hid hSR5
          obtain ⟨m, hm⟩ : ∃ m, RO.length = m := ⟨_, rfl⟩
          have HM := Lib.hid hm
          rw [hm]
          clear hst5 hx5 hpf5 herr5 hr5 hSR5 hn5 hlc5 hcm5 hm HPF4 HOP
          go_wp2_with fail
          with_reducible refine (HROP.out _ _ _ _ HPF5.out).mono ?_
          rintro e w6 ⟨v6, a6, c6, SR6, rfl, hst6, hr6, hSR6, hn6, hlc6, hcm6⟩
          have hk6 := hst6
          obtain ⟨_, _, _, hk6, _⟩ := hk6
          have HERR6 : Hid (ErrAt 0 w6 cO 3 ev5) := Lib.hid ((HERR5.out.keep hk6 HS2L.out).low (Nat.zero_le _))
          have hrk : Recs w6 SR5 a5 RO := HR5.out.keep hk6 (fun k e hs => by have h1 := HS2L.out k hs; have h2 := (HSR5.out k e).1; omega)
          have hrec := records_calls a5 a6 RO RO c5 c6 m m w6 hrk hr6 HM.out HM.out (by have h1 := HBD.out.1; have h2 := HUS.out; have h3 := HM.out; omega) (by have h1 := HBD.out.1; have h2 := HUS.out; have h3 := HM.out; omega) (fun f hf => Nat.le_trans (HBD.out.2 f hf) HUS.out) (fun f hf => Nat.le_trans (HBD.out.2 f hf) HUS.out)
          rw [decide_eq_true rfl] at hrec
          have HREC := Lib.hid hrec
          obtain ⟨S2o, y6, rfl, hy6, hpf6⟩ := HPF5.out.open2 hst6
          have HPF6 := Lib.hid hpf6
          have HXY6 : Hid (x5.map (·.2) = y6.map (·.2)) := Lib.hid (HX5.out.trans hy6.symm)
          rw [← HX5.out] at HPSO
          rw [HM.out]
          obtain ⟨xw, hxw⟩ : ∃ v, ptrV x5 = v := ⟨_, rfl⟩
          obtain ⟨yw, hyw⟩ : ∃ v, ptrV y6 = v := ⟨_, rfl⟩
          rw [hyw]
          try rw [hxw]
          skip
          have HXW := Lib.hid hxw.symm
          have HYW := Lib.hid hyw.symm
          clear hk6 hrk hrec hy6 hpf6 hst6 hr6 hSR6 hn6 hlc6 hcm6 HROP HPF5 HERR5 HR5 HSR5 HS2L HX5 hxw hyw
          go_wp2_with fail
          with_reducible refine HREC.out.mono ?_
          rintro e w7 ⟨rfl, k7, rfl⟩
          clear HREC
          go_wp2
          go_roundg g'
          case measure => omega
          case rel => exact ⟨i + 1, S1o, S2o, dO, x5, y6, F, CD, cO, by go_num, rfl, HXW.out, HYW.out, by have := HG.out; omega, by omega, HERR6.out.below (below_drewN w6 k7), HXY6.out, HPF6.out.quiet (below_drewN w6 k7), HPSO.out⟩
        have q2 : (xk == 2) = false := by simpa using e2
        clear e2
        have HS2L : Hid (∀ k, S2 k → k < W1.heap.size) := Lib.hid HPF1.out.ref.2.1
        have hop := sopen_calls (n := 3) HPF1.out.live HTAB.out HPS.out.few (by omega) (by omega)
        have HROP : Hid (∀ W S1' d' x', PF w W S1' B1 d' x' S2 B2 d none F CD → Calls Tryz.prog 33 #[.pointer (some ⟨B2, 0, none⟩), .int .i64 3, .bool true] W (ROOut W S2 B2 3 (openB d 3).1 (openB d 3).2.2.1 (openB d 3).2.2.2 (if (openB d 3).1 = 0 then some ⟨(openB d 3).2.1, false⟩ else none))) :=
          Lib.hid (fun W S1' d' x' h => ropen_calls h.ref HPS.out.few (by omega) (by omega) (by have := HPS.out.tr; omega))
        have HBD := Lib.hid (open_bounds d 3)
        have HUS : Hid (used d.L ≤ 1073741824) := Lib.hid (by have := HPS.out.few.used; omega)
        have hpo := HPS.out.open_
        obtain ⟨A, hA⟩ : ∃ A, openB d 3 = A := ⟨_, rfl⟩
        rw [hA] at hop HROP HBD hpo
        obtain ⟨cO, sO, RO, dO⟩ := A
        dsimp only at hop HROP HBD hpo
        obtain ⟨gO, hgO⟩ : ∃ g : Option Sg, (if cO = 0 then some (⟨sO, false⟩ : Sg) else none) = g := ⟨_, rfl⟩
        rw [hgO] at hop HROP hpo
        have HOP := Lib.hid hop
        have HPSO := Lib.hid hpo
        clear hop hpo hA hgO
        go_wp2_with fail
        with_reducible refine HOP.out.mono ?_
        rintro e w5 ⟨v5, ev5, a5, c5, SR5, rfl, herr5, hst5, hr5, hSR5, hn5, hlc5, hcm5⟩
        obtain ⟨S1o, x5, rfl, hx5, hpf5⟩ := HPF1.out.open1 hst5
        have HPF5 := Lib.hid hpf5
        have HX5 := Lib.hid hx5
        have HERR5 := Lib.hid herr5
        have HR5 := Lib.hid hr5
        have HSR5 := Lib.hid hSR5
        obtain ⟨m, hm⟩ : ∃ m, RO.length = m := ⟨_, rfl⟩
        have HM := Lib.hid hm
        rw [hm]
        clear hst5 hx5 hpf5 herr5 hr5 hSR5 hn5 hlc5 hcm5 hm HPF1 HOP
        go_wp2_with fail
        with_reducible refine (HROP.out _ _ _ _ HPF5.out).mono ?_
        rintro e w6 ⟨v6, a6, c6, SR6, rfl, hst6, hr6, hSR6, hn6, hlc6, hcm6⟩
        have hk6 := hst6
        obtain ⟨_, _, _, hk6, _⟩ := hk6
        have HERR6 : Hid (ErrAt 0 w6 cO 3 ev5) := Lib.hid ((HERR5.out.keep hk6 HS2L.out).low (Nat.zero_le _))
        have hrk : Recs w6 SR5 a5 RO := HR5.out.keep hk6 (fun k e hs => by have h1 := HS2L.out k hs; have h2 := (HSR5.out k e).1; omega)
        have hrec := records_calls a5 a6 RO RO c5 c6 m m w6 hrk hr6 HM.out HM.out (by have h1 := HBD.out.1; have h2 := HUS.out; have h3 := HM.out; omega) (by have h1 := HBD.out.1; have h2 := HUS.out; have h3 := HM.out; omega) (fun f hf => Nat.le_trans (HBD.out.2 f hf) HUS.out) (fun f hf => Nat.le_trans (HBD.out.2 f hf) HUS.out)
        rw [decide_eq_true rfl] at hrec
        have HREC := Lib.hid hrec
        obtain ⟨S2o, y6, rfl, hy6, hpf6⟩ := HPF5.out.open2 hst6
        have HPF6 := Lib.hid hpf6
        have HXY6 : Hid (x5.map (·.2) = y6.map (·.2)) := Lib.hid (HX5.out.trans hy6.symm)
        rw [← HX5.out] at HPSO
        rw [HM.out]
        obtain ⟨xw, hxw⟩ : ∃ v, ptrV x5 = v := ⟨_, rfl⟩
        obtain ⟨yw, hyw⟩ : ∃ v, ptrV y6 = v := ⟨_, rfl⟩
        rw [hyw]
        try rw [hxw]
        skip
        have HXW := Lib.hid hxw.symm
        have HYW := Lib.hid hyw.symm
        clear hk6 hrk hrec hy6 hpf6 hst6 hr6 hSR6 hn6 hlc6 hcm6 HROP HPF5 HERR5 HR5 HSR5 HS2L HX5 hxw hyw
        go_wp2_with fail
        with_reducible refine HREC.out.mono ?_
        rintro e w7 ⟨rfl, k7, rfl⟩
        clear HREC
        go_wp2
        go_roundg g'
        case measure => omega
        case rel => exact ⟨i + 1, S1o, S2o, dO, x5, y6, F, CD, cO, by go_num, rfl, HXW.out, HYW.out, by have := HG.out; omega, by omega, HERR6.out.below (below_drewN w6 k7), HXY6.out, HPF6.out.quiet (below_drewN w6 k7), HPSO.out⟩
      · obtain rfl := hxv
        obtain rfl := hyv
        clear hxy
        dsimp only [ptrV]
        go_wp2
        refine wp_region_held_drew (S := fun W => W.cell? ⟨B2, 1, none⟩ = some (.slice la n1 lc)) (by kernel_rfl) (HSC.out _ (below_drewN wr 1)) (fun hHeld => ?_)
        refine tkH 0 (v := ?_) rfl ?_ ?_ (by kernel_rfl) (fun _ _ _ h => h) (by rfl) (by assumption)
        rotate_left
        · intro W hS; (try dsimp only at hS); go_simp; try with_reducible rfl
        simp only [getElem_toArray, getElem_cons_zero, Act.put, setIfInBounds_toArray, set_cons_zero, set_cons_succ]
        refine tkH 2 (v := ?_) rfl ?_ ?_ (by kernel_rfl) (fun _ _ _ h => h) (by rfl) (by assumption)
        rotate_left
        · intro W hS; (try dsimp only at hS); go_simp; try with_reducible rfl
        simp only [getElem_toArray, getElem_cons_succ, getElem_cons_zero, Act.put, setIfInBounds_toArray, set_cons_zero, set_cons_succ]
        refine wpAnyH_ready (rs := [1]) (by kernel_rfl) (by simp) ?_
        refine AllReadyH.cons rfl (fun K hK => ?_) AllReadyH.nil
        go_simp
        with_reducible refine (HCODE.out).mono ?_
        rintro e w6 ⟨rfl, hb6⟩
        have HB6 : Hid (Below wr.heap.size wr w6) := Lib.hid (below_then (below_drewN wr 1) hb6)
        clear hb6
        refine hK.out _ _ (HSC.out _ HB6.out) (fun hHeld => ?_)
        clear hK K
        try simp only [getElem_toArray, getElem_cons_succ, getElem_cons_zero, Act.put, setIfInBounds_toArray, set_cons_zero, set_cons_succ]
        refine tkH 3 (v := ?_) rfl ?_ ?_ (by kernel_rfl) (fun _ _ _ h => h) (by rfl) (by assumption)
        rotate_left
        · intro W hS; (try dsimp only at hS); go_simp; try with_reducible rfl
        simp only [getElem_toArray, getElem_cons_succ, getElem_cons_zero, Act.put, setIfInBounds_toArray, set_cons_zero, set_cons_succ]
        refine tkH 4 (v := ?_) rfl ?_ ?_ (by kernel_rfl) (fun _ _ _ h => h) (by rfl) (by assumption)
        rotate_left
        · intro W hS; (try dsimp only at hS); go_simp; try with_reducible rfl
        simp only [getElem_toArray, getElem_cons_succ, getElem_cons_zero, Act.put, setIfInBounds_toArray, set_cons_zero, set_cons_succ]
        refine tkH 5 (v := ?_) rfl ?_ ?_ (by kernel_rfl) (fun _ _ _ h => h) (by rfl) (by assumption)
        rotate_left
        · intro W hS; (try dsimp only at hS); go_simp; try with_reducible rfl
        simp only [getElem_toArray, getElem_cons_succ, getElem_cons_zero, Act.put, setIfInBounds_toArray, set_cons_zero, set_cons_succ]
        refine tkH 6 (v := ?_) rfl ?_ ?_ (by kernel_rfl) (fun _ _ _ h => h) (by rfl) (by assumption)
        rotate_left
        · intro W hS; (try dsimp only at hS); go_simp; try with_reducible rfl
        simp only [getElem_toArray, getElem_cons_succ, getElem_cons_zero, Act.put, setIfInBounds_toArray, set_cons_zero, set_cons_succ]
        refine tkH 7 (v := ?_) rfl ?_ ?_ (by kernel_rfl) (fun _ _ _ h => h) (by rfl) (by assumption)
        rotate_left
        · intro W hS; (try dsimp only at hS); go_simp; try with_reducible rfl
        simp only [getElem_toArray, getElem_cons_succ, getElem_cons_zero, Act.put, setIfInBounds_toArray, set_cons_zero, set_cons_succ]
        refine tkH 8 (v := ?_) rfl ?_ ?_ (by kernel_rfl) (fun _ _ _ h => h) (by rfl) (by assumption)
        rotate_left
        · intro W hS; (try dsimp only at hS); go_simp; try with_reducible rfl
        simp only [getElem_toArray, getElem_cons_succ, getElem_cons_zero, Act.put, setIfInBounds_toArray, set_cons_zero, set_cons_succ]
        refine tkH 9 (v := ?_) rfl ?_ ?_ (by kernel_rfl) (fun _ _ _ h => h) (by rfl) (by assumption)
        rotate_left
        · intro W hS; (try dsimp only at hS); go_simp; try with_reducible rfl
        simp only [getElem_toArray, getElem_cons_succ, getElem_cons_zero, Act.put, setIfInBounds_toArray, set_cons_zero, set_cons_succ]
        refine tkH 10 (v := ?_) rfl ?_ ?_ (by kernel_rfl) (fun _ _ _ h => h) (by rfl) (by assumption)
        rotate_left
        · intro W hS; (try dsimp only at hS); go_simp; try with_reducible rfl
        simp only [getElem_toArray, getElem_cons_succ, getElem_cons_zero, Act.put, setIfInBounds_toArray, set_cons_zero, set_cons_succ]
        refine tkH 11 (v := ?_) rfl ?_ ?_ (by kernel_rfl) (fun _ _ _ h => h) (by rfl) (by assumption)
        rotate_left
        · intro W hS; (try dsimp only at hS); go_simp; try with_reducible rfl
        simp only [getElem_toArray, getElem_cons_succ, getElem_cons_zero, Act.put, setIfInBounds_toArray, set_cons_zero, set_cons_succ]
        refine tkH 12 (v := ?_) rfl ?_ ?_ (by kernel_rfl) (fun _ _ _ h => h) (by rfl) (by assumption)
        rotate_left
        · intro W hS; (try dsimp only at hS); go_simp; try with_reducible rfl
        simp only [getElem_toArray, getElem_cons_succ, getElem_cons_zero, Act.put, setIfInBounds_toArray, set_cons_zero, set_cons_succ]
        refine tkH 14 (v := ?_) rfl ?_ ?_ (by kernel_rfl) (fun _ _ _ h => h) (by rfl) (by assumption)
        rotate_left
        · intro W hS; (try dsimp only at hS); go_simp; try with_reducible rfl
        simp only [getElem_toArray, getElem_cons_succ, getElem_cons_zero, Act.put, setIfInBounds_toArray, set_cons_zero, set_cons_succ]
        refine tkH 15 (v := ?_) rfl ?_ ?_ (by kernel_rfl) (fun _ _ _ h => h) (by rfl) (by assumption)
        rotate_left
        · intro W hS; (try dsimp only at hS); go_simp; try with_reducible rfl
        simp only [getElem_toArray, getElem_cons_succ, getElem_cons_zero, Act.put, setIfInBounds_toArray, set_cons_zero, set_cons_succ]
        refine tkH 16 (v := ?_) rfl ?_ ?_ (by kernel_rfl) (fun _ _ _ h => h) (by rfl) (by assumption)
        rotate_left
        · intro W hS; (try dsimp only at hS); go_simp; try with_reducible rfl
        simp only [getElem_toArray, getElem_cons_succ, getElem_cons_zero, Act.put, setIfInBounds_toArray, set_cons_zero, set_cons_succ]
        refine tkH 17 (v := ?_) rfl ?_ ?_ (by kernel_rfl) (fun _ _ _ h => h) (by rfl) (by assumption)
        rotate_left
        · intro W hS; (try dsimp only at hS); go_simp; try with_reducible rfl
        simp only [getElem_toArray, getElem_cons_succ, getElem_cons_zero, Act.put, setIfInBounds_toArray, set_cons_zero, set_cons_succ]
        refine wpAnyH_ready (rs := [13]) (by kernel_rfl) (by simp) ?_
        refine AllReadyH.cons rfl (fun K hK => ?_) AllReadyH.nil
        go_simp
        with_reducible refine (HFILES.out _ HB6.out).mono ?_
        rintro e w8 ⟨fa, fc, Sf, rfl, hf8, _, _, _, hSf, hb8⟩
        have HBL8 : Hid (Below wr.heap.size wr w8) := Lib.hid (below_then HB6.out hb8)
        have HF8 := Lib.hid hf8
        clear hf8 hb8 hSf
        rw [List.length_map, HN1.out]
        refine hK.out _ _ (HSC.out _ HBL8.out) (fun hHeld => ?_)
        clear hK K
        try simp only [getElem_toArray, getElem_cons_succ, getElem_cons_zero, Act.put, setIfInBounds_toArray, set_cons_zero, set_cons_succ]
        refine wpAnyH_ready (rs := [18]) (by kernel_rfl) (by simp) ?_
        refine AllReadyH.cons rfl (fun K hK => ?_) AllReadyH.nil
        go_simp
        with_reducible refine (HSAME.out _ _ _ _ _ _ _ _ HF8.out (HLA.out.below HBL8.out) HN1.out).mono ?_
        rintro e w9 ⟨rfl, k9, rfl⟩
        have HBL9 : Hid (Below wr.heap.size wr (w8.drewN k9)) := Lib.hid (below_then HBL8.out (below_drewN w8 k9))
        obtain ⟨wc, hwc⟩ : ∃ W, w8.drewN k9 = W := ⟨_, rfl⟩
        rw [hwc] at HBL9
        try simp only [hwc]
        clear hwc
        refine hK.out _ _ (HSC.out _ HBL9.out) (fun hHeld => ?_)
        clear hK K
        try simp only [getElem_toArray, getElem_cons_succ, getElem_cons_zero, Act.put, setIfInBounds_toArray, set_cons_zero, set_cons_succ]
        refine tkH 19 (v := ?_) rfl ?_ ?_ (by kernel_rfl) (fun _ _ _ h => h) (by rfl) (by assumption)
        rotate_left
        · intro W hS; (try dsimp only at hS); go_simp; try with_reducible rfl
        simp only [getElem_toArray, getElem_cons_succ, getElem_cons_zero, Act.put, setIfInBounds_toArray, set_cons_zero, set_cons_succ]
        refine tkH 20 (v := ?_) rfl ?_ ?_ (by kernel_rfl) (fun _ _ _ h => h) (by rfl) (by assumption)
        rotate_left
        · intro W hS; (try dsimp only at hS); go_simp; try with_reducible rfl
        simp only [getElem_toArray, getElem_cons_succ, getElem_cons_zero, Act.put, setIfInBounds_toArray, set_cons_zero, set_cons_succ]
        refine wpAnyH_done (by kernel_rfl) ?_ _
        clear HFILES HSAME HLA HSC HN1 HF8 HBL8 HB6 HCODE HERR hHeld
        have HPFc := Lib.hid (HPF.out.quiet HBL9.out)
        obtain ⟨sx, hx⟩ : ∃ x, l[i]? = some x := ⟨l[i]'(by rw [HN.out]; exact hlt), List.getElem?_eq_getElem _⟩
        have HXS : Hid (SDoS sx) := Lib.hid (smallS_at HQ.out hx (by omega))
        obtain ⟨xb, xo, dc, rfl, hxb, hdv, p0, p1, p2, p3⟩ := sdos_at HDO.out hx
        have HDV := Lib.hid hdv
        have hbw := HPFc.out.live.bel
        have k0 : wc.cell? ⟨xb, xo + i * 4, none⟩ = some (.int .i64 sx.kind) := (hbw.cell (p := ⟨xb, xo + i * 4, none⟩) hxb).trans p0
        have k1 : wc.cell? ⟨xb, xo + i * 4 + 1, none⟩ = some (.slice dc.ar sx.recs.length dc.cr) := (hbw.cell (p := ⟨xb, xo + i * 4 + 1, none⟩) hxb).trans p1
        have k2 : wc.cell? ⟨xb, xo + i * 4 + 2, none⟩ = some (.slice dc.at_ sx.tails.length dc.ct) := (hbw.cell (p := ⟨xb, xo + i * 4 + 2, none⟩) hxb).trans p2
        have k3 : wc.cell? ⟨xb, xo + i * 4 + 3, none⟩ = some (.slice dc.al sx.list.length dc.cl) := (hbw.cell (p := ⟨xb, xo + i * 4 + 3, none⟩) hxb).trans p3
        obtain ⟨W1, hW1⟩ : ∃ W, wc.alloc (.cells (sdoA sx dc) 56) = W := ⟨_, rfl⟩
        have hpf1 := HPFc.out.beside (w' := W1) (.cells (sdoA sx dc) 56 (0, 0)) (by rw [← hW1]; simp) (by rw [← hW1]; exact (Below.refl _ _).alloc (Nat.le_refl _) _) (by rw [← hW1]; exact heap_alloc_new wc _)
        obtain ⟨F, hFF⟩ : ∃ F, wc.heap.size = F := ⟨_, rfl⟩
        rw [hFF] at hpf1
        obtain ⟨xk, hxk⟩ : ∃ y, sx.kind = y := ⟨_, rfl⟩
        obtain ⟨z1, hz1⟩ : ∃ y, sx.recs.length = y := ⟨_, rfl⟩
        obtain ⟨z3, hz3⟩ : ∃ y, sx.tails.length = y := ⟨_, rfl⟩
        obtain ⟨z4, hz4⟩ : ∃ y, sx.list.length = y := ⟨_, rfl⟩
        have hda : sdoA sx dc = #[.int .i64 xk, .slice dc.ar z1 dc.cr, .slice dc.at_ z3 dc.ct, .slice dc.al z4 dc.cl] := by rw [← hxk, ← hz1, ← hz3, ← hz4]
        rw [hda] at hpf1 hW1
        rw [hxk] at k0
        rw [hz1] at k1
        rw [hz3] at k2
        rw [hz4] at k3
        obtain ⟨CD, hCD⟩ : ∃ C, Obj.cells #[.int .i64 xk, .slice dc.ar z1 dc.cr, .slice dc.at_ z3 dc.ct, .slice dc.al z4 dc.cl] 56 (0, 0) = C := ⟨_, rfl⟩
        rw [hCD] at hpf1
        have HFC : Hid (∀ W : World, W.heap[F]? = some CD → W.cell? ⟨F, 0, none⟩ = some (.int .i64 xk) ∧ W.cell? ⟨F, 1, none⟩ = some (.slice dc.ar z1 dc.cr) ∧ W.cell? ⟨F, 2, none⟩ = some (.slice dc.at_ z3 dc.ct) ∧ W.cell? ⟨F, 3, none⟩ = some (.slice dc.al z4 dc.cl)) := Lib.hid (fun W h => by
          rw [← hCD] at h
          exact ⟨(cell_of_block h 0).trans rfl, (cell_of_block h 1).trans rfl, (cell_of_block h 2).trans rfl, (cell_of_block h 3).trans rfl⟩)
        have HPF1 := Lib.hid hpf1
        have HZ1 := Lib.hid hz1
        have HZ3 := Lib.hid hz3
        have HZ4 := Lib.hid hz4
        obtain ⟨f0, f1, f2, f3⟩ := HFC.out W1 HPF1.out.blk
        clear hxk hz1 hz3 hz4 hda hx hdv p0 p1 p2 p3 hbw hpf1 hCD HPF HPFc HBL9
        by_cases e0 : xk = 0
        · subst e0
          obtain ⟨z, sk⟩ := g
          have HRC : Hid (∀ W, Below w.heap.size w W → Recs W (Was0 w) dc.ar sx.recs) := Lib.hid (fun W hb => HDV.out.recs.keep (keeps_below hb Non) (fun _ _ h => h))
          have HBY : Hid (∀ r ∈ sx.recs, Byts r) := Lib.hid (fun r hr => by
            obtain ⟨j, hj⟩ := List.mem_iff_getElem?.1 hr
            obtain ⟨_, _, _, _, _, _, _, h, _⟩ := recs_at HDV.out.recs hj
            exact h.1)
          have HSZ : Hid (z ≠ 0 ∧ z ≤ 1099511627776) := Lib.hid (by obtain ⟨h1, h2⟩ := HPS.out.siz _ rfl; exact ⟨h1, by dsimp only at h2; omega⟩)
          have HBB := Lib.hid (HPF1.out.xs b1 _ rfl)
          have happ := sappend_calls dc.ar sx.recs dc.cr z1 HPF1.out.live HTAB.out HBB.out.1 HBB.out.2.2.1 HBB.out.2.1 HPS.out.few (by have h1 := HXS.out.recs; have h2 := HXS.out.tot; have h3 := HZ1.out; omega) (by omega) (HRC.out _ HPF1.out.live.bel) HZ1.out HSZ.out.2
          have HRAP : Hid (∀ W S1' d' x', PF w W S1' B1 d' x' S2 B2 d (some (b2, ⟨z, sk⟩)) F CD → Calls Tryz.prog 24 #[.pointer (some ⟨b2, 0, none⟩), .slice dc.ar z1 dc.cr] W (RAOut W S2 b2 B2 3 (appendB d 3 ⟨z, sk⟩ sx.recs).1 (appendB d 3 ⟨z, sk⟩ sx.recs).2.2 (appendB d 3 ⟨z, sk⟩ sx.recs).2.1)) := Lib.hid (fun W S1' d' x' h =>
            rappend_calls dc.ar sx.recs dc.cr z1 h.ref (h.ys b2 _ rfl).1 (h.ys b2 _ rfl).2.2.2 HSZ.out.1 HPS.out.few (by omega) (by have h1 := HXS.out.recs; have h2 := HXS.out.tot; have h3 := HZ1.out; omega) (by omega) (by have := HPS.out.tr; omega) (HRC.out _ h.live.bel) HZ1.out HSZ.out.2)
          have hpa := HPS.out.append HBY.out HXS.out.recs HXS.out.tot
          have HS2L : Hid (∀ k, S2 k ∨ k = b2 → k < W1.heap.size) := Lib.hid (fun k e => by
            rcases e with e | rfl
            · exact HPF1.out.ref.2.1 k e
            · exact lt_of_block (HPF1.out.ys k _ rfl).1)
          obtain ⟨A, hA⟩ : ∃ A, appendB d 3 ⟨z, sk⟩ sx.recs = A := ⟨_, rfl⟩
          rw [hA] at happ HRAP hpa
          obtain ⟨cA, gA, dA⟩ := A
          dsimp only at happ HRAP hpa
          have HAPP := Lib.hid happ
          have HPSA := Lib.hid hpa
          clear happ hpa hA HBY HBB
          go_wp2_with fail
          with_reducible refine HAPP.out.mono ?_
          rintro e w5 ⟨ev5, rfl, herr5, hw5⟩
          obtain ⟨S1a, hpf5⟩ := HPF1.out.app1 hw5
          have HPF5 := Lib.hid hpf5
          have HERR5 := Lib.hid herr5
          obtain ⟨j0, j1, j2, j3⟩ := HFC.out w5 hpf5.blk
          clear hw5 hpf5 herr5 HAPP HPF1 f0 f1 f2 f3
          go_wp2_with fail
          with_reducible refine (HRAP.out _ _ _ _ HPF5.out).mono ?_
          rintro e w6 ⟨rfl, hw6⟩
          have hk6 := hw6
          obtain ⟨_, _, _, _, _, hk6⟩ := hk6
          have HERR6 : Hid (ErrAt 0 w6 cA 3 ev5) := Lib.hid ((HERR5.out.keep hk6 HS2L.out).low (Nat.zero_le _))
          obtain ⟨S2a, hpf6⟩ := HPF5.out.app2 hw6
          have HPF6 := Lib.hid hpf6
          obtain ⟨zA, sA⟩ := gA
          have HSG : Hid (w6.cell? ⟨b2, 2, none⟩ = some (.int .i64 (zA : Int)) ∧ w6.cell? ⟨b2, 3, none⟩ = some (.bool sA)) := Lib.hid ⟨(hpf6.ys b2 _ rfl).1.c2, (hpf6.ys b2 _ rfl).1.c3⟩
          have HGA := Lib.hid (hpf6.xs b1 _ rfl).1
          clear hw6 hk6 hpf6 HRAP HPF5 HERR5 HS2L HSZ HRC j0 j1 j2 j3
          go_wp2
          have HSD : Hid (w6.drew.cell? ⟨b2, 2, none⟩ = some (.int .i64 (zA : Int)) ∧ w6.drew.cell? ⟨b2, 3, none⟩ = some (.bool sA)) := Lib.hid HSG.out
          have HGD6 : Hid (SegAt w6.drew b1 B1 3 ⟨zA, sA⟩) := Lib.hid HGA.out
          refine wp_region_held_drew (S := fun W => W.cell? ⟨b2, 2, none⟩ = some (.int .i64 (zA : Int)) ∧ W.cell? ⟨b2, 3, none⟩ = some (.bool sA)) (by kernel_rfl) HSD.out (fun hHeld => ?_)
          refine tkH 0 (v := ?_) rfl ?_ ?_ (by kernel_rfl) (fun _ _ _ h => h) (by rfl) (by assumption)
          rotate_left
          · intro W hS; (try dsimp only at hS); go_simp; try with_reducible rfl
          simp only [getElem_toArray, getElem_cons_zero, Act.put, setIfInBounds_toArray, set_cons_zero, set_cons_succ]
          refine tkH 2 (v := ?_) rfl ?_ ?_ (by kernel_rfl) (fun _ _ _ h => h) (by rfl) (by assumption)
          rotate_left
          · intro W hS; (try dsimp only at hS); go_simp; try with_reducible rfl
          simp only [getElem_toArray, getElem_cons_succ, getElem_cons_zero, Act.put, setIfInBounds_toArray, set_cons_zero, set_cons_succ]
          refine tkH 3 (v := ?_) rfl ?_ ?_ (by kernel_rfl) (fun _ _ _ h => h) (by rfl) (by assumption)
          rotate_left
          · intro W hS; (try dsimp only at hS); go_simp; try with_reducible rfl
          simp only [getElem_toArray, getElem_cons_succ, getElem_cons_zero, Act.put, setIfInBounds_toArray, set_cons_zero, set_cons_succ]
          refine tkH 4 (v := ?_) rfl ?_ ?_ (by kernel_rfl) (fun _ _ _ h => h) (by rfl) (by assumption)
          rotate_left
          · intro W hS; (try dsimp only at hS); go_simp; try with_reducible rfl
          simp only [getElem_toArray, getElem_cons_succ, getElem_cons_zero, Act.put, setIfInBounds_toArray, set_cons_zero, set_cons_succ]
          refine tkH 5 (v := ?_) rfl ?_ ?_ (by kernel_rfl) (fun _ _ _ h => h) (by rfl) (by assumption)
          rotate_left
          · intro W hS; (try dsimp only at hS); go_simp; try with_reducible rfl
          simp only [getElem_toArray, getElem_cons_succ, getElem_cons_zero, Act.put, setIfInBounds_toArray, set_cons_zero, set_cons_succ]
          refine wpAnyH_ready (rs := [1]) (by kernel_rfl) (by simp) ?_
          refine AllReadyH.cons rfl (fun K hK => ?_) AllReadyH.nil
          go_simp
          with_reducible refine ((ssize_calls HGD6.out)).mono ?_
          rintro e wq ⟨rfl, rfl⟩
          try dsimp only
          refine hK.out _ _ HSD.out (fun hHeld => ?_)
          clear hK K
          try simp only [getElem_toArray, getElem_cons_succ, getElem_cons_zero, Act.put, setIfInBounds_toArray, set_cons_zero, set_cons_succ]
          refine tkH 6 (v := ?_) rfl ?_ ?_ (by kernel_rfl) (fun _ _ _ h => h) (by rfl) (by assumption)
          rotate_left
          · intro W hS; (try dsimp only at hS); go_simp; try with_reducible rfl
          simp only [getElem_toArray, getElem_cons_succ, getElem_cons_zero, Act.put, setIfInBounds_toArray, set_cons_zero, set_cons_succ]
          refine tkH 7 (v := ?_) rfl ?_ ?_ (by kernel_rfl) (fun _ _ _ h => h) (by rfl) (by assumption)
          rotate_left
          · intro W hS; (try dsimp only at hS); go_simp; try with_reducible rfl
          simp only [getElem_toArray, getElem_cons_succ, getElem_cons_zero, Act.put, setIfInBounds_toArray, set_cons_zero, set_cons_succ]
          refine tkH 8 (v := ?_) rfl ?_ ?_ (by kernel_rfl) (fun _ _ _ h => h) (by rfl) (by assumption)
          rotate_left
          · intro W hS; (try dsimp only at hS); go_simp; try with_reducible rfl
          simp only [getElem_toArray, getElem_cons_succ, getElem_cons_zero, Act.put, setIfInBounds_toArray, set_cons_zero, set_cons_succ]
          refine tkH 10 (v := ?_) rfl ?_ ?_ (by kernel_rfl) (fun _ _ _ h => h) (by rfl) (by assumption)
          rotate_left
          · intro W hS; (try dsimp only at hS); go_simp; try with_reducible rfl
          simp only [getElem_toArray, getElem_cons_succ, getElem_cons_zero, Act.put, setIfInBounds_toArray, set_cons_zero, set_cons_succ]
          refine tkH 11 (v := ?_) rfl ?_ ?_ (by kernel_rfl) (fun _ _ _ h => h) (by rfl) (by assumption)
          rotate_left
          · intro W hS; (try dsimp only at hS); go_simp; try with_reducible rfl
          simp only [getElem_toArray, getElem_cons_succ, getElem_cons_zero, Act.put, setIfInBounds_toArray, set_cons_zero, set_cons_succ]
          refine tkH 12 (v := ?_) rfl ?_ ?_ (by kernel_rfl) (fun _ _ _ h => h) (by rfl) (by assumption)
          rotate_left
          · intro W hS; (try dsimp only at hS); go_simp; try with_reducible rfl
          simp only [getElem_toArray, getElem_cons_succ, getElem_cons_zero, Act.put, setIfInBounds_toArray, set_cons_zero, set_cons_succ]
          refine tkH 13 (v := ?_) rfl ?_ ?_ (by kernel_rfl) (fun _ _ _ h => h) (by rfl) (by assumption)
          rotate_left
          · intro W hS; (try dsimp only at hS); go_simp; try with_reducible rfl
          simp only [getElem_toArray, getElem_cons_succ, getElem_cons_zero, Act.put, setIfInBounds_toArray, set_cons_zero, set_cons_succ]
          refine wpAnyH_ready (rs := [9]) (by kernel_rfl) (by simp) ?_
          refine AllReadyH.cons rfl (fun K hK => ?_) AllReadyH.nil
          go_simp
          with_reducible refine ((ssick_calls HGD6.out)).mono ?_
          rintro e wq ⟨rfl, rfl⟩
          try dsimp only
          refine hK.out _ _ HSD.out (fun hHeld => ?_)
          clear hK K
          try simp only [getElem_toArray, getElem_cons_succ, getElem_cons_zero, Act.put, setIfInBounds_toArray, set_cons_zero, set_cons_succ]
          refine tkH 14 (v := ?_) rfl ?_ ?_ (by kernel_rfl) (fun _ _ _ h => h) (by rfl) (by assumption)
          rotate_left
          · intro W hS; (try dsimp only at hS); go_simp; try with_reducible rfl
          simp only [getElem_toArray, getElem_cons_succ, getElem_cons_zero, Act.put, setIfInBounds_toArray, set_cons_zero, set_cons_succ]
          refine tkH 15 (v := ?_) rfl ?_ ?_ (by kernel_rfl) (fun _ _ _ h => h) (by rfl) (by assumption)
          rotate_left
          · intro W hS; (try dsimp only at hS); go_simp; try with_reducible rfl
          simp only [getElem_toArray, getElem_cons_succ, getElem_cons_zero, Act.put, setIfInBounds_toArray, set_cons_zero, set_cons_succ]
          refine tkH 16 (v := ?_) rfl ?_ ?_ (by kernel_rfl) (fun _ _ _ h => h) (by rfl) (by assumption)
          rotate_left
          · intro W hS; (try dsimp only at hS); go_simp; try with_reducible rfl
          simp only [getElem_toArray, getElem_cons_succ, getElem_cons_zero, Act.put, setIfInBounds_toArray, set_cons_zero, set_cons_succ]
          refine tkH 17 (v := ?_) rfl ?_ ?_ (by kernel_rfl) (fun _ _ _ h => h) (by rfl) (by assumption)
          rotate_left
          · intro W hS; (try dsimp only at hS); go_simp; try with_reducible rfl
          simp only [getElem_toArray, getElem_cons_succ, getElem_cons_zero, Act.put, setIfInBounds_toArray, set_cons_zero, set_cons_succ]
          refine wpAnyH_ready (rs := [18]) (by kernel_rfl) (by simp) ?_
          refine AllReadyH.cons rfl (fun K hK => ?_) AllReadyH.nil
          go_simp
          with_reducible refine ((snumber_calls HGD6.out)).mono ?_
          rintro e wq ⟨rfl, rfl⟩
          try dsimp only
          refine hK.out _ _ HSD.out (fun hHeld => ?_)
          clear hK K
          try simp only [getElem_toArray, getElem_cons_succ, getElem_cons_zero, Act.put, setIfInBounds_toArray, set_cons_zero, set_cons_succ]
          refine tkH 19 (v := ?_) rfl ?_ ?_ (by kernel_rfl) (fun _ _ _ h => h) (by rfl) (by assumption)
          rotate_left
          · intro W hS; (try dsimp only at hS); go_simp; try with_reducible rfl
          simp only [getElem_toArray, getElem_cons_succ, getElem_cons_zero, Act.put, setIfInBounds_toArray, set_cons_zero, set_cons_succ]
          refine tkH 20 (v := ?_) rfl ?_ ?_ (by kernel_rfl) (fun _ _ _ h => h) (by rfl) (by assumption)
          rotate_left
          · intro W hS; (try dsimp only at hS); go_simp; try with_reducible rfl
          simp only [getElem_toArray, getElem_cons_succ, getElem_cons_zero, Act.put, setIfInBounds_toArray, set_cons_zero, set_cons_succ]
          refine wpAnyH_done (by kernel_rfl) ?_ _
          go_wp2
          have HB7 := below_drewN w6 1
          go_roundg g'
          case measure => omega
          case rel => exact ⟨i + 1, S1a, S2a, dA, some (b1, ⟨zA, sA⟩), some (b2, ⟨zA, sA⟩), F, CD, cA, by go_num, rfl, rfl, rfl, by have := HG.out; omega, by omega, HERR6.out.below HB7, rfl, HPF6.out.quiet HB7, HPSA.out⟩
        have q0 : (xk == 0) = false := by simpa using e0
        clear e0
        by_cases e1 : xk = 1
        · subst e1
          have hrt : RowT W1 (Was0 w) dc.al sx.list := HDV.out.list.keep (keeps_below HPF1.out.live.bel Non) (fun _ _ h => h)
          have harm := arm_calls dc.al sx.list dc.cl z4 W1 HPF1.out.live.disk hrt HZ4.out (fun k hk => ⟨fun hs => by have h1 := HPF1.out.live.own k hs; have h2 : k < w.heap.size := hk; omega, Nat.lt_of_lt_of_le hk HPF1.out.live.bel.size⟩) (by have h1 := HXS.out.list; have h2 := HZ4.out; omega) HDV.out.wf
          have HARM := Lib.hid harm
          have HRARM : Hid (∀ W S1', PF w W S1' B1 (arm sx.list d) (some (b1, g)) S2 B2 d (some (b2, g)) F CD → Calls Tryz.prog 29 #[.pointer (some ⟨B2, 0, none⟩), .slice dc.al z4 dc.cl] W (RArmOut W S2 B2 (arm sx.list d))) := Lib.hid (fun W S1' h => by
            have := rarm_calls dc.al sx.list dc.cl W h.ref (HDV.out.list.keep (keeps_below h.live.bel Non) (fun _ _ h => h)) (by have h1 := HXS.out.list; omega)
            rw [HZ4.out] at this
            exact this)
          clear hrt harm
          go_wp2_with fail
          with_reducible refine HARM.out.mono ?_
          rintro e w4 ⟨rfl, ht4⟩
          obtain ⟨S1a, hpf4⟩ := HPF1.out.turn1 ht4
          have HPF4 := Lib.hid hpf4
          obtain ⟨j0, j1, j2, j3⟩ := HFC.out w4 hpf4.blk
          clear ht4 hpf4 HARM HPF1 f0 f1 f2 f3
          go_wp2_with fail
          with_reducible refine (HRARM.out _ _ HPF4.out).mono ?_
          rintro e w5 ⟨rfl, ht5⟩
          obtain ⟨S2a, hpf5⟩ := HPF4.out.turn2 ht5
          have HPF5 := Lib.hid hpf5
          clear ht5 hpf5 HRARM HPF4
          go_wp2
          go_roundg g'
          case measure => omega
          case rel => exact ⟨i + 1, S1a, S2a, arm sx.list d, (some (b1, g)), (some (b2, g)), F, CD, 0, by go_num, rfl, rfl, rfl, by have := HG.out; omega, by omega, .inl ⟨rfl, rfl⟩, rfl, HPF5.out, HPS.out.arm HXS.out.list⟩
        have q1 : (xk == 1) = false := by simpa using e1
        clear e1
        by_cases e2 : xk = 2
        · subst e2
          have hcr := crash_calls dc.at_ sx.tails dc.ct z3 W1 HPF1.out.live.disk HUSED.out (HDV.out.tails.keep (keeps_below HPF1.out.live.bel Non) (fun _ _ h => h)) HZ3.out (fun k hk hs => by have h1 := HPF1.out.live.own k hs; have h2 : k < w.heap.size := hk; omega) (by have h1 := HDV.out.lt; have h2 := HZ3.out; omega) (by have h1 := HXS.out.tails; have h2 := HZ3.out; omega)
          have HCRA := Lib.hid hcr
          have HRCR : Hid (∀ W S1', PF w W S1' B1 (crash sx.tails d) (some (b1, g)) S2 B2 d (some (b2, g)) F CD → Calls Tryz.prog 31 #[.pointer (some ⟨B2, 0, none⟩), .slice dc.at_ z3 dc.ct] W (RCrashOut W S2 B2 (crash sx.tails d))) := Lib.hid (fun W S1' h =>
            rcrash_calls dc.at_ sx.tails dc.ct z3 W h.ref HUSED.out (HDV.out.tails.keep (keeps_below h.live.bel Non) (fun _ _ h => h)) HZ3.out (fun k hk hs => by have h1 := h.own k hs; have h2 : k < w.heap.size := hk; omega) (by have h1 := HDV.out.lt; have h2 := HZ3.out; omega) (by have h1 := HXS.out.tails; have h2 := HZ3.out; omega))
          clear hcr
          go_wp2_with fail
          with_reducible refine HCRA.out.mono ?_
          rintro e w3 ⟨rfl, ht3⟩
          obtain ⟨S1a, hpf3⟩ := HPF1.out.turn1 ht3
          have HPF3 := Lib.hid hpf3
          obtain ⟨j0, j1, j2, j3⟩ := HFC.out w3 hpf3.blk
          clear ht3 hpf3 HCRA HPF1 f0 f1 f2 f3
          go_wp2_with fail
          with_reducible refine (HRCR.out _ _ HPF3.out).mono ?_
          rintro e w4 ⟨rfl, ht4⟩
          obtain ⟨S2a, hpf4⟩ := HPF3.out.turn2 ht4
          have HPF4 := Lib.hid hpf4
          have HPS4 := Lib.hid (HPS.out.crash sx.tails)
          clear ht4 hpf4 HRCR HPF3 HPS HUSED
          have HS2L : Hid (∀ k, S2a k → k < w4.heap.size) := Lib.hid HPF4.out.ref.2.1
          have hop := sopen_calls (n := 3) HPF4.out.live HTAB.out HPS4.out.few (by omega) (by omega)
          have HROP : Hid (∀ W S1' d' x', PF w W S1' B1 d' x' S2a B2 (crash sx.tails d) (some (b2, g)) F CD → Calls Tryz.prog 33 #[.pointer (some ⟨B2, 0, none⟩), .int .i64 3, .bool true] W (ROOut W S2a B2 3 (openB (crash sx.tails d) 3).1 (openB (crash sx.tails d) 3).2.2.1 (openB (crash sx.tails d) 3).2.2.2 (if (openB (crash sx.tails d) 3).1 = 0 then some ⟨(openB (crash sx.tails d) 3).2.1, false⟩ else none))) :=
            Lib.hid (fun W S1' d' x' h => ropen_calls h.ref HPS4.out.few (by omega) (by omega) (by have := HPS4.out.tr; omega))
          have HBD := Lib.hid (open_bounds (crash sx.tails d) 3)
          have HUS : Hid (used (crash sx.tails d).L ≤ 1073741824) := Lib.hid (by have := HPS4.out.few.used; omega)
          have hpo := HPS4.out.open_
          obtain ⟨A, hA⟩ : ∃ A, openB (crash sx.tails d) 3 = A := ⟨_, rfl⟩
          rw [hA] at hop HROP HBD hpo
          obtain ⟨cO, sO, RO, dO⟩ := A
          dsimp only at hop HROP HBD hpo
          obtain ⟨gO, hgO⟩ : ∃ g : Option Sg, (if cO = 0 then some (⟨sO, false⟩ : Sg) else none) = g := ⟨_, rfl⟩
          rw [hgO] at hop HROP hpo
          have HOP := Lib.hid hop
          have HPSO := Lib.hid hpo
          clear hop hpo hA hgO
          go_wp2_with fail
          with_reducible refine HOP.out.mono ?_
          rintro e w5 ⟨v5, ev5, a5, c5, SR5, rfl, herr5, hst5, hr5, hSR5, hn5, hlc5, hcm5⟩
          obtain ⟨S1o, x5, rfl, hx5, hpf5⟩ := HPF4.out.open1 hst5
          have HPF5 := Lib.hid hpf5
          have HX5 := Lib.hid hx5
          have HERR5 := Lib.hid herr5
          have HR5 := Lib.hid hr5
          have HSR5 := Lib.hid hSR5
          obtain ⟨m, hm⟩ : ∃ m, RO.length = m := ⟨_, rfl⟩
          have HM := Lib.hid hm
          rw [hm]
          clear hst5 hx5 hpf5 herr5 hr5 hSR5 hn5 hlc5 hcm5 hm HPF4 HOP
          go_wp2_with fail
          with_reducible refine (HROP.out _ _ _ _ HPF5.out).mono ?_
          rintro e w6 ⟨v6, a6, c6, SR6, rfl, hst6, hr6, hSR6, hn6, hlc6, hcm6⟩
          have hk6 := hst6
          obtain ⟨_, _, _, hk6, _⟩ := hk6
          have HERR6 : Hid (ErrAt 0 w6 cO 3 ev5) := Lib.hid ((HERR5.out.keep hk6 HS2L.out).low (Nat.zero_le _))
          have hrk : Recs w6 SR5 a5 RO := HR5.out.keep hk6 (fun k e hs => by have h1 := HS2L.out k hs; have h2 := (HSR5.out k e).1; omega)
          have hrec := records_calls a5 a6 RO RO c5 c6 m m w6 hrk hr6 HM.out HM.out (by have h1 := HBD.out.1; have h2 := HUS.out; have h3 := HM.out; omega) (by have h1 := HBD.out.1; have h2 := HUS.out; have h3 := HM.out; omega) (fun f hf => Nat.le_trans (HBD.out.2 f hf) HUS.out) (fun f hf => Nat.le_trans (HBD.out.2 f hf) HUS.out)
          rw [decide_eq_true rfl] at hrec
          have HREC := Lib.hid hrec
          obtain ⟨S2o, y6, rfl, hy6, hpf6⟩ := HPF5.out.open2 hst6
          have HPF6 := Lib.hid hpf6
          have HXY6 : Hid (x5.map (·.2) = y6.map (·.2)) := Lib.hid (HX5.out.trans hy6.symm)
          rw [← HX5.out] at HPSO
          rw [HM.out]
          obtain ⟨xw, hxw⟩ : ∃ v, ptrV x5 = v := ⟨_, rfl⟩
          obtain ⟨yw, hyw⟩ : ∃ v, ptrV y6 = v := ⟨_, rfl⟩
          rw [hyw]
          try rw [hxw]
          skip
          have HXW := Lib.hid hxw.symm
          have HYW := Lib.hid hyw.symm
          clear hk6 hrk hrec hy6 hpf6 hst6 hr6 hSR6 hn6 hlc6 hcm6 HROP HPF5 HERR5 HR5 HSR5 HS2L HX5 hxw hyw
          go_wp2_with fail
          with_reducible refine HREC.out.mono ?_
          rintro e w7 ⟨rfl, k7, rfl⟩
          clear HREC
          go_wp2
          go_roundg g'
          case measure => omega
          case rel => exact ⟨i + 1, S1o, S2o, dO, x5, y6, F, CD, cO, by go_num, rfl, HXW.out, HYW.out, by have := HG.out; omega, by omega, HERR6.out.below (below_drewN w6 k7), HXY6.out, HPF6.out.quiet (below_drewN w6 k7), HPSO.out⟩
        have q2 : (xk == 2) = false := by simpa using e2
        clear e2
        have HS2L : Hid (∀ k, S2 k → k < W1.heap.size) := Lib.hid HPF1.out.ref.2.1
        have hop := sopen_calls (n := 3) HPF1.out.live HTAB.out HPS.out.few (by omega) (by omega)
        have HROP : Hid (∀ W S1' d' x', PF w W S1' B1 d' x' S2 B2 d (some (b2, g)) F CD → Calls Tryz.prog 33 #[.pointer (some ⟨B2, 0, none⟩), .int .i64 3, .bool true] W (ROOut W S2 B2 3 (openB d 3).1 (openB d 3).2.2.1 (openB d 3).2.2.2 (if (openB d 3).1 = 0 then some ⟨(openB d 3).2.1, false⟩ else none))) :=
          Lib.hid (fun W S1' d' x' h => ropen_calls h.ref HPS.out.few (by omega) (by omega) (by have := HPS.out.tr; omega))
        have HBD := Lib.hid (open_bounds d 3)
        have HUS : Hid (used d.L ≤ 1073741824) := Lib.hid (by have := HPS.out.few.used; omega)
        have hpo := HPS.out.open_
        obtain ⟨A, hA⟩ : ∃ A, openB d 3 = A := ⟨_, rfl⟩
        rw [hA] at hop HROP HBD hpo
        obtain ⟨cO, sO, RO, dO⟩ := A
        dsimp only at hop HROP HBD hpo
        obtain ⟨gO, hgO⟩ : ∃ g : Option Sg, (if cO = 0 then some (⟨sO, false⟩ : Sg) else none) = g := ⟨_, rfl⟩
        rw [hgO] at hop HROP hpo
        have HOP := Lib.hid hop
        have HPSO := Lib.hid hpo
        clear hop hpo hA hgO
        go_wp2_with fail
        with_reducible refine HOP.out.mono ?_
        rintro e w5 ⟨v5, ev5, a5, c5, SR5, rfl, herr5, hst5, hr5, hSR5, hn5, hlc5, hcm5⟩
        obtain ⟨S1o, x5, rfl, hx5, hpf5⟩ := HPF1.out.open1 hst5
        have HPF5 := Lib.hid hpf5
        have HX5 := Lib.hid hx5
        have HERR5 := Lib.hid herr5
        have HR5 := Lib.hid hr5
        have HSR5 := Lib.hid hSR5
        obtain ⟨m, hm⟩ : ∃ m, RO.length = m := ⟨_, rfl⟩
        have HM := Lib.hid hm
        rw [hm]
        clear hst5 hx5 hpf5 herr5 hr5 hSR5 hn5 hlc5 hcm5 hm HPF1 HOP
        go_wp2_with fail
        with_reducible refine (HROP.out _ _ _ _ HPF5.out).mono ?_
        rintro e w6 ⟨v6, a6, c6, SR6, rfl, hst6, hr6, hSR6, hn6, hlc6, hcm6⟩
        have hk6 := hst6
        obtain ⟨_, _, _, hk6, _⟩ := hk6
        have HERR6 : Hid (ErrAt 0 w6 cO 3 ev5) := Lib.hid ((HERR5.out.keep hk6 HS2L.out).low (Nat.zero_le _))
        have hrk : Recs w6 SR5 a5 RO := HR5.out.keep hk6 (fun k e hs => by have h1 := HS2L.out k hs; have h2 := (HSR5.out k e).1; omega)
        have hrec := records_calls a5 a6 RO RO c5 c6 m m w6 hrk hr6 HM.out HM.out (by have h1 := HBD.out.1; have h2 := HUS.out; have h3 := HM.out; omega) (by have h1 := HBD.out.1; have h2 := HUS.out; have h3 := HM.out; omega) (fun f hf => Nat.le_trans (HBD.out.2 f hf) HUS.out) (fun f hf => Nat.le_trans (HBD.out.2 f hf) HUS.out)
        rw [decide_eq_true rfl] at hrec
        have HREC := Lib.hid hrec
        obtain ⟨S2o, y6, rfl, hy6, hpf6⟩ := HPF5.out.open2 hst6
        have HPF6 := Lib.hid hpf6
        have HXY6 : Hid (x5.map (·.2) = y6.map (·.2)) := Lib.hid (HX5.out.trans hy6.symm)
        rw [← HX5.out] at HPSO
        rw [HM.out]
        obtain ⟨xw, hxw⟩ : ∃ v, ptrV x5 = v := ⟨_, rfl⟩
        obtain ⟨yw, hyw⟩ : ∃ v, ptrV y6 = v := ⟨_, rfl⟩
        rw [hyw]
        try rw [hxw]
        skip
        have HXW := Lib.hid hxw.symm
        have HYW := Lib.hid hyw.symm
        clear hk6 hrk hrec hy6 hpf6 hst6 hr6 hSR6 hn6 hlc6 hcm6 HROP HPF5 HERR5 HR5 HSR5 HS2L HX5 hxw hyw
        go_wp2_with fail
        with_reducible refine HREC.out.mono ?_
        rintro e w7 ⟨rfl, k7, rfl⟩
        clear HREC
        go_wp2
        go_roundg g'
        case measure => omega
        case rel => exact ⟨i + 1, S1o, S2o, dO, x5, y6, F, CD, cO, by go_num, rfl, HXW.out, HYW.out, by have := HG.out; omega, by omega, HERR6.out.below (below_drewN w6 k7), HXY6.out, HPF6.out.quiet (below_drewN w6 k7), HPSO.out⟩
    · by_cases hin : i < n
      · have hdd : decide ((i : Int) < (n : Int)) = true := by simp; omega
        have hdd3 : decide ((i : Int) < 30) = false := by simp; omega
        rcases pair_of hxy with ⟨rfl, rfl⟩ | ⟨b1, b2, g, rfl, rfl⟩
        · obtain rfl := hxv
          obtain rfl := hyv
          clear hxy
          dsimp only [ptrV]
          go_wp2
          refine wp_region_held_drew (S := fun W => W.cell? ⟨B2, 1, none⟩ = some (.slice la n1 lc)) (by kernel_rfl) (HSC.out _ (below_drewN wr 1)) (fun hHeld => ?_)
          refine tkH 0 (v := ?_) rfl ?_ ?_ (by kernel_rfl) (fun _ _ _ h => h) (by rfl) (by assumption)
          rotate_left
          · intro W hS; (try dsimp only at hS); go_simp; try with_reducible rfl
          simp only [getElem_toArray, getElem_cons_zero, Act.put, setIfInBounds_toArray, set_cons_zero, set_cons_succ]
          refine tkH 2 (v := ?_) rfl ?_ ?_ (by kernel_rfl) (fun _ _ _ h => h) (by rfl) (by assumption)
          rotate_left
          · intro W hS; (try dsimp only at hS); go_simp; try with_reducible rfl
          simp only [getElem_toArray, getElem_cons_succ, getElem_cons_zero, Act.put, setIfInBounds_toArray, set_cons_zero, set_cons_succ]
          refine wpAnyH_ready (rs := [1]) (by kernel_rfl) (by simp) ?_
          refine AllReadyH.cons rfl (fun K hK => ?_) AllReadyH.nil
          go_simp
          with_reducible refine (HCODE.out).mono ?_
          rintro e w6 ⟨rfl, hb6⟩
          have HB6 : Hid (Below wr.heap.size wr w6) := Lib.hid (below_then (below_drewN wr 1) hb6)
          clear hb6
          refine hK.out _ _ (HSC.out _ HB6.out) (fun hHeld => ?_)
          clear hK K
          try simp only [getElem_toArray, getElem_cons_succ, getElem_cons_zero, Act.put, setIfInBounds_toArray, set_cons_zero, set_cons_succ]
          refine tkH 3 (v := ?_) rfl ?_ ?_ (by kernel_rfl) (fun _ _ _ h => h) (by rfl) (by assumption)
          rotate_left
          · intro W hS; (try dsimp only at hS); go_simp; try with_reducible rfl
          simp only [getElem_toArray, getElem_cons_succ, getElem_cons_zero, Act.put, setIfInBounds_toArray, set_cons_zero, set_cons_succ]
          refine tkH 4 (v := ?_) rfl ?_ ?_ (by kernel_rfl) (fun _ _ _ h => h) (by rfl) (by assumption)
          rotate_left
          · intro W hS; (try dsimp only at hS); go_simp; try with_reducible rfl
          simp only [getElem_toArray, getElem_cons_succ, getElem_cons_zero, Act.put, setIfInBounds_toArray, set_cons_zero, set_cons_succ]
          refine tkH 5 (v := ?_) rfl ?_ ?_ (by kernel_rfl) (fun _ _ _ h => h) (by rfl) (by assumption)
          rotate_left
          · intro W hS; (try dsimp only at hS); go_simp; try with_reducible rfl
          simp only [getElem_toArray, getElem_cons_succ, getElem_cons_zero, Act.put, setIfInBounds_toArray, set_cons_zero, set_cons_succ]
          refine tkH 6 (v := ?_) rfl ?_ ?_ (by kernel_rfl) (fun _ _ _ h => h) (by rfl) (by assumption)
          rotate_left
          · intro W hS; (try dsimp only at hS); go_simp; try with_reducible rfl
          simp only [getElem_toArray, getElem_cons_succ, getElem_cons_zero, Act.put, setIfInBounds_toArray, set_cons_zero, set_cons_succ]
          refine tkH 7 (v := ?_) rfl ?_ ?_ (by kernel_rfl) (fun _ _ _ h => h) (by rfl) (by assumption)
          rotate_left
          · intro W hS; (try dsimp only at hS); go_simp; try with_reducible rfl
          simp only [getElem_toArray, getElem_cons_succ, getElem_cons_zero, Act.put, setIfInBounds_toArray, set_cons_zero, set_cons_succ]
          refine tkH 8 (v := ?_) rfl ?_ ?_ (by kernel_rfl) (fun _ _ _ h => h) (by rfl) (by assumption)
          rotate_left
          · intro W hS; (try dsimp only at hS); go_simp; try with_reducible rfl
          simp only [getElem_toArray, getElem_cons_succ, getElem_cons_zero, Act.put, setIfInBounds_toArray, set_cons_zero, set_cons_succ]
          refine tkH 9 (v := ?_) rfl ?_ ?_ (by kernel_rfl) (fun _ _ _ h => h) (by rfl) (by assumption)
          rotate_left
          · intro W hS; (try dsimp only at hS); go_simp; try with_reducible rfl
          simp only [getElem_toArray, getElem_cons_succ, getElem_cons_zero, Act.put, setIfInBounds_toArray, set_cons_zero, set_cons_succ]
          refine tkH 10 (v := ?_) rfl ?_ ?_ (by kernel_rfl) (fun _ _ _ h => h) (by rfl) (by assumption)
          rotate_left
          · intro W hS; (try dsimp only at hS); go_simp; try with_reducible rfl
          simp only [getElem_toArray, getElem_cons_succ, getElem_cons_zero, Act.put, setIfInBounds_toArray, set_cons_zero, set_cons_succ]
          refine tkH 11 (v := ?_) rfl ?_ ?_ (by kernel_rfl) (fun _ _ _ h => h) (by rfl) (by assumption)
          rotate_left
          · intro W hS; (try dsimp only at hS); go_simp; try with_reducible rfl
          simp only [getElem_toArray, getElem_cons_succ, getElem_cons_zero, Act.put, setIfInBounds_toArray, set_cons_zero, set_cons_succ]
          refine tkH 12 (v := ?_) rfl ?_ ?_ (by kernel_rfl) (fun _ _ _ h => h) (by rfl) (by assumption)
          rotate_left
          · intro W hS; (try dsimp only at hS); go_simp; try with_reducible rfl
          simp only [getElem_toArray, getElem_cons_succ, getElem_cons_zero, Act.put, setIfInBounds_toArray, set_cons_zero, set_cons_succ]
          refine tkH 14 (v := ?_) rfl ?_ ?_ (by kernel_rfl) (fun _ _ _ h => h) (by rfl) (by assumption)
          rotate_left
          · intro W hS; (try dsimp only at hS); go_simp; try with_reducible rfl
          simp only [getElem_toArray, getElem_cons_succ, getElem_cons_zero, Act.put, setIfInBounds_toArray, set_cons_zero, set_cons_succ]
          refine tkH 15 (v := ?_) rfl ?_ ?_ (by kernel_rfl) (fun _ _ _ h => h) (by rfl) (by assumption)
          rotate_left
          · intro W hS; (try dsimp only at hS); go_simp; try with_reducible rfl
          simp only [getElem_toArray, getElem_cons_succ, getElem_cons_zero, Act.put, setIfInBounds_toArray, set_cons_zero, set_cons_succ]
          refine tkH 16 (v := ?_) rfl ?_ ?_ (by kernel_rfl) (fun _ _ _ h => h) (by rfl) (by assumption)
          rotate_left
          · intro W hS; (try dsimp only at hS); go_simp; try with_reducible rfl
          simp only [getElem_toArray, getElem_cons_succ, getElem_cons_zero, Act.put, setIfInBounds_toArray, set_cons_zero, set_cons_succ]
          refine tkH 17 (v := ?_) rfl ?_ ?_ (by kernel_rfl) (fun _ _ _ h => h) (by rfl) (by assumption)
          rotate_left
          · intro W hS; (try dsimp only at hS); go_simp; try with_reducible rfl
          simp only [getElem_toArray, getElem_cons_succ, getElem_cons_zero, Act.put, setIfInBounds_toArray, set_cons_zero, set_cons_succ]
          refine wpAnyH_ready (rs := [13]) (by kernel_rfl) (by simp) ?_
          refine AllReadyH.cons rfl (fun K hK => ?_) AllReadyH.nil
          go_simp
          with_reducible refine (HFILES.out _ HB6.out).mono ?_
          rintro e w8 ⟨fa, fc, Sf, rfl, hf8, _, _, _, hSf, hb8⟩
          have HBL8 : Hid (Below wr.heap.size wr w8) := Lib.hid (below_then HB6.out hb8)
          have HF8 := Lib.hid hf8
          clear hf8 hb8 hSf
          rw [List.length_map, HN1.out]
          refine hK.out _ _ (HSC.out _ HBL8.out) (fun hHeld => ?_)
          clear hK K
          try simp only [getElem_toArray, getElem_cons_succ, getElem_cons_zero, Act.put, setIfInBounds_toArray, set_cons_zero, set_cons_succ]
          refine wpAnyH_ready (rs := [18]) (by kernel_rfl) (by simp) ?_
          refine AllReadyH.cons rfl (fun K hK => ?_) AllReadyH.nil
          go_simp
          with_reducible refine (HSAME.out _ _ _ _ _ _ _ _ HF8.out (HLA.out.below HBL8.out) HN1.out).mono ?_
          rintro e w9 ⟨rfl, k9, rfl⟩
          have HBL9 : Hid (Below wr.heap.size wr (w8.drewN k9)) := Lib.hid (below_then HBL8.out (below_drewN w8 k9))
          obtain ⟨wc, hwc⟩ : ∃ W, w8.drewN k9 = W := ⟨_, rfl⟩
          rw [hwc] at HBL9
          try simp only [hwc]
          clear hwc
          refine hK.out _ _ (HSC.out _ HBL9.out) (fun hHeld => ?_)
          clear hK K
          try simp only [getElem_toArray, getElem_cons_succ, getElem_cons_zero, Act.put, setIfInBounds_toArray, set_cons_zero, set_cons_succ]
          refine tkH 19 (v := ?_) rfl ?_ ?_ (by kernel_rfl) (fun _ _ _ h => h) (by rfl) (by assumption)
          rotate_left
          · intro W hS; (try dsimp only at hS); go_simp; try with_reducible rfl
          simp only [getElem_toArray, getElem_cons_succ, getElem_cons_zero, Act.put, setIfInBounds_toArray, set_cons_zero, set_cons_succ]
          refine tkH 20 (v := ?_) rfl ?_ ?_ (by kernel_rfl) (fun _ _ _ h => h) (by rfl) (by assumption)
          rotate_left
          · intro W hS; (try dsimp only at hS); go_simp; try with_reducible rfl
          simp only [getElem_toArray, getElem_cons_succ, getElem_cons_zero, Act.put, setIfInBounds_toArray, set_cons_zero, set_cons_succ]
          refine wpAnyH_done (by kernel_rfl) ?_ _
          go_wp2
          go_ret
          exact ⟨rfl, (HPF.out.quiet HBL9.out).live.bel⟩
        · obtain rfl := hxv
          obtain rfl := hyv
          clear hxy
          dsimp only [ptrV]
          go_wp2
          refine wp_region_held_drew (S := fun W => W.cell? ⟨B2, 1, none⟩ = some (.slice la n1 lc)) (by kernel_rfl) (HSC.out _ (below_drewN wr 1)) (fun hHeld => ?_)
          refine tkH 0 (v := ?_) rfl ?_ ?_ (by kernel_rfl) (fun _ _ _ h => h) (by rfl) (by assumption)
          rotate_left
          · intro W hS; (try dsimp only at hS); go_simp; try with_reducible rfl
          simp only [getElem_toArray, getElem_cons_zero, Act.put, setIfInBounds_toArray, set_cons_zero, set_cons_succ]
          refine tkH 2 (v := ?_) rfl ?_ ?_ (by kernel_rfl) (fun _ _ _ h => h) (by rfl) (by assumption)
          rotate_left
          · intro W hS; (try dsimp only at hS); go_simp; try with_reducible rfl
          simp only [getElem_toArray, getElem_cons_succ, getElem_cons_zero, Act.put, setIfInBounds_toArray, set_cons_zero, set_cons_succ]
          refine wpAnyH_ready (rs := [1]) (by kernel_rfl) (by simp) ?_
          refine AllReadyH.cons rfl (fun K hK => ?_) AllReadyH.nil
          go_simp
          with_reducible refine (HCODE.out).mono ?_
          rintro e w6 ⟨rfl, hb6⟩
          have HB6 : Hid (Below wr.heap.size wr w6) := Lib.hid (below_then (below_drewN wr 1) hb6)
          clear hb6
          refine hK.out _ _ (HSC.out _ HB6.out) (fun hHeld => ?_)
          clear hK K
          try simp only [getElem_toArray, getElem_cons_succ, getElem_cons_zero, Act.put, setIfInBounds_toArray, set_cons_zero, set_cons_succ]
          refine tkH 3 (v := ?_) rfl ?_ ?_ (by kernel_rfl) (fun _ _ _ h => h) (by rfl) (by assumption)
          rotate_left
          · intro W hS; (try dsimp only at hS); go_simp; try with_reducible rfl
          simp only [getElem_toArray, getElem_cons_succ, getElem_cons_zero, Act.put, setIfInBounds_toArray, set_cons_zero, set_cons_succ]
          refine tkH 4 (v := ?_) rfl ?_ ?_ (by kernel_rfl) (fun _ _ _ h => h) (by rfl) (by assumption)
          rotate_left
          · intro W hS; (try dsimp only at hS); go_simp; try with_reducible rfl
          simp only [getElem_toArray, getElem_cons_succ, getElem_cons_zero, Act.put, setIfInBounds_toArray, set_cons_zero, set_cons_succ]
          refine tkH 5 (v := ?_) rfl ?_ ?_ (by kernel_rfl) (fun _ _ _ h => h) (by rfl) (by assumption)
          rotate_left
          · intro W hS; (try dsimp only at hS); go_simp; try with_reducible rfl
          simp only [getElem_toArray, getElem_cons_succ, getElem_cons_zero, Act.put, setIfInBounds_toArray, set_cons_zero, set_cons_succ]
          refine tkH 6 (v := ?_) rfl ?_ ?_ (by kernel_rfl) (fun _ _ _ h => h) (by rfl) (by assumption)
          rotate_left
          · intro W hS; (try dsimp only at hS); go_simp; try with_reducible rfl
          simp only [getElem_toArray, getElem_cons_succ, getElem_cons_zero, Act.put, setIfInBounds_toArray, set_cons_zero, set_cons_succ]
          refine tkH 7 (v := ?_) rfl ?_ ?_ (by kernel_rfl) (fun _ _ _ h => h) (by rfl) (by assumption)
          rotate_left
          · intro W hS; (try dsimp only at hS); go_simp; try with_reducible rfl
          simp only [getElem_toArray, getElem_cons_succ, getElem_cons_zero, Act.put, setIfInBounds_toArray, set_cons_zero, set_cons_succ]
          refine tkH 8 (v := ?_) rfl ?_ ?_ (by kernel_rfl) (fun _ _ _ h => h) (by rfl) (by assumption)
          rotate_left
          · intro W hS; (try dsimp only at hS); go_simp; try with_reducible rfl
          simp only [getElem_toArray, getElem_cons_succ, getElem_cons_zero, Act.put, setIfInBounds_toArray, set_cons_zero, set_cons_succ]
          refine tkH 9 (v := ?_) rfl ?_ ?_ (by kernel_rfl) (fun _ _ _ h => h) (by rfl) (by assumption)
          rotate_left
          · intro W hS; (try dsimp only at hS); go_simp; try with_reducible rfl
          simp only [getElem_toArray, getElem_cons_succ, getElem_cons_zero, Act.put, setIfInBounds_toArray, set_cons_zero, set_cons_succ]
          refine tkH 10 (v := ?_) rfl ?_ ?_ (by kernel_rfl) (fun _ _ _ h => h) (by rfl) (by assumption)
          rotate_left
          · intro W hS; (try dsimp only at hS); go_simp; try with_reducible rfl
          simp only [getElem_toArray, getElem_cons_succ, getElem_cons_zero, Act.put, setIfInBounds_toArray, set_cons_zero, set_cons_succ]
          refine tkH 11 (v := ?_) rfl ?_ ?_ (by kernel_rfl) (fun _ _ _ h => h) (by rfl) (by assumption)
          rotate_left
          · intro W hS; (try dsimp only at hS); go_simp; try with_reducible rfl
          simp only [getElem_toArray, getElem_cons_succ, getElem_cons_zero, Act.put, setIfInBounds_toArray, set_cons_zero, set_cons_succ]
          refine tkH 12 (v := ?_) rfl ?_ ?_ (by kernel_rfl) (fun _ _ _ h => h) (by rfl) (by assumption)
          rotate_left
          · intro W hS; (try dsimp only at hS); go_simp; try with_reducible rfl
          simp only [getElem_toArray, getElem_cons_succ, getElem_cons_zero, Act.put, setIfInBounds_toArray, set_cons_zero, set_cons_succ]
          refine tkH 14 (v := ?_) rfl ?_ ?_ (by kernel_rfl) (fun _ _ _ h => h) (by rfl) (by assumption)
          rotate_left
          · intro W hS; (try dsimp only at hS); go_simp; try with_reducible rfl
          simp only [getElem_toArray, getElem_cons_succ, getElem_cons_zero, Act.put, setIfInBounds_toArray, set_cons_zero, set_cons_succ]
          refine tkH 15 (v := ?_) rfl ?_ ?_ (by kernel_rfl) (fun _ _ _ h => h) (by rfl) (by assumption)
          rotate_left
          · intro W hS; (try dsimp only at hS); go_simp; try with_reducible rfl
          simp only [getElem_toArray, getElem_cons_succ, getElem_cons_zero, Act.put, setIfInBounds_toArray, set_cons_zero, set_cons_succ]
          refine tkH 16 (v := ?_) rfl ?_ ?_ (by kernel_rfl) (fun _ _ _ h => h) (by rfl) (by assumption)
          rotate_left
          · intro W hS; (try dsimp only at hS); go_simp; try with_reducible rfl
          simp only [getElem_toArray, getElem_cons_succ, getElem_cons_zero, Act.put, setIfInBounds_toArray, set_cons_zero, set_cons_succ]
          refine tkH 17 (v := ?_) rfl ?_ ?_ (by kernel_rfl) (fun _ _ _ h => h) (by rfl) (by assumption)
          rotate_left
          · intro W hS; (try dsimp only at hS); go_simp; try with_reducible rfl
          simp only [getElem_toArray, getElem_cons_succ, getElem_cons_zero, Act.put, setIfInBounds_toArray, set_cons_zero, set_cons_succ]
          refine wpAnyH_ready (rs := [13]) (by kernel_rfl) (by simp) ?_
          refine AllReadyH.cons rfl (fun K hK => ?_) AllReadyH.nil
          go_simp
          with_reducible refine (HFILES.out _ HB6.out).mono ?_
          rintro e w8 ⟨fa, fc, Sf, rfl, hf8, _, _, _, hSf, hb8⟩
          have HBL8 : Hid (Below wr.heap.size wr w8) := Lib.hid (below_then HB6.out hb8)
          have HF8 := Lib.hid hf8
          clear hf8 hb8 hSf
          rw [List.length_map, HN1.out]
          refine hK.out _ _ (HSC.out _ HBL8.out) (fun hHeld => ?_)
          clear hK K
          try simp only [getElem_toArray, getElem_cons_succ, getElem_cons_zero, Act.put, setIfInBounds_toArray, set_cons_zero, set_cons_succ]
          refine wpAnyH_ready (rs := [18]) (by kernel_rfl) (by simp) ?_
          refine AllReadyH.cons rfl (fun K hK => ?_) AllReadyH.nil
          go_simp
          with_reducible refine (HSAME.out _ _ _ _ _ _ _ _ HF8.out (HLA.out.below HBL8.out) HN1.out).mono ?_
          rintro e w9 ⟨rfl, k9, rfl⟩
          have HBL9 : Hid (Below wr.heap.size wr (w8.drewN k9)) := Lib.hid (below_then HBL8.out (below_drewN w8 k9))
          obtain ⟨wc, hwc⟩ : ∃ W, w8.drewN k9 = W := ⟨_, rfl⟩
          rw [hwc] at HBL9
          try simp only [hwc]
          clear hwc
          refine hK.out _ _ (HSC.out _ HBL9.out) (fun hHeld => ?_)
          clear hK K
          try simp only [getElem_toArray, getElem_cons_succ, getElem_cons_zero, Act.put, setIfInBounds_toArray, set_cons_zero, set_cons_succ]
          refine tkH 19 (v := ?_) rfl ?_ ?_ (by kernel_rfl) (fun _ _ _ h => h) (by rfl) (by assumption)
          rotate_left
          · intro W hS; (try dsimp only at hS); go_simp; try with_reducible rfl
          simp only [getElem_toArray, getElem_cons_succ, getElem_cons_zero, Act.put, setIfInBounds_toArray, set_cons_zero, set_cons_succ]
          refine tkH 20 (v := ?_) rfl ?_ ?_ (by kernel_rfl) (fun _ _ _ h => h) (by rfl) (by assumption)
          rotate_left
          · intro W hS; (try dsimp only at hS); go_simp; try with_reducible rfl
          simp only [getElem_toArray, getElem_cons_succ, getElem_cons_zero, Act.put, setIfInBounds_toArray, set_cons_zero, set_cons_succ]
          refine wpAnyH_done (by kernel_rfl) ?_ _
          go_wp2
          go_ret
          exact ⟨rfl, (HPF.out.quiet HBL9.out).live.bel⟩
      · have hdd : decide ((i : Int) < (n : Int)) = false := by simp; omega
        rcases pair_of hxy with ⟨rfl, rfl⟩ | ⟨b1, b2, g, rfl, rfl⟩
        · obtain rfl := hxv
          obtain rfl := hyv
          clear hxy
          dsimp only [ptrV]
          go_wp2
          refine wp_region_held_drew (S := fun W => W.cell? ⟨B2, 1, none⟩ = some (.slice la n1 lc)) (by kernel_rfl) (HSC.out _ (below_drewN wr 1)) (fun hHeld => ?_)
          refine tkH 0 (v := ?_) rfl ?_ ?_ (by kernel_rfl) (fun _ _ _ h => h) (by rfl) (by assumption)
          rotate_left
          · intro W hS; (try dsimp only at hS); go_simp; try with_reducible rfl
          simp only [getElem_toArray, getElem_cons_zero, Act.put, setIfInBounds_toArray, set_cons_zero, set_cons_succ]
          refine tkH 2 (v := ?_) rfl ?_ ?_ (by kernel_rfl) (fun _ _ _ h => h) (by rfl) (by assumption)
          rotate_left
          · intro W hS; (try dsimp only at hS); go_simp; try with_reducible rfl
          simp only [getElem_toArray, getElem_cons_succ, getElem_cons_zero, Act.put, setIfInBounds_toArray, set_cons_zero, set_cons_succ]
          refine wpAnyH_ready (rs := [1]) (by kernel_rfl) (by simp) ?_
          refine AllReadyH.cons rfl (fun K hK => ?_) AllReadyH.nil
          go_simp
          with_reducible refine (HCODE.out).mono ?_
          rintro e w6 ⟨rfl, hb6⟩
          have HB6 : Hid (Below wr.heap.size wr w6) := Lib.hid (below_then (below_drewN wr 1) hb6)
          clear hb6
          refine hK.out _ _ (HSC.out _ HB6.out) (fun hHeld => ?_)
          clear hK K
          try simp only [getElem_toArray, getElem_cons_succ, getElem_cons_zero, Act.put, setIfInBounds_toArray, set_cons_zero, set_cons_succ]
          refine tkH 3 (v := ?_) rfl ?_ ?_ (by kernel_rfl) (fun _ _ _ h => h) (by rfl) (by assumption)
          rotate_left
          · intro W hS; (try dsimp only at hS); go_simp; try with_reducible rfl
          simp only [getElem_toArray, getElem_cons_succ, getElem_cons_zero, Act.put, setIfInBounds_toArray, set_cons_zero, set_cons_succ]
          refine tkH 4 (v := ?_) rfl ?_ ?_ (by kernel_rfl) (fun _ _ _ h => h) (by rfl) (by assumption)
          rotate_left
          · intro W hS; (try dsimp only at hS); go_simp; try with_reducible rfl
          simp only [getElem_toArray, getElem_cons_succ, getElem_cons_zero, Act.put, setIfInBounds_toArray, set_cons_zero, set_cons_succ]
          refine tkH 5 (v := ?_) rfl ?_ ?_ (by kernel_rfl) (fun _ _ _ h => h) (by rfl) (by assumption)
          rotate_left
          · intro W hS; (try dsimp only at hS); go_simp; try with_reducible rfl
          simp only [getElem_toArray, getElem_cons_succ, getElem_cons_zero, Act.put, setIfInBounds_toArray, set_cons_zero, set_cons_succ]
          refine tkH 6 (v := ?_) rfl ?_ ?_ (by kernel_rfl) (fun _ _ _ h => h) (by rfl) (by assumption)
          rotate_left
          · intro W hS; (try dsimp only at hS); go_simp; try with_reducible rfl
          simp only [getElem_toArray, getElem_cons_succ, getElem_cons_zero, Act.put, setIfInBounds_toArray, set_cons_zero, set_cons_succ]
          refine tkH 7 (v := ?_) rfl ?_ ?_ (by kernel_rfl) (fun _ _ _ h => h) (by rfl) (by assumption)
          rotate_left
          · intro W hS; (try dsimp only at hS); go_simp; try with_reducible rfl
          simp only [getElem_toArray, getElem_cons_succ, getElem_cons_zero, Act.put, setIfInBounds_toArray, set_cons_zero, set_cons_succ]
          refine tkH 8 (v := ?_) rfl ?_ ?_ (by kernel_rfl) (fun _ _ _ h => h) (by rfl) (by assumption)
          rotate_left
          · intro W hS; (try dsimp only at hS); go_simp; try with_reducible rfl
          simp only [getElem_toArray, getElem_cons_succ, getElem_cons_zero, Act.put, setIfInBounds_toArray, set_cons_zero, set_cons_succ]
          refine tkH 9 (v := ?_) rfl ?_ ?_ (by kernel_rfl) (fun _ _ _ h => h) (by rfl) (by assumption)
          rotate_left
          · intro W hS; (try dsimp only at hS); go_simp; try with_reducible rfl
          simp only [getElem_toArray, getElem_cons_succ, getElem_cons_zero, Act.put, setIfInBounds_toArray, set_cons_zero, set_cons_succ]
          refine tkH 10 (v := ?_) rfl ?_ ?_ (by kernel_rfl) (fun _ _ _ h => h) (by rfl) (by assumption)
          rotate_left
          · intro W hS; (try dsimp only at hS); go_simp; try with_reducible rfl
          simp only [getElem_toArray, getElem_cons_succ, getElem_cons_zero, Act.put, setIfInBounds_toArray, set_cons_zero, set_cons_succ]
          refine tkH 11 (v := ?_) rfl ?_ ?_ (by kernel_rfl) (fun _ _ _ h => h) (by rfl) (by assumption)
          rotate_left
          · intro W hS; (try dsimp only at hS); go_simp; try with_reducible rfl
          simp only [getElem_toArray, getElem_cons_succ, getElem_cons_zero, Act.put, setIfInBounds_toArray, set_cons_zero, set_cons_succ]
          refine tkH 12 (v := ?_) rfl ?_ ?_ (by kernel_rfl) (fun _ _ _ h => h) (by rfl) (by assumption)
          rotate_left
          · intro W hS; (try dsimp only at hS); go_simp; try with_reducible rfl
          simp only [getElem_toArray, getElem_cons_succ, getElem_cons_zero, Act.put, setIfInBounds_toArray, set_cons_zero, set_cons_succ]
          refine tkH 14 (v := ?_) rfl ?_ ?_ (by kernel_rfl) (fun _ _ _ h => h) (by rfl) (by assumption)
          rotate_left
          · intro W hS; (try dsimp only at hS); go_simp; try with_reducible rfl
          simp only [getElem_toArray, getElem_cons_succ, getElem_cons_zero, Act.put, setIfInBounds_toArray, set_cons_zero, set_cons_succ]
          refine tkH 15 (v := ?_) rfl ?_ ?_ (by kernel_rfl) (fun _ _ _ h => h) (by rfl) (by assumption)
          rotate_left
          · intro W hS; (try dsimp only at hS); go_simp; try with_reducible rfl
          simp only [getElem_toArray, getElem_cons_succ, getElem_cons_zero, Act.put, setIfInBounds_toArray, set_cons_zero, set_cons_succ]
          refine tkH 16 (v := ?_) rfl ?_ ?_ (by kernel_rfl) (fun _ _ _ h => h) (by rfl) (by assumption)
          rotate_left
          · intro W hS; (try dsimp only at hS); go_simp; try with_reducible rfl
          simp only [getElem_toArray, getElem_cons_succ, getElem_cons_zero, Act.put, setIfInBounds_toArray, set_cons_zero, set_cons_succ]
          refine tkH 17 (v := ?_) rfl ?_ ?_ (by kernel_rfl) (fun _ _ _ h => h) (by rfl) (by assumption)
          rotate_left
          · intro W hS; (try dsimp only at hS); go_simp; try with_reducible rfl
          simp only [getElem_toArray, getElem_cons_succ, getElem_cons_zero, Act.put, setIfInBounds_toArray, set_cons_zero, set_cons_succ]
          refine wpAnyH_ready (rs := [13]) (by kernel_rfl) (by simp) ?_
          refine AllReadyH.cons rfl (fun K hK => ?_) AllReadyH.nil
          go_simp
          with_reducible refine (HFILES.out _ HB6.out).mono ?_
          rintro e w8 ⟨fa, fc, Sf, rfl, hf8, _, _, _, hSf, hb8⟩
          have HBL8 : Hid (Below wr.heap.size wr w8) := Lib.hid (below_then HB6.out hb8)
          have HF8 := Lib.hid hf8
          clear hf8 hb8 hSf
          rw [List.length_map, HN1.out]
          refine hK.out _ _ (HSC.out _ HBL8.out) (fun hHeld => ?_)
          clear hK K
          try simp only [getElem_toArray, getElem_cons_succ, getElem_cons_zero, Act.put, setIfInBounds_toArray, set_cons_zero, set_cons_succ]
          refine wpAnyH_ready (rs := [18]) (by kernel_rfl) (by simp) ?_
          refine AllReadyH.cons rfl (fun K hK => ?_) AllReadyH.nil
          go_simp
          with_reducible refine (HSAME.out _ _ _ _ _ _ _ _ HF8.out (HLA.out.below HBL8.out) HN1.out).mono ?_
          rintro e w9 ⟨rfl, k9, rfl⟩
          have HBL9 : Hid (Below wr.heap.size wr (w8.drewN k9)) := Lib.hid (below_then HBL8.out (below_drewN w8 k9))
          obtain ⟨wc, hwc⟩ : ∃ W, w8.drewN k9 = W := ⟨_, rfl⟩
          rw [hwc] at HBL9
          try simp only [hwc]
          clear hwc
          refine hK.out _ _ (HSC.out _ HBL9.out) (fun hHeld => ?_)
          clear hK K
          try simp only [getElem_toArray, getElem_cons_succ, getElem_cons_zero, Act.put, setIfInBounds_toArray, set_cons_zero, set_cons_succ]
          refine tkH 19 (v := ?_) rfl ?_ ?_ (by kernel_rfl) (fun _ _ _ h => h) (by rfl) (by assumption)
          rotate_left
          · intro W hS; (try dsimp only at hS); go_simp; try with_reducible rfl
          simp only [getElem_toArray, getElem_cons_succ, getElem_cons_zero, Act.put, setIfInBounds_toArray, set_cons_zero, set_cons_succ]
          refine tkH 20 (v := ?_) rfl ?_ ?_ (by kernel_rfl) (fun _ _ _ h => h) (by rfl) (by assumption)
          rotate_left
          · intro W hS; (try dsimp only at hS); go_simp; try with_reducible rfl
          simp only [getElem_toArray, getElem_cons_succ, getElem_cons_zero, Act.put, setIfInBounds_toArray, set_cons_zero, set_cons_succ]
          refine wpAnyH_done (by kernel_rfl) ?_ _
          go_wp2
          go_ret
          exact ⟨rfl, (HPF.out.quiet HBL9.out).live.bel⟩
        · obtain rfl := hxv
          obtain rfl := hyv
          clear hxy
          dsimp only [ptrV]
          go_wp2
          refine wp_region_held_drew (S := fun W => W.cell? ⟨B2, 1, none⟩ = some (.slice la n1 lc)) (by kernel_rfl) (HSC.out _ (below_drewN wr 1)) (fun hHeld => ?_)
          refine tkH 0 (v := ?_) rfl ?_ ?_ (by kernel_rfl) (fun _ _ _ h => h) (by rfl) (by assumption)
          rotate_left
          · intro W hS; (try dsimp only at hS); go_simp; try with_reducible rfl
          simp only [getElem_toArray, getElem_cons_zero, Act.put, setIfInBounds_toArray, set_cons_zero, set_cons_succ]
          refine tkH 2 (v := ?_) rfl ?_ ?_ (by kernel_rfl) (fun _ _ _ h => h) (by rfl) (by assumption)
          rotate_left
          · intro W hS; (try dsimp only at hS); go_simp; try with_reducible rfl
          simp only [getElem_toArray, getElem_cons_succ, getElem_cons_zero, Act.put, setIfInBounds_toArray, set_cons_zero, set_cons_succ]
          refine wpAnyH_ready (rs := [1]) (by kernel_rfl) (by simp) ?_
          refine AllReadyH.cons rfl (fun K hK => ?_) AllReadyH.nil
          go_simp
          with_reducible refine (HCODE.out).mono ?_
          rintro e w6 ⟨rfl, hb6⟩
          have HB6 : Hid (Below wr.heap.size wr w6) := Lib.hid (below_then (below_drewN wr 1) hb6)
          clear hb6
          refine hK.out _ _ (HSC.out _ HB6.out) (fun hHeld => ?_)
          clear hK K
          try simp only [getElem_toArray, getElem_cons_succ, getElem_cons_zero, Act.put, setIfInBounds_toArray, set_cons_zero, set_cons_succ]
          refine tkH 3 (v := ?_) rfl ?_ ?_ (by kernel_rfl) (fun _ _ _ h => h) (by rfl) (by assumption)
          rotate_left
          · intro W hS; (try dsimp only at hS); go_simp; try with_reducible rfl
          simp only [getElem_toArray, getElem_cons_succ, getElem_cons_zero, Act.put, setIfInBounds_toArray, set_cons_zero, set_cons_succ]
          refine tkH 4 (v := ?_) rfl ?_ ?_ (by kernel_rfl) (fun _ _ _ h => h) (by rfl) (by assumption)
          rotate_left
          · intro W hS; (try dsimp only at hS); go_simp; try with_reducible rfl
          simp only [getElem_toArray, getElem_cons_succ, getElem_cons_zero, Act.put, setIfInBounds_toArray, set_cons_zero, set_cons_succ]
          refine tkH 5 (v := ?_) rfl ?_ ?_ (by kernel_rfl) (fun _ _ _ h => h) (by rfl) (by assumption)
          rotate_left
          · intro W hS; (try dsimp only at hS); go_simp; try with_reducible rfl
          simp only [getElem_toArray, getElem_cons_succ, getElem_cons_zero, Act.put, setIfInBounds_toArray, set_cons_zero, set_cons_succ]
          refine tkH 6 (v := ?_) rfl ?_ ?_ (by kernel_rfl) (fun _ _ _ h => h) (by rfl) (by assumption)
          rotate_left
          · intro W hS; (try dsimp only at hS); go_simp; try with_reducible rfl
          simp only [getElem_toArray, getElem_cons_succ, getElem_cons_zero, Act.put, setIfInBounds_toArray, set_cons_zero, set_cons_succ]
          refine tkH 7 (v := ?_) rfl ?_ ?_ (by kernel_rfl) (fun _ _ _ h => h) (by rfl) (by assumption)
          rotate_left
          · intro W hS; (try dsimp only at hS); go_simp; try with_reducible rfl
          simp only [getElem_toArray, getElem_cons_succ, getElem_cons_zero, Act.put, setIfInBounds_toArray, set_cons_zero, set_cons_succ]
          refine tkH 8 (v := ?_) rfl ?_ ?_ (by kernel_rfl) (fun _ _ _ h => h) (by rfl) (by assumption)
          rotate_left
          · intro W hS; (try dsimp only at hS); go_simp; try with_reducible rfl
          simp only [getElem_toArray, getElem_cons_succ, getElem_cons_zero, Act.put, setIfInBounds_toArray, set_cons_zero, set_cons_succ]
          refine tkH 9 (v := ?_) rfl ?_ ?_ (by kernel_rfl) (fun _ _ _ h => h) (by rfl) (by assumption)
          rotate_left
          · intro W hS; (try dsimp only at hS); go_simp; try with_reducible rfl
          simp only [getElem_toArray, getElem_cons_succ, getElem_cons_zero, Act.put, setIfInBounds_toArray, set_cons_zero, set_cons_succ]
          refine tkH 10 (v := ?_) rfl ?_ ?_ (by kernel_rfl) (fun _ _ _ h => h) (by rfl) (by assumption)
          rotate_left
          · intro W hS; (try dsimp only at hS); go_simp; try with_reducible rfl
          simp only [getElem_toArray, getElem_cons_succ, getElem_cons_zero, Act.put, setIfInBounds_toArray, set_cons_zero, set_cons_succ]
          refine tkH 11 (v := ?_) rfl ?_ ?_ (by kernel_rfl) (fun _ _ _ h => h) (by rfl) (by assumption)
          rotate_left
          · intro W hS; (try dsimp only at hS); go_simp; try with_reducible rfl
          simp only [getElem_toArray, getElem_cons_succ, getElem_cons_zero, Act.put, setIfInBounds_toArray, set_cons_zero, set_cons_succ]
          refine tkH 12 (v := ?_) rfl ?_ ?_ (by kernel_rfl) (fun _ _ _ h => h) (by rfl) (by assumption)
          rotate_left
          · intro W hS; (try dsimp only at hS); go_simp; try with_reducible rfl
          simp only [getElem_toArray, getElem_cons_succ, getElem_cons_zero, Act.put, setIfInBounds_toArray, set_cons_zero, set_cons_succ]
          refine tkH 14 (v := ?_) rfl ?_ ?_ (by kernel_rfl) (fun _ _ _ h => h) (by rfl) (by assumption)
          rotate_left
          · intro W hS; (try dsimp only at hS); go_simp; try with_reducible rfl
          simp only [getElem_toArray, getElem_cons_succ, getElem_cons_zero, Act.put, setIfInBounds_toArray, set_cons_zero, set_cons_succ]
          refine tkH 15 (v := ?_) rfl ?_ ?_ (by kernel_rfl) (fun _ _ _ h => h) (by rfl) (by assumption)
          rotate_left
          · intro W hS; (try dsimp only at hS); go_simp; try with_reducible rfl
          simp only [getElem_toArray, getElem_cons_succ, getElem_cons_zero, Act.put, setIfInBounds_toArray, set_cons_zero, set_cons_succ]
          refine tkH 16 (v := ?_) rfl ?_ ?_ (by kernel_rfl) (fun _ _ _ h => h) (by rfl) (by assumption)
          rotate_left
          · intro W hS; (try dsimp only at hS); go_simp; try with_reducible rfl
          simp only [getElem_toArray, getElem_cons_succ, getElem_cons_zero, Act.put, setIfInBounds_toArray, set_cons_zero, set_cons_succ]
          refine tkH 17 (v := ?_) rfl ?_ ?_ (by kernel_rfl) (fun _ _ _ h => h) (by rfl) (by assumption)
          rotate_left
          · intro W hS; (try dsimp only at hS); go_simp; try with_reducible rfl
          simp only [getElem_toArray, getElem_cons_succ, getElem_cons_zero, Act.put, setIfInBounds_toArray, set_cons_zero, set_cons_succ]
          refine wpAnyH_ready (rs := [13]) (by kernel_rfl) (by simp) ?_
          refine AllReadyH.cons rfl (fun K hK => ?_) AllReadyH.nil
          go_simp
          with_reducible refine (HFILES.out _ HB6.out).mono ?_
          rintro e w8 ⟨fa, fc, Sf, rfl, hf8, _, _, _, hSf, hb8⟩
          have HBL8 : Hid (Below wr.heap.size wr w8) := Lib.hid (below_then HB6.out hb8)
          have HF8 := Lib.hid hf8
          clear hf8 hb8 hSf
          rw [List.length_map, HN1.out]
          refine hK.out _ _ (HSC.out _ HBL8.out) (fun hHeld => ?_)
          clear hK K
          try simp only [getElem_toArray, getElem_cons_succ, getElem_cons_zero, Act.put, setIfInBounds_toArray, set_cons_zero, set_cons_succ]
          refine wpAnyH_ready (rs := [18]) (by kernel_rfl) (by simp) ?_
          refine AllReadyH.cons rfl (fun K hK => ?_) AllReadyH.nil
          go_simp
          with_reducible refine (HSAME.out _ _ _ _ _ _ _ _ HF8.out (HLA.out.below HBL8.out) HN1.out).mono ?_
          rintro e w9 ⟨rfl, k9, rfl⟩
          have HBL9 : Hid (Below wr.heap.size wr (w8.drewN k9)) := Lib.hid (below_then HBL8.out (below_drewN w8 k9))
          obtain ⟨wc, hwc⟩ : ∃ W, w8.drewN k9 = W := ⟨_, rfl⟩
          rw [hwc] at HBL9
          try simp only [hwc]
          clear hwc
          refine hK.out _ _ (HSC.out _ HBL9.out) (fun hHeld => ?_)
          clear hK K
          try simp only [getElem_toArray, getElem_cons_succ, getElem_cons_zero, Act.put, setIfInBounds_toArray, set_cons_zero, set_cons_succ]
          refine tkH 19 (v := ?_) rfl ?_ ?_ (by kernel_rfl) (fun _ _ _ h => h) (by rfl) (by assumption)
          rotate_left
          · intro W hS; (try dsimp only at hS); go_simp; try with_reducible rfl
          simp only [getElem_toArray, getElem_cons_succ, getElem_cons_zero, Act.put, setIfInBounds_toArray, set_cons_zero, set_cons_succ]
          refine tkH 20 (v := ?_) rfl ?_ ?_ (by kernel_rfl) (fun _ _ _ h => h) (by rfl) (by assumption)
          rotate_left
          · intro W hS; (try dsimp only at hS); go_simp; try with_reducible rfl
          simp only [getElem_toArray, getElem_cons_succ, getElem_cons_zero, Act.put, setIfInBounds_toArray, set_cons_zero, set_cons_succ]
          refine wpAnyH_done (by kernel_rfl) ?_ _
          go_wp2
          go_ret
          exact ⟨rfl, (HPF.out.quiet HBL9.out).live.bel⟩

end Go.Proofs.YtjhiekijbcjohaaGreatDoor
