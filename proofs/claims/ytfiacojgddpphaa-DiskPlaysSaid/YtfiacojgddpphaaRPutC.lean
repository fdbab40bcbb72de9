/-
  The reference's put at a row of files that is not nil. Conditions: the disk lies in memory; it has few files; the file's bytes are few.
  The reference's put at a row of files that is of whatever length. Conditions: the disk lies in memory; it has few files; the file's bytes are few.
-/
import Derived.Test.YtfiacojgddpphaaRPutB
namespace Go.Proofs.Ytfiacojgddpphaa
open Go.RowKit Go.Lib Go.Joins

set_option maxRecDepth 100000 in
set_option maxHeartbeats 16000000 in
theorem rput_some (f : Fil) (fa : Option Addr) (fc : Nat) (w : World) {S Sf : Nat → Prop} {B : Nat} {d : Dsk} {g lc : Nat} (hd : (∀ k, S k → k < w.heap.size) ∧ ∃ ta tn tc Sd St, RefAt w S B d (.slice (some ⟨g, 0, none⟩) d.L.length lc) ta tn tc Sd St) (hmost : d.L.length ≤ 1000) (hnm : f.name.size ≤ 1099511627776) (hnms : ∀ g ∈ d.L, g.name.size ≤ 1099511627776) (hr : Row w Sf fa f.data) (hc0 : fa = none → fc = 0) (hl : f.data.length ≤ 1073741824) (hby : ∀ c ∈ f.data, c < 256) :
    Calls Try.prog 36 #[.pointer (some ⟨B, 0, none⟩), .agg #[.string f.name, .slice fa f.data.length fc, .int .i64 (f.safe : Int)]] w (RPutOut w S B { d with L := ins f d.L }) := by
  obtain ⟨hSlt, ta, tn, tc, Sd, St, h⟩ := hd
  obtain ⟨la', lc', hle, hf, hn0, hlc, hlcm⟩ := h.fils
  obtain ⟨rfl, _, rfl⟩ := Value.slice.inj hle
  obtain ⟨cells, ho, hfc⟩ := h.row
  obtain ⟨ln, hln⟩ : ∃ ln, f.data.length = ln := ⟨_, rfl⟩
  obtain ⟨nm, hnmE⟩ : ∃ nm, f.name = nm := ⟨_, rfl⟩
  obtain ⟨sf, hsf⟩ : ∃ sf : Int, (f.safe : Int) = sf := ⟨_, rfl⟩
  rw [hln] at hl
  rw [hln, hnmE, hsf]
  have hbel1 : Below w.heap.size w (w.alloc (.cells #[.string nm, .slice fa ln fc, .int .i64 sf] 52)) := (Below.refl _ _).alloc (Nat.le_refl _) _
  have hbx : (w.alloc (.cells #[.string nm, .slice fa ln fc, .int .i64 sf] 52)).heap[w.heap.size]? = some (.cells #[.string nm, .slice fa ln fc, .int .i64 sf] 52 (0, 0)) := heap_alloc_new w _
  obtain ⟨W1, hW1⟩ : ∃ W1, w.alloc (.cells #[.string nm, .slice fa ln fc, .int .i64 sf] 52) = W1 := ⟨_, rfl⟩
  rw [hW1] at hbel1 hbx
  have x0 : W1.cell? ⟨w.heap.size, 0, none⟩ = some (.string nm) := (cell_of_block hbx 0).trans rfl
  have hf1 := hf.below hbel1
  have hblk1 := block_below hbel1 h.blk
  have HLESS := Lib.hid (fun (a : ByteArray) (ha : a.size ≤ 1099511627776) (W : World) => rless_calls a nm W ha (by rw [← hnmE]; exact hnm))
  have HNMS := Lib.hid hnms
  have HH := Lib.hid h
  have HO := Lib.hid ho
  have HFC := Lib.hid hfc
  have HSLT := Lib.hid hSlt
  have HLN := Lib.hid hln
  have HNM := Lib.hid hnmE
  have HSF := Lib.hid hsf
  have HR := Lib.hid hr
  have HBYTE := Lib.hid hby
  have HBEL1 := Lib.hid hbel1
  have HBX := Lib.hid hbx
  have HF1 := Lib.hid hf1
  have HINS0 : Hid (ins f d.L = d.L.take 0 ++ ins f (d.L.drop 0)) := Lib.hid rfl
  obtain ⟨n, hn⟩ : ∃ n, d.L.length = n := ⟨_, rfl⟩
  have HN := Lib.hid hn
  rw [hn] at hmost hlc HO
  have bb : W1.cell? ⟨B, 1, none⟩ = some (.slice (some ⟨g, 0, none⟩) n lc) := by have e : W1.cell? ⟨B, 1, none⟩ = some (.slice (some ⟨g, 0, none⟩) d.L.length lc) := (cell_of_block hblk1 1).trans rfl; rw [hn] at e; exact e
  have HW1 := Lib.hid hW1
  clear hle hf1 hblk1 h ho hfc hSlt hln hnmE hsf hr hby hbel1 hbx hnms hnm hf hn0 hlcm hn hW1
  go_enter Try.func36, Try.ntmps36
  go_wp2
  rw [HW1.out]
  go_loopg [4] n (fun g idx wr => ∃ (i k : Nat), idx = .int .i64 (i : Int) ∧ g + i = n ∧ ins f d.L = d.L.take i ++ ins f (d.L.drop i) ∧ wr = W1.drewN k)
  case atStart => exact ⟨0, 0, rfl, rfl, HINS0.out, rfl⟩
  case round =>
    obtain ⟨i, k, rfl, hg, hins, rfl⟩ := hrel
    have HG := Lib.hid hg
    have HI := Lib.hid hins
    clear hg hins HINS0
    by_cases hlt : i < n
    · have hdd : decide ((i : Int) < (n : Int)) = true := by simp; omega
      obtain ⟨f2, hf2⟩ : ∃ f2, d.L[i]? = some f2 := ⟨d.L[i]'(by rw [HN.out]; exact hlt), List.getElem?_eq_getElem _⟩
      obtain ⟨g', rfl⟩ : ∃ g', gk = g' + 1 := ⟨gk - 1, by have := HG.out; omega⟩
      have hc2 := (HFC.out.at_ i (toI f2) (by rw [List.getElem?_map, hf2]; rfl)).1
      have r0 : W1.cell? ⟨g, i * 3, none⟩ = some (.string f2.name) := (ownsRow_keep HO.out (keeps_below HBEL1.out Non) (fun _ _ h => h)).cellAt (i * 3) (by omega) |>.trans hc2
      have HL := Lib.hid (fun W => HLESS.out f2.name (HNMS.out f2 (List.mem_of_getElem? hf2)) W)
      have HI2 : Hid (nlt f2.name f.name = true → ins f d.L = d.L.take (i + 1) ++ ins f (d.L.drop (i + 1))) := Lib.hid (fun h => ins_next HI.out hf2 h)
      have HI3 : Hid (nlt f2.name f.name = false → ins f d.L = d.L.take i ++ f :: d.L.drop i) := Lib.hid (fun h => ins_here HI.out hf2 h)
      rw [HNM.out] at HI2 HI3
      obtain ⟨n2, hn2⟩ : ∃ n2, f2.name = n2 := ⟨_, rfl⟩
      rw [hn2] at r0 HL HI2 HI3
      clear hf2 hc2 hn2 HI
      cases hb : nlt n2 nm with
      | true =>
        rw [hb] at HL
        have HI4 := Lib.hid (HI2.out hb)
        clear hb
        go_wp2
        go_quiet ((exact quiet_add (HL.out _)))
        go_wp2
        go_roundg g'
        case measure => omega
        case rel => exact ⟨i + 1, _, by go_num, by have := HG.out; omega, HI4.out, rfl⟩
      | false =>
        rw [hb] at HL
        have HINS := Lib.hid (HI3.out hb)
        have hin : i ≤ n := by omega
        have hcl : ¬ lc = i := by omega
        have u4 : (i : Int) ≤ (lc : Int) := by omega
        have u5 : (i : Int) ≤ (n : Int) := by omega
        have u6 : (n : Int) ≤ (lc : Int) := by omega
        have u7 : ¬ lc - i = 0 := by omega
        clear hb
        go_wp2
        go_quiet ((exact quiet_add (HL.out _)))
        clear hdd r0 HL HI2 HI3
        obtain ⟨Wd, hWd⟩ : ∃ Wd, (W1.drewN k).drewN nq = Wd := ⟨_, rfl⟩
        have hbxd : Wd.heap[w.heap.size]? = some (.cells #[.string nm, .slice fa ln fc, .int .i64 sf] 52 (0, 0)) := by rw [← hWd]; exact HBX.out
        have HBD : Hid (Below w.heap.size w Wd) := Lib.hid (by rw [← hWd]; exact ⟨HBEL1.out.os, HBEL1.out.tape, HBEL1.out.output, HBEL1.out.size, HBEL1.out.block⟩)
        try simp only [hWd]
        clear hWd
        have hbD : Below w.heap.size w Wd := HBD.out
        have hxl : w.heap.size < Wd.heap.size := lt_of_block hbxd
        obtain ⟨v4, w4, hrun4, hown4, hnew4, hbel4⟩ := copy_row (W := Wd) (HR.out.below hbD) hc0 (by rw [HLN.out]; exact hl) (N := Wd.heap.size) rfl
        rw [HLN.out] at hrun4 hown4
        obtain ⟨da, dc, rfl⟩ := dv_form2 hown4
        have hbx4 := block_below hbel4 hbxd
        have e1 : (Wd.alloc (.cells #[] 5)).cell? ⟨w.heap.size, 1, none⟩ = some (.slice fa ln fc) := (cell_of_block ((Below.heap_alloc Wd (.cells #[] 5) w.heap.size hxl).trans hbxd) 1).trans rfl
        have e2 : w4.cell? ⟨w.heap.size, 1, none⟩ = some (.slice fa ln fc) := (cell_of_block hbx4 1).trans rfl
        have k2 := unfrozen_of_block hbx4 1
        have hbx5 := block_setCell (i := 1) hbx4 (.slice da ln dc)
        have hown5 := ownsRow_keep hown4 ((Keeps.refl (One w.heap.size) w4).setCell (p := ⟨w.heap.size, 1, none⟩) (.inl rfl) (.slice da ln dc)) (fun k e hk => by have := hnew4 k e; have : k = w.heap.size := hk; omega)
        have hb5 : Below w.heap.size w (w4.setCell ⟨w.heap.size, 1, none⟩ (.slice da ln dc)) := ((keeps_below (below_then hbD hbel4) (One w.heap.size)).setCell (p := ⟨w.heap.size, 1, none⟩) (.inl rfl) _).toBelow (Nat.le_refl _) (fun k e => Nat.le_of_eq (show k = w.heap.size from e).symm)
        obtain ⟨W5, hW5⟩ : ∃ W5, w4.setCell ⟨w.heap.size, 1, none⟩ (.slice da ln dc) = W5 := ⟨_, rfl⟩
        rw [hW5] at hbx5 hown5 hb5
        have HW5 := hW5
        have HRUN := Lib.hid hrun4
        have hnew5 : ∀ k, (Value.slice da ln dc).ownBlock = some k → w.heap.size ≤ k := fun k e => by have := hnew4 k e; have := hbD.size; omega
        have hbV : Below w.heap.size w W5.drew := ⟨hb5.os, hb5.tape, hb5.output, hb5.size, hb5.block⟩
        have hbxV : W5.drew.heap[w.heap.size]? = some (.cells #[.string nm, .slice da ln dc, .int .i64 sf] 52 (0, 0)) := hbx5
        have hownV : W5.drew.ownsRow 0 5 1 (.slice da ln dc) ln (cellsN f.data) := hown5
        have hrowV := ownsRow_keep HO.out (keeps_below hbV Non) (fun _ _ h => h)
        have hblkV := block_below hbV HH.out.blk
        have hs1 : Src W5.drew (.slice (some ⟨g, 0, none⟩) i lc) i (cells.take (i * 3)) := src_take hrowV hin
        have hs3 : Src W5.drew (.slice (some ⟨g, i * 3, none⟩) (n - i) (lc - i)) (n - i) (cells.drop (i * 3)) := by have := src_drop hrowV (i := i) hin hlc; simpa [hcl] using this
        have hq : ∀ W, Below W5.drew.heap.size W5.drew W → W.cell? ⟨B, 1, none⟩ = some (.slice (some ⟨g, 0, none⟩) n lc) ∧ W.cell? ⟨w.heap.size, 0, none⟩ = some (.string nm) ∧ W.cell? ⟨w.heap.size, 1, none⟩ = some (.slice da ln dc) ∧ W.cell? ⟨w.heap.size, 2, none⟩ = some (.int .i64 sf) := fun W hb =>
          ⟨(by have e : W.cell? ⟨B, 1, none⟩ = some (.slice (some ⟨g, 0, none⟩) d.L.length lc) := (cell_of_block (block_below hb hblkV) 1).trans rfl; rw [HN.out] at e; exact e), (cell_of_block (block_below hb hbxV) 0).trans rfl, (cell_of_block (block_below hb hbxV) 1).trans rfl, (cell_of_block (block_below hb hbxV) 2).trans rfl⟩
        have hfr : ∀ W, Below W5.drew.heap.size W5.drew W → W.frozen? ⟨B, 1, none⟩ = false := fun W hb => unfrozen_of_block (block_below hb hblkV) 1
        have hend := fun (a3 : Option Addr) (c3 : Nat) (w3 : World) (hn : NewRow W5.drew w3 (.slice a3 (i + 1 + (n - i)) c3) (i + 1 + (n - i)) (cells.take (i * 3) ++ [.string nm, .slice da ln dc, .int .i64 sf] ++ cells.drop (i * 3))) =>
          put_end HH.out HSLT.out hbV HFC.out HBYTE.out HLN.out hownV hnew5 (i := i) (m3 := (n - i)) (by rw [HN.out]; omega) HINS.out (a3 := a3) (c3 := c3) (w3 := w3) (by rw [HNM.out, HSF.out]; exact hn)
        obtain ⟨⟨Aa1, Ac1, Aw1, Aa2, Ac2, Aw2, Aa3, Ac3, Aw3, Ar1, Ab1, Ab0, Ar2, Ab2, Ar3, An3⟩, ⟨Ba1, Bc1, Bw1, Ba2, Bc2, Bw2, Ba3, Bc3, Bw3, Bb0, Br1, Bb1, Br2, Bb2, Br3, Bn3⟩, ⟨Ca1, Cc1, Cw1, Ca2, Cc2, Cw2, Ca3, Cc3, Cw3, Cbf, Cb0, Cr1, Cb1, Cr2, Cb2, Cr3, Cn3⟩⟩ := put_runs (w := W5.drew) hs1 hs3 (fun u hu => HFC.out.one' u (List.mem_of_mem_take hu)) (fun u hu => HFC.out.one' u (List.mem_of_mem_drop hu)) (by omega) nm da ln dc sf
        have HQ := Lib.hid hq
        have hbE0 : Below W5.drew.heap.size W5.drew (W5.drew.alloc (.cells #[] 52)) := (Below.refl _ _).alloc (Nat.le_refl _) _
        have AH := Lib.hid (hend Aa3 Ac3 Aw3 An3)
        have AR1 := Lib.hid Ar1
        have AR2 := Lib.hid Ar2
        have AR3 := Lib.hid Ar3
        have AB1 := Lib.hid Ab1
        have AB2 := Lib.hid Ab2
        have AB0 := Lib.hid Ab0
        have AN3 := Lib.hid An3
        have Afr := hfr Aw3 An3.bel
        have BH := Lib.hid (hend Ba3 Bc3 Bw3 Bn3)
        have BR1 := Lib.hid Br1
        have BR2 := Lib.hid Br2
        have BR3 := Lib.hid Br3
        have BB1 := Lib.hid Bb1
        have BB2 := Lib.hid Bb2
        have BB0 := Lib.hid Bb0
        have BN3 := Lib.hid Bn3
        have Bfr := hfr Bw3 Bn3.bel
        have CH := Lib.hid (hend Ca3 Cc3 Cw3 Cn3)
        have CR1 := Lib.hid Cr1
        have CR2 := Lib.hid Cr2
        have CR3 := Lib.hid Cr3
        have CB1 := Lib.hid Cb1
        have CB2 := Lib.hid Cb2
        have CB0 := Lib.hid Cb0
        have CN3 := Lib.hid Cn3
        have Cfr := hfr Cw3 Cn3.bel
        have CBF := Lib.hid Cbf
        have hbE := Lib.hid hbE0
        have hbDD : Below W5.drew.heap.size W5.drew W5.drew := Below.refl _ _
        have HBDD := Lib.hid hbDD
        clear hbDD hbE0 hq hfr hend hs1 hs3 hblkV hrowV hownV hbxV hbV hnew5 hrun4 hown4 hnew4 hbel4 hbx4 hbx5 hown5 hb5 hxl hbD hbxd
        clear Ar1 Ar2 Ar3 Ab0 Ab1 Ab2 An3 Br1 Br2 Br3 Bb0 Bb1 Bb2 Bn3 Cr1 Cr2 Cr3 Cb0 Cb1 Cb2 Cn3 Cbf
        go_wp2_with (at_builtin; refine wpList_step (fun K hK => step_append rfl _ _ 35 rfl _ _ _ rfl rfl HRUN.out (hK _ _ ?_)))
        try simp only [HW5]
        clear HW5 e1 e2 k2
        refine wp_region_z (S := fun W => W.cell? ⟨B, 1, none⟩ = some (.slice (some ⟨g, 0, none⟩) n lc) ∧ W.cell? ⟨w.heap.size, 0, none⟩ = some (.string nm) ∧ W.cell? ⟨w.heap.size, 1, none⟩ = some (.slice da ln dc) ∧ W.cell? ⟨w.heap.size, 2, none⟩ = some (.int .i64 sf)) 21 (by kernel_rfl) (HQ.out _ HBDD.out) (fun hHeld => ?_)
        refine wpAnyZ_take (i := 0) (f := 22) (v := ?_) rfl (by kernel_rfl) (by kernel_rfl) (by kernel_rfl) (by kernel_rfl) (by kernel_rfl) (fun _ _ _ h => h) (Or.inl ⟨by rfl, ?_⟩) (by assumption) ?_
        rotate_left
        · intro W hS
          try dsimp only at hS
          try obtain ⟨hs0, hs1⟩ := hS
          go_simp
          try with_reducible rfl
        simp only [Act.put, List.setIfInBounds_toArray]
        refine wpAnyZ_take (i := 2) (f := 22) (v := ?_) rfl (by kernel_rfl) (by kernel_rfl) (by kernel_rfl) (by kernel_rfl) (by kernel_rfl) (fun _ _ _ h => h) (Or.inl ⟨by rfl, ?_⟩) (by assumption) ?_
        rotate_left
        · intro W hS
          try dsimp only at hS
          try obtain ⟨hs0, hs1⟩ := hS
          go_simp
          try with_reducible rfl
        simp only [Act.put]
        refine wpAnyZ_take (i := 3) (f := 22) (v := ?_) rfl (by kernel_rfl) (by kernel_rfl) (by kernel_rfl) (by kernel_rfl) (by kernel_rfl) (fun _ _ _ h => h) (Or.inl ⟨by rfl, ?_⟩) (by assumption) ?_
        rotate_left
        · intro W hS
          try dsimp only at hS
          try obtain ⟨hs0, hs1⟩ := hS
          go_simp
          try with_reducible rfl
        simp only [Act.put]
        refine wpAnyZ_take (i := 4) (f := 22) (v := ?_) rfl (by kernel_rfl) (by kernel_rfl) (by kernel_rfl) (by kernel_rfl) (by kernel_rfl) (fun _ _ _ h => h) (Or.inl ⟨by rfl, ?_⟩) (by assumption) ?_
        rotate_left
        · intro W hS
          try dsimp only at hS
          try obtain ⟨hs0, hs1⟩ := hS
          go_simp
          try with_reducible rfl
        simp only [Act.put]
        refine wpAnyZ_take (i := 5) (f := 22) (v := ?_) rfl (by kernel_rfl) (by kernel_rfl) (by kernel_rfl) (by kernel_rfl) (by kernel_rfl) (fun _ _ _ h => h) (Or.inl ⟨by rfl, ?_⟩) (by assumption) ?_
        rotate_left
        · intro W hS
          try dsimp only at hS
          try obtain ⟨hs0, hs1⟩ := hS
          go_simp
          try with_reducible rfl
        simp only [Act.put]
        refine wpAnyZ_take (i := 6) (f := 22) (v := ?_) rfl (by kernel_rfl) (by kernel_rfl) (by kernel_rfl) (by kernel_rfl) (by kernel_rfl) (fun _ _ _ h => h) (Or.inl ⟨by rfl, ?_⟩) (by assumption) ?_
        rotate_left
        · intro W hS
          try dsimp only at hS
          try obtain ⟨hs0, hs1⟩ := hS
          go_simp
          try with_reducible rfl
        simp only [Act.put]
        refine wpAnyZ_take (i := 7) (f := 22) (v := ?_) rfl (by kernel_rfl) (by kernel_rfl) (by kernel_rfl) (by kernel_rfl) (by kernel_rfl) (fun _ _ _ h => h) (Or.inl ⟨by rfl, ?_⟩) (by assumption) ?_
        rotate_left
        · intro W hS
          try dsimp only at hS
          try obtain ⟨hs0, hs1⟩ := hS
          go_simp
          try with_reducible rfl
        simp only [Act.put]
        refine wpAnyZ_take (i := 9) (f := 22) (v := ?_) rfl (by kernel_rfl) (by kernel_rfl) (by kernel_rfl) (by kernel_rfl) (by kernel_rfl) (fun _ _ _ h => h) (Or.inl ⟨by rfl, ?_⟩) (by assumption) ?_
        rotate_left
        · intro W hS
          try dsimp only at hS
          try obtain ⟨hs0, hs1⟩ := hS
          go_simp
          try with_reducible rfl
        simp only [Act.put]
        refine wpAnyZ_take (i := 12) (f := 22) (v := ?_) rfl (by kernel_rfl) (by kernel_rfl) (by kernel_rfl) (by kernel_rfl) (by kernel_rfl) (fun _ _ _ h => h) (Or.inl ⟨by rfl, ?_⟩) (by assumption) ?_
        rotate_left
        · intro W hS
          try dsimp only at hS
          try obtain ⟨hs0, hs1⟩ := hS
          go_simp
          try with_reducible rfl
        simp only [Act.put]
        refine wpAnyZ_take (i := 13) (f := 22) (v := ?_) rfl (by kernel_rfl) (by kernel_rfl) (by kernel_rfl) (by kernel_rfl) (by kernel_rfl) (fun _ _ _ h => h) (Or.inl ⟨by rfl, ?_⟩) (by assumption) ?_
        rotate_left
        · intro W hS
          try dsimp only at hS
          try obtain ⟨hs0, hs1⟩ := hS
          go_simp
          try with_reducible rfl
        simp only [Act.put]
        refine wpAnyZ_take (i := 14) (f := 22) (v := ?_) rfl (by kernel_rfl) (by kernel_rfl) (by kernel_rfl) (by kernel_rfl) (by kernel_rfl) (fun _ _ _ h => h) (Or.inl ⟨by rfl, ?_⟩) (by assumption) ?_
        rotate_left
        · intro W hS
          try dsimp only at hS
          try obtain ⟨hs0, hs1⟩ := hS
          go_simp
          try with_reducible rfl
        simp only [Act.put]
        refine wpAnyZ_take (i := 15) (f := 22) (v := ?_) rfl (by kernel_rfl) (by kernel_rfl) (by kernel_rfl) (by kernel_rfl) (by kernel_rfl) (fun _ _ _ h => h) (Or.inl ⟨by rfl, ?_⟩) (by assumption) ?_
        rotate_left
        · intro W hS
          try dsimp only at hS
          try obtain ⟨hs0, hs1⟩ := hS
          go_simp
          try with_reducible rfl
        simp only [Act.put]
        refine wpAnyZ_take (i := 16) (f := 22) (v := ?_) rfl (by kernel_rfl) (by kernel_rfl) (by kernel_rfl) (by kernel_rfl) (by kernel_rfl) (fun _ _ _ h => h) (Or.inl ⟨by rfl, ?_⟩) (by assumption) ?_
        rotate_left
        · intro W hS
          try dsimp only at hS
          try obtain ⟨hs0, hs1⟩ := hS
          go_simp
          try with_reducible rfl
        simp only [Act.put]
        refine wpAnyZ_take (i := 17) (f := 22) (v := ?_) rfl (by kernel_rfl) (by kernel_rfl) (by kernel_rfl) (by kernel_rfl) (by kernel_rfl) (fun _ _ _ h => h) (Or.inl ⟨by rfl, ?_⟩) (by assumption) ?_
        rotate_left
        · intro W hS
          try dsimp only at hS
          try obtain ⟨hs0, hs1⟩ := hS
          go_simp
          try with_reducible rfl
        simp only [Act.put]
        refine wpAnyZ_two (i := 1) (j := 10) (by kernel_rfl) rfl rfl (fun K hK => ?_) (fun K hK => ?_)
        · go_simp
          refine hK.out _ _ (HQ.out _ hbE.out) (fun hHeld => ?_)
          clear hK K
          try simp only [Act.put, List.setIfInBounds_toArray, List.set_cons_zero, List.set_cons_succ]
          refine wpAnyZ_two (i := 8) (j := 10) (by kernel_rfl) rfl rfl (fun K hK => ?_) (fun K hK => ?_)
          · refine step_append rfl _ _ 22 rfl _ _ _ rfl rfl AR1.out ?_
            refine hK.out _ _ (HQ.out _ AB1.out) (fun hHeld => ?_)
            clear hK K
            try simp only [Act.put, List.setIfInBounds_toArray]
            refine wpAnyZ_one (i := 10) (by kernel_rfl) rfl (fun K hK => ?_)
            go_simp
            refine hK.out _ _ (HQ.out _ AB0.out) (fun hHeld => ?_)
            clear hK K
            try simp only [Act.put, List.setIfInBounds_toArray, List.set_cons_zero, List.set_cons_succ]
            refine wpAnyZ_one (i := 11) (by kernel_rfl) rfl (fun K hK => ?_)
            refine step_append rfl _ _ 22 rfl _ _ _ rfl rfl AR2.out ?_
            refine hK.out _ _ (HQ.out _ AB2.out) (fun hHeld => ?_)
            clear hK K
            try simp only [Act.put, List.setIfInBounds_toArray]
            refine wpAnyZ_one (i := 18) (by kernel_rfl) rfl (fun K hK => ?_)
            refine step_append rfl _ _ 22 rfl _ _ _ rfl rfl AR3.out ?_
            refine hK.out _ _ (HQ.out _ AN3.out.bel) (fun hHeld => ?_)
            clear hK K
            try simp only [Act.put]
            refine wpAnyZ_take (i := 19) (f := 22) (v := ?_) rfl (by kernel_rfl) (by kernel_rfl) (by kernel_rfl) (by kernel_rfl) (by kernel_rfl) (fun _ _ _ h => h) (Or.inl ⟨by rfl, ?_⟩) (by assumption) ?_
            rotate_left
            · intro W hS
              try dsimp only at hS
              try obtain ⟨hs0, hs1⟩ := hS
              go_simp
              try with_reducible rfl
            simp only [Act.put]
            refine wpAnyZ_take (i := 20) (f := 22) (v := ?_) rfl (by kernel_rfl) (by kernel_rfl) (by kernel_rfl) (by kernel_rfl) (by kernel_rfl) (fun _ _ _ h => h) (Or.inl ⟨by rfl, ?_⟩) (by assumption) ?_
            rotate_left
            · intro W hS
              try dsimp only at hS
              try obtain ⟨hs0, hs1⟩ := hS
              go_simp
              try with_reducible rfl
            simp only [Act.put]
            refine wpAnyZ_last (by kernel_rfl) rfl (by kernel_rfl) (fun K hK => ?_)
            go_simp
            refine hK.out _ _ ?_
            clear hK K
            try simp only [Act.put, List.setIfInBounds_toArray, List.set_cons_zero, List.set_cons_succ]
            go_end0
            exact ⟨rfl, AH.out⟩
          · go_simp
            refine hK.out _ _ (HQ.out _ BB0.out) (fun hHeld => ?_)
            clear hK K
            try simp only [Act.put, List.setIfInBounds_toArray, List.set_cons_zero, List.set_cons_succ]
            refine wpAnyZ_one (i := 8) (by kernel_rfl) rfl (fun K hK => ?_)
            refine step_append rfl _ _ 22 rfl _ _ _ rfl rfl BR1.out ?_
            refine hK.out _ _ (HQ.out _ BB1.out) (fun hHeld => ?_)
            clear hK K
            try simp only [Act.put, List.setIfInBounds_toArray]
            refine wpAnyZ_one (i := 11) (by kernel_rfl) rfl (fun K hK => ?_)
            refine step_append rfl _ _ 22 rfl _ _ _ rfl rfl BR2.out ?_
            refine hK.out _ _ (HQ.out _ BB2.out) (fun hHeld => ?_)
            clear hK K
            try simp only [Act.put]
            refine wpAnyZ_one (i := 18) (by kernel_rfl) rfl (fun K hK => ?_)
            refine step_append rfl _ _ 22 rfl _ _ _ rfl rfl BR3.out ?_
            refine hK.out _ _ (HQ.out _ BN3.out.bel) (fun hHeld => ?_)
            clear hK K
            try simp only [Act.put]
            refine wpAnyZ_take (i := 19) (f := 22) (v := ?_) rfl (by kernel_rfl) (by kernel_rfl) (by kernel_rfl) (by kernel_rfl) (by kernel_rfl) (fun _ _ _ h => h) (Or.inl ⟨by rfl, ?_⟩) (by assumption) ?_
            rotate_left
            · intro W hS
              try dsimp only at hS
              try obtain ⟨hs0, hs1⟩ := hS
              go_simp
              try with_reducible rfl
            simp only [Act.put]
            refine wpAnyZ_take (i := 20) (f := 22) (v := ?_) rfl (by kernel_rfl) (by kernel_rfl) (by kernel_rfl) (by kernel_rfl) (by kernel_rfl) (fun _ _ _ h => h) (Or.inl ⟨by rfl, ?_⟩) (by assumption) ?_
            rotate_left
            · intro W hS
              try dsimp only at hS
              try obtain ⟨hs0, hs1⟩ := hS
              go_simp
              try with_reducible rfl
            simp only [Act.put]
            refine wpAnyZ_last (by kernel_rfl) rfl (by kernel_rfl) (fun K hK => ?_)
            go_simp
            refine hK.out _ _ ?_
            clear hK K
            try simp only [Act.put, List.setIfInBounds_toArray, List.set_cons_zero, List.set_cons_succ]
            go_end0
            exact ⟨rfl, BH.out⟩
        · go_simp
          refine hK.out _ _ (HQ.out _ CBF.out) (fun hHeld => ?_)
          clear hK K
          try simp only [Act.put, List.setIfInBounds_toArray, List.set_cons_zero, List.set_cons_succ]
          refine wpAnyZ_one (i := 1) (by kernel_rfl) rfl (fun K hK => ?_)
          go_simp
          refine hK.out _ _ (HQ.out _ CB0.out) (fun hHeld => ?_)
          clear hK K
          try simp only [Act.put, List.setIfInBounds_toArray, List.set_cons_zero, List.set_cons_succ]
          refine wpAnyZ_one (i := 8) (by kernel_rfl) rfl (fun K hK => ?_)
          refine step_append rfl _ _ 22 rfl _ _ _ rfl rfl CR1.out ?_
          refine hK.out _ _ (HQ.out _ CB1.out) (fun hHeld => ?_)
          clear hK K
          try simp only [Act.put, List.setIfInBounds_toArray]
          refine wpAnyZ_one (i := 11) (by kernel_rfl) rfl (fun K hK => ?_)
          refine step_append rfl _ _ 22 rfl _ _ _ rfl rfl CR2.out ?_
          refine hK.out _ _ (HQ.out _ CB2.out) (fun hHeld => ?_)
          clear hK K
          try simp only [Act.put]
          refine wpAnyZ_one (i := 18) (by kernel_rfl) rfl (fun K hK => ?_)
          refine step_append rfl _ _ 22 rfl _ _ _ rfl rfl CR3.out ?_
          refine hK.out _ _ (HQ.out _ CN3.out.bel) (fun hHeld => ?_)
          clear hK K
          try simp only [Act.put]
          refine wpAnyZ_take (i := 19) (f := 22) (v := ?_) rfl (by kernel_rfl) (by kernel_rfl) (by kernel_rfl) (by kernel_rfl) (by kernel_rfl) (fun _ _ _ h => h) (Or.inl ⟨by rfl, ?_⟩) (by assumption) ?_
          rotate_left
          · intro W hS
            try dsimp only at hS
            try obtain ⟨hs0, hs1⟩ := hS
            go_simp
            try with_reducible rfl
          simp only [Act.put]
          refine wpAnyZ_take (i := 20) (f := 22) (v := ?_) rfl (by kernel_rfl) (by kernel_rfl) (by kernel_rfl) (by kernel_rfl) (by kernel_rfl) (fun _ _ _ h => h) (Or.inl ⟨by rfl, ?_⟩) (by assumption) ?_
          rotate_left
          · intro W hS
            try dsimp only at hS
            try obtain ⟨hs0, hs1⟩ := hS
            go_simp
            try with_reducible rfl
          simp only [Act.put]
          refine wpAnyZ_last (by kernel_rfl) rfl (by kernel_rfl) (fun K hK => ?_)
          go_simp
          refine hK.out _ _ ?_
          clear hK K
          try simp only [Act.put, List.setIfInBounds_toArray, List.set_cons_zero, List.set_cons_succ]
          go_end0
          exact ⟨rfl, CH.out⟩
    · have hdd : decide ((i : Int) < (n : Int)) = false := by simp; omega
      have hie : i = n := by have := HG.out; omega
      have HINS : Hid (ins f d.L = d.L.take i ++ f :: d.L.drop i) := Lib.hid (ins_none HI.out (by rw [HN.out]; omega))
      clear HI
      by_cases hcl : lc = i
      · obtain rfl : lc = i := hcl
        obtain rfl : n = lc := hie.symm
        clear hie
        go_wp2
        go_quiet (fail)
        obtain ⟨Wd, hWd⟩ : ∃ Wd, (W1.drewN k).drewN nq = Wd := ⟨_, rfl⟩
        have hbxd : Wd.heap[w.heap.size]? = some (.cells #[.string nm, .slice fa ln fc, .int .i64 sf] 52 (0, 0)) := by rw [← hWd]; exact HBX.out
        have HBD : Hid (Below w.heap.size w Wd) := Lib.hid (by rw [← hWd]; exact ⟨HBEL1.out.os, HBEL1.out.tape, HBEL1.out.output, HBEL1.out.size, HBEL1.out.block⟩)
        try simp only [hWd]
        clear hWd
        have hbD : Below w.heap.size w Wd := HBD.out
        have hxl : w.heap.size < Wd.heap.size := lt_of_block hbxd
        obtain ⟨v4, w4, hrun4, hown4, hnew4, hbel4⟩ := copy_row (W := Wd) (HR.out.below hbD) hc0 (by rw [HLN.out]; exact hl) (N := Wd.heap.size) rfl
        rw [HLN.out] at hrun4 hown4
        obtain ⟨da, dc, rfl⟩ := dv_form2 hown4
        have hbx4 := block_below hbel4 hbxd
        have e1 : (Wd.alloc (.cells #[] 5)).cell? ⟨w.heap.size, 1, none⟩ = some (.slice fa ln fc) := (cell_of_block ((Below.heap_alloc Wd (.cells #[] 5) w.heap.size hxl).trans hbxd) 1).trans rfl
        have e2 : w4.cell? ⟨w.heap.size, 1, none⟩ = some (.slice fa ln fc) := (cell_of_block hbx4 1).trans rfl
        have k2 := unfrozen_of_block hbx4 1
        have hbx5 := block_setCell (i := 1) hbx4 (.slice da ln dc)
        have hown5 := ownsRow_keep hown4 ((Keeps.refl (One w.heap.size) w4).setCell (p := ⟨w.heap.size, 1, none⟩) (.inl rfl) (.slice da ln dc)) (fun k e hk => by have := hnew4 k e; have : k = w.heap.size := hk; omega)
        have hb5 : Below w.heap.size w (w4.setCell ⟨w.heap.size, 1, none⟩ (.slice da ln dc)) := ((keeps_below (below_then hbD hbel4) (One w.heap.size)).setCell (p := ⟨w.heap.size, 1, none⟩) (.inl rfl) _).toBelow (Nat.le_refl _) (fun k e => Nat.le_of_eq (show k = w.heap.size from e).symm)
        obtain ⟨W5, hW5⟩ : ∃ W5, w4.setCell ⟨w.heap.size, 1, none⟩ (.slice da ln dc) = W5 := ⟨_, rfl⟩
        rw [hW5] at hbx5 hown5 hb5
        have HW5 := hW5
        have HRUN := Lib.hid hrun4
        have hnew5 : ∀ k, (Value.slice da ln dc).ownBlock = some k → w.heap.size ≤ k := fun k e => by have := hnew4 k e; have := hbD.size; omega
        have hbV : Below w.heap.size w W5.drew := ⟨hb5.os, hb5.tape, hb5.output, hb5.size, hb5.block⟩
        have hbxV : W5.drew.heap[w.heap.size]? = some (.cells #[.string nm, .slice da ln dc, .int .i64 sf] 52 (0, 0)) := hbx5
        have hownV : W5.drew.ownsRow 0 5 1 (.slice da ln dc) ln (cellsN f.data) := hown5
        have hrowV := ownsRow_keep HO.out (keeps_below hbV Non) (fun _ _ h => h)
        have hblkV := block_below hbV HH.out.blk
        have hs1 : Src W5.drew (.slice (some ⟨g, 0, none⟩) n n) n (cells.take (n * 3)) := src_take hrowV (Nat.le_refl _)
        have hs3 : Src W5.drew (.slice (some ⟨g, 0, none⟩) 0 0) 0 (cells.drop (n * 3)) := by have := src_drop hrowV (i := n) (Nat.le_refl _) (Nat.le_refl _); simpa using this
        have hq : ∀ W, Below W5.drew.heap.size W5.drew W → W.cell? ⟨B, 1, none⟩ = some (.slice (some ⟨g, 0, none⟩) n n) ∧ W.cell? ⟨w.heap.size, 0, none⟩ = some (.string nm) ∧ W.cell? ⟨w.heap.size, 1, none⟩ = some (.slice da ln dc) ∧ W.cell? ⟨w.heap.size, 2, none⟩ = some (.int .i64 sf) := fun W hb =>
          ⟨(by have e : W.cell? ⟨B, 1, none⟩ = some (.slice (some ⟨g, 0, none⟩) d.L.length n) := (cell_of_block (block_below hb hblkV) 1).trans rfl; rw [HN.out] at e; exact e), (cell_of_block (block_below hb hbxV) 0).trans rfl, (cell_of_block (block_below hb hbxV) 1).trans rfl, (cell_of_block (block_below hb hbxV) 2).trans rfl⟩
        have hfr : ∀ W, Below W5.drew.heap.size W5.drew W → W.frozen? ⟨B, 1, none⟩ = false := fun W hb => unfrozen_of_block (block_below hb hblkV) 1
        have hend := fun (a3 : Option Addr) (c3 : Nat) (w3 : World) (hn : NewRow W5.drew w3 (.slice a3 (n + 1 + 0) c3) (n + 1 + 0) (cells.take (n * 3) ++ [.string nm, .slice da ln dc, .int .i64 sf] ++ cells.drop (n * 3))) =>
          put_end HH.out HSLT.out hbV HFC.out HBYTE.out HLN.out hownV hnew5 (i := n) (m3 := 0) (by rw [HN.out]; omega) HINS.out (a3 := a3) (c3 := c3) (w3 := w3) (by rw [HNM.out, HSF.out]; exact hn)
        obtain ⟨⟨Aa1, Ac1, Aw1, Aa2, Ac2, Aw2, Aa3, Ac3, Aw3, Ar1, Ab1, Ab0, Ar2, Ab2, Ar3, An3⟩, ⟨Ba1, Bc1, Bw1, Ba2, Bc2, Bw2, Ba3, Bc3, Bw3, Bb0, Br1, Bb1, Br2, Bb2, Br3, Bn3⟩, ⟨Ca1, Cc1, Cw1, Ca2, Cc2, Cw2, Ca3, Cc3, Cw3, Cbf, Cb0, Cr1, Cb1, Cr2, Cb2, Cr3, Cn3⟩⟩ := put_runs (w := W5.drew) hs1 hs3 (fun u hu => HFC.out.one' u (List.mem_of_mem_take hu)) (fun u hu => HFC.out.one' u (List.mem_of_mem_drop hu)) (by omega) nm da ln dc sf
        have HQ := Lib.hid hq
        have hbE0 : Below W5.drew.heap.size W5.drew (W5.drew.alloc (.cells #[] 52)) := (Below.refl _ _).alloc (Nat.le_refl _) _
        have AH := Lib.hid (hend Aa3 Ac3 Aw3 An3)
        have AR1 := Lib.hid Ar1
        have AR2 := Lib.hid Ar2
        have AR3 := Lib.hid Ar3
        have AB1 := Lib.hid Ab1
        have AB2 := Lib.hid Ab2
        have AB0 := Lib.hid Ab0
        have AN3 := Lib.hid An3
        have Afr := hfr Aw3 An3.bel
        have BH := Lib.hid (hend Ba3 Bc3 Bw3 Bn3)
        have BR1 := Lib.hid Br1
        have BR2 := Lib.hid Br2
        have BR3 := Lib.hid Br3
        have BB1 := Lib.hid Bb1
        have BB2 := Lib.hid Bb2
        have BB0 := Lib.hid Bb0
        have BN3 := Lib.hid Bn3
        have Bfr := hfr Bw3 Bn3.bel
        have CH := Lib.hid (hend Ca3 Cc3 Cw3 Cn3)
        have CR1 := Lib.hid Cr1
        have CR2 := Lib.hid Cr2
        have CR3 := Lib.hid Cr3
        have CB1 := Lib.hid Cb1
        have CB2 := Lib.hid Cb2
        have CB0 := Lib.hid Cb0
        have CN3 := Lib.hid Cn3
        have Cfr := hfr Cw3 Cn3.bel
        have CBF := Lib.hid Cbf
        have hbE := Lib.hid hbE0
        have hbDD : Below W5.drew.heap.size W5.drew W5.drew := Below.refl _ _
        have HBDD := Lib.hid hbDD
        clear hbDD hbE0 hq hfr hend hs1 hs3 hblkV hrowV hownV hbxV hbV hnew5 hrun4 hown4 hnew4 hbel4 hbx4 hbx5 hown5 hb5 hxl hbD hbxd
        clear Ar1 Ar2 Ar3 Ab0 Ab1 Ab2 An3 Br1 Br2 Br3 Bb0 Bb1 Bb2 Bn3 Cr1 Cr2 Cr3 Cb0 Cb1 Cb2 Cn3 Cbf
        go_wp2_with (at_builtin; refine wpList_step (fun K hK => step_append rfl _ _ 35 rfl _ _ _ rfl rfl HRUN.out (hK _ _ ?_)))
        try simp only [HW5]
        clear HW5 e1 e2 k2
        refine wp_region_z (S := fun W => W.cell? ⟨B, 1, none⟩ = some (.slice (some ⟨g, 0, none⟩) n n) ∧ W.cell? ⟨w.heap.size, 0, none⟩ = some (.string nm) ∧ W.cell? ⟨w.heap.size, 1, none⟩ = some (.slice da ln dc) ∧ W.cell? ⟨w.heap.size, 2, none⟩ = some (.int .i64 sf)) 21 (by kernel_rfl) (HQ.out _ HBDD.out) (fun hHeld => ?_)
        refine wpAnyZ_take (i := 0) (f := 22) (v := ?_) rfl (by kernel_rfl) (by kernel_rfl) (by kernel_rfl) (by kernel_rfl) (by kernel_rfl) (fun _ _ _ h => h) (Or.inl ⟨by rfl, ?_⟩) (by assumption) ?_
        rotate_left
        · intro W hS
          try dsimp only at hS
          try obtain ⟨hs0, hs1⟩ := hS
          go_simp
          try with_reducible rfl
        simp only [Act.put, List.setIfInBounds_toArray]
        refine wpAnyZ_take (i := 2) (f := 22) (v := ?_) rfl (by kernel_rfl) (by kernel_rfl) (by kernel_rfl) (by kernel_rfl) (by kernel_rfl) (fun _ _ _ h => h) (Or.inl ⟨by rfl, ?_⟩) (by assumption) ?_
        rotate_left
        · intro W hS
          try dsimp only at hS
          try obtain ⟨hs0, hs1⟩ := hS
          go_simp
          try with_reducible rfl
        simp only [Act.put]
        refine wpAnyZ_take (i := 3) (f := 22) (v := ?_) rfl (by kernel_rfl) (by kernel_rfl) (by kernel_rfl) (by kernel_rfl) (by kernel_rfl) (fun _ _ _ h => h) (Or.inl ⟨by rfl, ?_⟩) (by assumption) ?_
        rotate_left
        · intro W hS
          try dsimp only at hS
          try obtain ⟨hs0, hs1⟩ := hS
          go_simp
          try with_reducible rfl
        simp only [Act.put]
        refine wpAnyZ_take (i := 4) (f := 22) (v := ?_) rfl (by kernel_rfl) (by kernel_rfl) (by kernel_rfl) (by kernel_rfl) (by kernel_rfl) (fun _ _ _ h => h) (Or.inl ⟨by rfl, ?_⟩) (by assumption) ?_
        rotate_left
        · intro W hS
          try dsimp only at hS
          try obtain ⟨hs0, hs1⟩ := hS
          go_simp
          try with_reducible rfl
        simp only [Act.put]
        refine wpAnyZ_take (i := 5) (f := 22) (v := ?_) rfl (by kernel_rfl) (by kernel_rfl) (by kernel_rfl) (by kernel_rfl) (by kernel_rfl) (fun _ _ _ h => h) (Or.inl ⟨by rfl, ?_⟩) (by assumption) ?_
        rotate_left
        · intro W hS
          try dsimp only at hS
          try obtain ⟨hs0, hs1⟩ := hS
          go_simp
          try with_reducible rfl
        simp only [Act.put]
        refine wpAnyZ_take (i := 6) (f := 22) (v := ?_) rfl (by kernel_rfl) (by kernel_rfl) (by kernel_rfl) (by kernel_rfl) (by kernel_rfl) (fun _ _ _ h => h) (Or.inl ⟨by rfl, ?_⟩) (by assumption) ?_
        rotate_left
        · intro W hS
          try dsimp only at hS
          try obtain ⟨hs0, hs1⟩ := hS
          go_simp
          try with_reducible rfl
        simp only [Act.put]
        refine wpAnyZ_take (i := 7) (f := 22) (v := ?_) rfl (by kernel_rfl) (by kernel_rfl) (by kernel_rfl) (by kernel_rfl) (by kernel_rfl) (fun _ _ _ h => h) (Or.inl ⟨by rfl, ?_⟩) (by assumption) ?_
        rotate_left
        · intro W hS
          try dsimp only at hS
          try obtain ⟨hs0, hs1⟩ := hS
          go_simp
          try with_reducible rfl
        simp only [Act.put]
        refine wpAnyZ_take (i := 9) (f := 22) (v := ?_) rfl (by kernel_rfl) (by kernel_rfl) (by kernel_rfl) (by kernel_rfl) (by kernel_rfl) (fun _ _ _ h => h) (Or.inl ⟨by rfl, ?_⟩) (by assumption) ?_
        rotate_left
        · intro W hS
          try dsimp only at hS
          try obtain ⟨hs0, hs1⟩ := hS
          go_simp
          try with_reducible rfl
        simp only [Act.put]
        refine wpAnyZ_take (i := 12) (f := 22) (v := ?_) rfl (by kernel_rfl) (by kernel_rfl) (by kernel_rfl) (by kernel_rfl) (by kernel_rfl) (fun _ _ _ h => h) (Or.inl ⟨by rfl, ?_⟩) (by assumption) ?_
        rotate_left
        · intro W hS
          try dsimp only at hS
          try obtain ⟨hs0, hs1⟩ := hS
          go_simp
          try with_reducible rfl
        simp only [Act.put]
        refine wpAnyZ_take (i := 13) (f := 22) (v := ?_) rfl (by kernel_rfl) (by kernel_rfl) (by kernel_rfl) (by kernel_rfl) (by kernel_rfl) (fun _ _ _ h => h) (Or.inl ⟨by rfl, ?_⟩) (by assumption) ?_
        rotate_left
        · intro W hS
          try dsimp only at hS
          try obtain ⟨hs0, hs1⟩ := hS
          go_simp
          try with_reducible rfl
        simp only [Act.put]
        refine wpAnyZ_take (i := 14) (f := 22) (v := ?_) rfl (by kernel_rfl) (by kernel_rfl) (by kernel_rfl) (by kernel_rfl) (by kernel_rfl) (fun _ _ _ h => h) (Or.inl ⟨by rfl, ?_⟩) (by assumption) ?_
        rotate_left
        · intro W hS
          try dsimp only at hS
          try obtain ⟨hs0, hs1⟩ := hS
          go_simp
          try with_reducible rfl
        simp only [Act.put]
        refine wpAnyZ_take (i := 15) (f := 22) (v := ?_) rfl (by kernel_rfl) (by kernel_rfl) (by kernel_rfl) (by kernel_rfl) (by kernel_rfl) (fun _ _ _ h => h) (Or.inl ⟨by rfl, ?_⟩) (by assumption) ?_
        rotate_left
        · intro W hS
          try dsimp only at hS
          try obtain ⟨hs0, hs1⟩ := hS
          go_simp
          try with_reducible rfl
        simp only [Act.put]
        refine wpAnyZ_take (i := 16) (f := 22) (v := ?_) rfl (by kernel_rfl) (by kernel_rfl) (by kernel_rfl) (by kernel_rfl) (by kernel_rfl) (fun _ _ _ h => h) (Or.inl ⟨by rfl, ?_⟩) (by assumption) ?_
        rotate_left
        · intro W hS
          try dsimp only at hS
          try obtain ⟨hs0, hs1⟩ := hS
          go_simp
          try with_reducible rfl
        simp only [Act.put]
        refine wpAnyZ_take (i := 17) (f := 22) (v := ?_) rfl (by kernel_rfl) (by kernel_rfl) (by kernel_rfl) (by kernel_rfl) (by kernel_rfl) (fun _ _ _ h => h) (Or.inl ⟨by rfl, ?_⟩) (by assumption) ?_
        rotate_left
        · intro W hS
          try dsimp only at hS
          try obtain ⟨hs0, hs1⟩ := hS
          go_simp
          try with_reducible rfl
        simp only [Act.put]
        refine wpAnyZ_two (i := 1) (j := 10) (by kernel_rfl) rfl rfl (fun K hK => ?_) (fun K hK => ?_)
        · go_simp
          refine hK.out _ _ (HQ.out _ hbE.out) (fun hHeld => ?_)
          clear hK K
          try simp only [Act.put, List.setIfInBounds_toArray, List.set_cons_zero, List.set_cons_succ]
          refine wpAnyZ_two (i := 8) (j := 10) (by kernel_rfl) rfl rfl (fun K hK => ?_) (fun K hK => ?_)
          · refine step_append rfl _ _ 22 rfl _ _ _ rfl rfl AR1.out ?_
            refine hK.out _ _ (HQ.out _ AB1.out) (fun hHeld => ?_)
            clear hK K
            try simp only [Act.put, List.setIfInBounds_toArray]
            refine wpAnyZ_one (i := 10) (by kernel_rfl) rfl (fun K hK => ?_)
            go_simp
            refine hK.out _ _ (HQ.out _ AB0.out) (fun hHeld => ?_)
            clear hK K
            try simp only [Act.put, List.setIfInBounds_toArray, List.set_cons_zero, List.set_cons_succ]
            refine wpAnyZ_one (i := 11) (by kernel_rfl) rfl (fun K hK => ?_)
            refine step_append rfl _ _ 22 rfl _ _ _ rfl rfl AR2.out ?_
            refine hK.out _ _ (HQ.out _ AB2.out) (fun hHeld => ?_)
            clear hK K
            try simp only [Act.put, List.setIfInBounds_toArray]
            refine wpAnyZ_one (i := 18) (by kernel_rfl) rfl (fun K hK => ?_)
            refine step_append rfl _ _ 22 rfl _ _ _ rfl rfl AR3.out ?_
            refine hK.out _ _ (HQ.out _ AN3.out.bel) (fun hHeld => ?_)
            clear hK K
            try simp only [Act.put]
            refine wpAnyZ_take (i := 19) (f := 22) (v := ?_) rfl (by kernel_rfl) (by kernel_rfl) (by kernel_rfl) (by kernel_rfl) (by kernel_rfl) (fun _ _ _ h => h) (Or.inl ⟨by rfl, ?_⟩) (by assumption) ?_
            rotate_left
            · intro W hS
              try dsimp only at hS
              try obtain ⟨hs0, hs1⟩ := hS
              go_simp
              try with_reducible rfl
            simp only [Act.put]
            refine wpAnyZ_take (i := 20) (f := 22) (v := ?_) rfl (by kernel_rfl) (by kernel_rfl) (by kernel_rfl) (by kernel_rfl) (by kernel_rfl) (fun _ _ _ h => h) (Or.inl ⟨by rfl, ?_⟩) (by assumption) ?_
            rotate_left
            · intro W hS
              try dsimp only at hS
              try obtain ⟨hs0, hs1⟩ := hS
              go_simp
              try with_reducible rfl
            simp only [Act.put]
            refine wpAnyZ_last (by kernel_rfl) rfl (by kernel_rfl) (fun K hK => ?_)
            go_simp
            refine hK.out _ _ ?_
            clear hK K
            try simp only [Act.put, List.setIfInBounds_toArray, List.set_cons_zero, List.set_cons_succ]
            go_end0
            exact ⟨rfl, AH.out⟩
          · go_simp
            refine hK.out _ _ (HQ.out _ BB0.out) (fun hHeld => ?_)
            clear hK K
            try simp only [Act.put, List.setIfInBounds_toArray, List.set_cons_zero, List.set_cons_succ]
            refine wpAnyZ_one (i := 8) (by kernel_rfl) rfl (fun K hK => ?_)
            refine step_append rfl _ _ 22 rfl _ _ _ rfl rfl BR1.out ?_
            refine hK.out _ _ (HQ.out _ BB1.out) (fun hHeld => ?_)
            clear hK K
            try simp only [Act.put, List.setIfInBounds_toArray]
            refine wpAnyZ_one (i := 11) (by kernel_rfl) rfl (fun K hK => ?_)
            refine step_append rfl _ _ 22 rfl _ _ _ rfl rfl BR2.out ?_
            refine hK.out _ _ (HQ.out _ BB2.out) (fun hHeld => ?_)
            clear hK K
            try simp only [Act.put]
            refine wpAnyZ_one (i := 18) (by kernel_rfl) rfl (fun K hK => ?_)
            refine step_append rfl _ _ 22 rfl _ _ _ rfl rfl BR3.out ?_
            refine hK.out _ _ (HQ.out _ BN3.out.bel) (fun hHeld => ?_)
            clear hK K
            try simp only [Act.put]
            refine wpAnyZ_take (i := 19) (f := 22) (v := ?_) rfl (by kernel_rfl) (by kernel_rfl) (by kernel_rfl) (by kernel_rfl) (by kernel_rfl) (fun _ _ _ h => h) (Or.inl ⟨by rfl, ?_⟩) (by assumption) ?_
            rotate_left
            · intro W hS
              try dsimp only at hS
              try obtain ⟨hs0, hs1⟩ := hS
              go_simp
              try with_reducible rfl
            simp only [Act.put]
            refine wpAnyZ_take (i := 20) (f := 22) (v := ?_) rfl (by kernel_rfl) (by kernel_rfl) (by kernel_rfl) (by kernel_rfl) (by kernel_rfl) (fun _ _ _ h => h) (Or.inl ⟨by rfl, ?_⟩) (by assumption) ?_
            rotate_left
            · intro W hS
              try dsimp only at hS
              try obtain ⟨hs0, hs1⟩ := hS
              go_simp
              try with_reducible rfl
            simp only [Act.put]
            refine wpAnyZ_last (by kernel_rfl) rfl (by kernel_rfl) (fun K hK => ?_)
            go_simp
            refine hK.out _ _ ?_
            clear hK K
            try simp only [Act.put, List.setIfInBounds_toArray, List.set_cons_zero, List.set_cons_succ]
            go_end0
            exact ⟨rfl, BH.out⟩
        · go_simp
          refine hK.out _ _ (HQ.out _ CBF.out) (fun hHeld => ?_)
          clear hK K
          try simp only [Act.put, List.setIfInBounds_toArray, List.set_cons_zero, List.set_cons_succ]
          refine wpAnyZ_one (i := 1) (by kernel_rfl) rfl (fun K hK => ?_)
          go_simp
          refine hK.out _ _ (HQ.out _ CB0.out) (fun hHeld => ?_)
          clear hK K
          try simp only [Act.put, List.setIfInBounds_toArray, List.set_cons_zero, List.set_cons_succ]
          refine wpAnyZ_one (i := 8) (by kernel_rfl) rfl (fun K hK => ?_)
          refine step_append rfl _ _ 22 rfl _ _ _ rfl rfl CR1.out ?_
          refine hK.out _ _ (HQ.out _ CB1.out) (fun hHeld => ?_)
          clear hK K
          try simp only [Act.put, List.setIfInBounds_toArray]
          refine wpAnyZ_one (i := 11) (by kernel_rfl) rfl (fun K hK => ?_)
          refine step_append rfl _ _ 22 rfl _ _ _ rfl rfl CR2.out ?_
          refine hK.out _ _ (HQ.out _ CB2.out) (fun hHeld => ?_)
          clear hK K
          try simp only [Act.put]
          refine wpAnyZ_one (i := 18) (by kernel_rfl) rfl (fun K hK => ?_)
          refine step_append rfl _ _ 22 rfl _ _ _ rfl rfl CR3.out ?_
          refine hK.out _ _ (HQ.out _ CN3.out.bel) (fun hHeld => ?_)
          clear hK K
          try simp only [Act.put]
          refine wpAnyZ_take (i := 19) (f := 22) (v := ?_) rfl (by kernel_rfl) (by kernel_rfl) (by kernel_rfl) (by kernel_rfl) (by kernel_rfl) (fun _ _ _ h => h) (Or.inl ⟨by rfl, ?_⟩) (by assumption) ?_
          rotate_left
          · intro W hS
            try dsimp only at hS
            try obtain ⟨hs0, hs1⟩ := hS
            go_simp
            try with_reducible rfl
          simp only [Act.put]
          refine wpAnyZ_take (i := 20) (f := 22) (v := ?_) rfl (by kernel_rfl) (by kernel_rfl) (by kernel_rfl) (by kernel_rfl) (by kernel_rfl) (fun _ _ _ h => h) (Or.inl ⟨by rfl, ?_⟩) (by assumption) ?_
          rotate_left
          · intro W hS
            try dsimp only at hS
            try obtain ⟨hs0, hs1⟩ := hS
            go_simp
            try with_reducible rfl
          simp only [Act.put]
          refine wpAnyZ_last (by kernel_rfl) rfl (by kernel_rfl) (fun K hK => ?_)
          go_simp
          refine hK.out _ _ ?_
          clear hK K
          try simp only [Act.put, List.setIfInBounds_toArray, List.set_cons_zero, List.set_cons_succ]
          go_end0
          exact ⟨rfl, CH.out⟩
      · have hin : i ≤ n := by omega
        have u4 : (i : Int) ≤ (lc : Int) := by omega
        have u5 : (i : Int) ≤ (n : Int) := by omega
        have u6 : (n : Int) ≤ (lc : Int) := by omega
        have u7 : ¬ lc - i = 0 := by omega
        clear hie
        go_wp2
        go_quiet (fail)
        obtain ⟨Wd, hWd⟩ : ∃ Wd, (W1.drewN k).drewN nq = Wd := ⟨_, rfl⟩
        have hbxd : Wd.heap[w.heap.size]? = some (.cells #[.string nm, .slice fa ln fc, .int .i64 sf] 52 (0, 0)) := by rw [← hWd]; exact HBX.out
        have HBD : Hid (Below w.heap.size w Wd) := Lib.hid (by rw [← hWd]; exact ⟨HBEL1.out.os, HBEL1.out.tape, HBEL1.out.output, HBEL1.out.size, HBEL1.out.block⟩)
        try simp only [hWd]
        clear hWd
        have hbD : Below w.heap.size w Wd := HBD.out
        have hxl : w.heap.size < Wd.heap.size := lt_of_block hbxd
        obtain ⟨v4, w4, hrun4, hown4, hnew4, hbel4⟩ := copy_row (W := Wd) (HR.out.below hbD) hc0 (by rw [HLN.out]; exact hl) (N := Wd.heap.size) rfl
        rw [HLN.out] at hrun4 hown4
        obtain ⟨da, dc, rfl⟩ := dv_form2 hown4
        have hbx4 := block_below hbel4 hbxd
        have e1 : (Wd.alloc (.cells #[] 5)).cell? ⟨w.heap.size, 1, none⟩ = some (.slice fa ln fc) := (cell_of_block ((Below.heap_alloc Wd (.cells #[] 5) w.heap.size hxl).trans hbxd) 1).trans rfl
        have e2 : w4.cell? ⟨w.heap.size, 1, none⟩ = some (.slice fa ln fc) := (cell_of_block hbx4 1).trans rfl
        have k2 := unfrozen_of_block hbx4 1
        have hbx5 := block_setCell (i := 1) hbx4 (.slice da ln dc)
        have hown5 := ownsRow_keep hown4 ((Keeps.refl (One w.heap.size) w4).setCell (p := ⟨w.heap.size, 1, none⟩) (.inl rfl) (.slice da ln dc)) (fun k e hk => by have := hnew4 k e; have : k = w.heap.size := hk; omega)
        have hb5 : Below w.heap.size w (w4.setCell ⟨w.heap.size, 1, none⟩ (.slice da ln dc)) := ((keeps_below (below_then hbD hbel4) (One w.heap.size)).setCell (p := ⟨w.heap.size, 1, none⟩) (.inl rfl) _).toBelow (Nat.le_refl _) (fun k e => Nat.le_of_eq (show k = w.heap.size from e).symm)
        obtain ⟨W5, hW5⟩ : ∃ W5, w4.setCell ⟨w.heap.size, 1, none⟩ (.slice da ln dc) = W5 := ⟨_, rfl⟩
        rw [hW5] at hbx5 hown5 hb5
        have HW5 := hW5
        have HRUN := Lib.hid hrun4
        have hnew5 : ∀ k, (Value.slice da ln dc).ownBlock = some k → w.heap.size ≤ k := fun k e => by have := hnew4 k e; have := hbD.size; omega
        have hbV : Below w.heap.size w W5.drew := ⟨hb5.os, hb5.tape, hb5.output, hb5.size, hb5.block⟩
        have hbxV : W5.drew.heap[w.heap.size]? = some (.cells #[.string nm, .slice da ln dc, .int .i64 sf] 52 (0, 0)) := hbx5
        have hownV : W5.drew.ownsRow 0 5 1 (.slice da ln dc) ln (cellsN f.data) := hown5
        have hrowV := ownsRow_keep HO.out (keeps_below hbV Non) (fun _ _ h => h)
        have hblkV := block_below hbV HH.out.blk
        have hs1 : Src W5.drew (.slice (some ⟨g, 0, none⟩) i lc) i (cells.take (i * 3)) := src_take hrowV hin
        have hs3 : Src W5.drew (.slice (some ⟨g, i * 3, none⟩) (n - i) (lc - i)) (n - i) (cells.drop (i * 3)) := by have := src_drop hrowV (i := i) hin hlc; simpa [hcl] using this
        have hq : ∀ W, Below W5.drew.heap.size W5.drew W → W.cell? ⟨B, 1, none⟩ = some (.slice (some ⟨g, 0, none⟩) n lc) ∧ W.cell? ⟨w.heap.size, 0, none⟩ = some (.string nm) ∧ W.cell? ⟨w.heap.size, 1, none⟩ = some (.slice da ln dc) ∧ W.cell? ⟨w.heap.size, 2, none⟩ = some (.int .i64 sf) := fun W hb =>
          ⟨(by have e : W.cell? ⟨B, 1, none⟩ = some (.slice (some ⟨g, 0, none⟩) d.L.length lc) := (cell_of_block (block_below hb hblkV) 1).trans rfl; rw [HN.out] at e; exact e), (cell_of_block (block_below hb hbxV) 0).trans rfl, (cell_of_block (block_below hb hbxV) 1).trans rfl, (cell_of_block (block_below hb hbxV) 2).trans rfl⟩
        have hfr : ∀ W, Below W5.drew.heap.size W5.drew W → W.frozen? ⟨B, 1, none⟩ = false := fun W hb => unfrozen_of_block (block_below hb hblkV) 1
        have hend := fun (a3 : Option Addr) (c3 : Nat) (w3 : World) (hn : NewRow W5.drew w3 (.slice a3 (i + 1 + (n - i)) c3) (i + 1 + (n - i)) (cells.take (i * 3) ++ [.string nm, .slice da ln dc, .int .i64 sf] ++ cells.drop (i * 3))) =>
          put_end HH.out HSLT.out hbV HFC.out HBYTE.out HLN.out hownV hnew5 (i := i) (m3 := (n - i)) (by rw [HN.out]; omega) HINS.out (a3 := a3) (c3 := c3) (w3 := w3) (by rw [HNM.out, HSF.out]; exact hn)
        obtain ⟨⟨Aa1, Ac1, Aw1, Aa2, Ac2, Aw2, Aa3, Ac3, Aw3, Ar1, Ab1, Ab0, Ar2, Ab2, Ar3, An3⟩, ⟨Ba1, Bc1, Bw1, Ba2, Bc2, Bw2, Ba3, Bc3, Bw3, Bb0, Br1, Bb1, Br2, Bb2, Br3, Bn3⟩, ⟨Ca1, Cc1, Cw1, Ca2, Cc2, Cw2, Ca3, Cc3, Cw3, Cbf, Cb0, Cr1, Cb1, Cr2, Cb2, Cr3, Cn3⟩⟩ := put_runs (w := W5.drew) hs1 hs3 (fun u hu => HFC.out.one' u (List.mem_of_mem_take hu)) (fun u hu => HFC.out.one' u (List.mem_of_mem_drop hu)) (by omega) nm da ln dc sf
        have HQ := Lib.hid hq
        have hbE0 : Below W5.drew.heap.size W5.drew (W5.drew.alloc (.cells #[] 52)) := (Below.refl _ _).alloc (Nat.le_refl _) _
        have AH := Lib.hid (hend Aa3 Ac3 Aw3 An3)
        have AR1 := Lib.hid Ar1
        have AR2 := Lib.hid Ar2
        have AR3 := Lib.hid Ar3
        have AB1 := Lib.hid Ab1
        have AB2 := Lib.hid Ab2
        have AB0 := Lib.hid Ab0
        have AN3 := Lib.hid An3
        have Afr := hfr Aw3 An3.bel
        have BH := Lib.hid (hend Ba3 Bc3 Bw3 Bn3)
        have BR1 := Lib.hid Br1
        have BR2 := Lib.hid Br2
        have BR3 := Lib.hid Br3
        have BB1 := Lib.hid Bb1
        have BB2 := Lib.hid Bb2
        have BB0 := Lib.hid Bb0
        have BN3 := Lib.hid Bn3
        have Bfr := hfr Bw3 Bn3.bel
        have CH := Lib.hid (hend Ca3 Cc3 Cw3 Cn3)
        have CR1 := Lib.hid Cr1
        have CR2 := Lib.hid Cr2
        have CR3 := Lib.hid Cr3
        have CB1 := Lib.hid Cb1
        have CB2 := Lib.hid Cb2
        have CB0 := Lib.hid Cb0
        have CN3 := Lib.hid Cn3
        have Cfr := hfr Cw3 Cn3.bel
        have CBF := Lib.hid Cbf
        have hbE := Lib.hid hbE0
        have hbDD : Below W5.drew.heap.size W5.drew W5.drew := Below.refl _ _
        have HBDD := Lib.hid hbDD
        clear hbDD hbE0 hq hfr hend hs1 hs3 hblkV hrowV hownV hbxV hbV hnew5 hrun4 hown4 hnew4 hbel4 hbx4 hbx5 hown5 hb5 hxl hbD hbxd
        clear Ar1 Ar2 Ar3 Ab0 Ab1 Ab2 An3 Br1 Br2 Br3 Bb0 Bb1 Bb2 Bn3 Cr1 Cr2 Cr3 Cb0 Cb1 Cb2 Cn3 Cbf
        go_wp2_with (at_builtin; refine wpList_step (fun K hK => step_append rfl _ _ 35 rfl _ _ _ rfl rfl HRUN.out (hK _ _ ?_)))
        try simp only [HW5]
        clear HW5 e1 e2 k2
        refine wp_region_z (S := fun W => W.cell? ⟨B, 1, none⟩ = some (.slice (some ⟨g, 0, none⟩) n lc) ∧ W.cell? ⟨w.heap.size, 0, none⟩ = some (.string nm) ∧ W.cell? ⟨w.heap.size, 1, none⟩ = some (.slice da ln dc) ∧ W.cell? ⟨w.heap.size, 2, none⟩ = some (.int .i64 sf)) 21 (by kernel_rfl) (HQ.out _ HBDD.out) (fun hHeld => ?_)
        refine wpAnyZ_take (i := 0) (f := 22) (v := ?_) rfl (by kernel_rfl) (by kernel_rfl) (by kernel_rfl) (by kernel_rfl) (by kernel_rfl) (fun _ _ _ h => h) (Or.inl ⟨by rfl, ?_⟩) (by assumption) ?_
        rotate_left
        · intro W hS
          try dsimp only at hS
          try obtain ⟨hs0, hs1⟩ := hS
          go_simp
          try with_reducible rfl
        simp only [Act.put, List.setIfInBounds_toArray]
        refine wpAnyZ_take (i := 2) (f := 22) (v := ?_) rfl (by kernel_rfl) (by kernel_rfl) (by kernel_rfl) (by kernel_rfl) (by kernel_rfl) (fun _ _ _ h => h) (Or.inl ⟨by rfl, ?_⟩) (by assumption) ?_
        rotate_left
        · intro W hS
          try dsimp only at hS
          try obtain ⟨hs0, hs1⟩ := hS
          go_simp
          try with_reducible rfl
        simp only [Act.put]
        refine wpAnyZ_take (i := 3) (f := 22) (v := ?_) rfl (by kernel_rfl) (by kernel_rfl) (by kernel_rfl) (by kernel_rfl) (by kernel_rfl) (fun _ _ _ h => h) (Or.inl ⟨by rfl, ?_⟩) (by assumption) ?_
        rotate_left
        · intro W hS
          try dsimp only at hS
          try obtain ⟨hs0, hs1⟩ := hS
          go_simp
          try with_reducible rfl
        simp only [Act.put]
        refine wpAnyZ_take (i := 4) (f := 22) (v := ?_) rfl (by kernel_rfl) (by kernel_rfl) (by kernel_rfl) (by kernel_rfl) (by kernel_rfl) (fun _ _ _ h => h) (Or.inl ⟨by rfl, ?_⟩) (by assumption) ?_
        rotate_left
        · intro W hS
          try dsimp only at hS
          try obtain ⟨hs0, hs1⟩ := hS
          go_simp
          try with_reducible rfl
        simp only [Act.put]
        refine wpAnyZ_take (i := 5) (f := 22) (v := ?_) rfl (by kernel_rfl) (by kernel_rfl) (by kernel_rfl) (by kernel_rfl) (by kernel_rfl) (fun _ _ _ h => h) (Or.inl ⟨by rfl, ?_⟩) (by assumption) ?_
        rotate_left
        · intro W hS
          try dsimp only at hS
          try obtain ⟨hs0, hs1⟩ := hS
          go_simp
          try with_reducible rfl
        simp only [Act.put]
        refine wpAnyZ_take (i := 6) (f := 22) (v := ?_) rfl (by kernel_rfl) (by kernel_rfl) (by kernel_rfl) (by kernel_rfl) (by kernel_rfl) (fun _ _ _ h => h) (Or.inl ⟨by rfl, ?_⟩) (by assumption) ?_
        rotate_left
        · intro W hS
          try dsimp only at hS
          try obtain ⟨hs0, hs1⟩ := hS
          go_simp
          try with_reducible rfl
        simp only [Act.put]
        refine wpAnyZ_take (i := 7) (f := 22) (v := ?_) rfl (by kernel_rfl) (by kernel_rfl) (by kernel_rfl) (by kernel_rfl) (by kernel_rfl) (fun _ _ _ h => h) (Or.inl ⟨by rfl, ?_⟩) (by assumption) ?_
        rotate_left
        · intro W hS
          try dsimp only at hS
          try obtain ⟨hs0, hs1⟩ := hS
          go_simp
          try with_reducible rfl
        simp only [Act.put]
        refine wpAnyZ_take (i := 9) (f := 22) (v := ?_) rfl (by kernel_rfl) (by kernel_rfl) (by kernel_rfl) (by kernel_rfl) (by kernel_rfl) (fun _ _ _ h => h) (Or.inl ⟨by rfl, ?_⟩) (by assumption) ?_
        rotate_left
        · intro W hS
          try dsimp only at hS
          try obtain ⟨hs0, hs1⟩ := hS
          go_simp
          try with_reducible rfl
        simp only [Act.put]
        refine wpAnyZ_take (i := 12) (f := 22) (v := ?_) rfl (by kernel_rfl) (by kernel_rfl) (by kernel_rfl) (by kernel_rfl) (by kernel_rfl) (fun _ _ _ h => h) (Or.inl ⟨by rfl, ?_⟩) (by assumption) ?_
        rotate_left
        · intro W hS
          try dsimp only at hS
          try obtain ⟨hs0, hs1⟩ := hS
          go_simp
          try with_reducible rfl
        simp only [Act.put]
        refine wpAnyZ_take (i := 13) (f := 22) (v := ?_) rfl (by kernel_rfl) (by kernel_rfl) (by kernel_rfl) (by kernel_rfl) (by kernel_rfl) (fun _ _ _ h => h) (Or.inl ⟨by rfl, ?_⟩) (by assumption) ?_
        rotate_left
        · intro W hS
          try dsimp only at hS
          try obtain ⟨hs0, hs1⟩ := hS
          go_simp
          try with_reducible rfl
        simp only [Act.put]
        refine wpAnyZ_take (i := 14) (f := 22) (v := ?_) rfl (by kernel_rfl) (by kernel_rfl) (by kernel_rfl) (by kernel_rfl) (by kernel_rfl) (fun _ _ _ h => h) (Or.inl ⟨by rfl, ?_⟩) (by assumption) ?_
        rotate_left
        · intro W hS
          try dsimp only at hS
          try obtain ⟨hs0, hs1⟩ := hS
          go_simp
          try with_reducible rfl
        simp only [Act.put]
        refine wpAnyZ_take (i := 15) (f := 22) (v := ?_) rfl (by kernel_rfl) (by kernel_rfl) (by kernel_rfl) (by kernel_rfl) (by kernel_rfl) (fun _ _ _ h => h) (Or.inl ⟨by rfl, ?_⟩) (by assumption) ?_
        rotate_left
        · intro W hS
          try dsimp only at hS
          try obtain ⟨hs0, hs1⟩ := hS
          go_simp
          try with_reducible rfl
        simp only [Act.put]
        refine wpAnyZ_take (i := 16) (f := 22) (v := ?_) rfl (by kernel_rfl) (by kernel_rfl) (by kernel_rfl) (by kernel_rfl) (by kernel_rfl) (fun _ _ _ h => h) (Or.inl ⟨by rfl, ?_⟩) (by assumption) ?_
        rotate_left
        · intro W hS
          try dsimp only at hS
          try obtain ⟨hs0, hs1⟩ := hS
          go_simp
          try with_reducible rfl
        simp only [Act.put]
        refine wpAnyZ_take (i := 17) (f := 22) (v := ?_) rfl (by kernel_rfl) (by kernel_rfl) (by kernel_rfl) (by kernel_rfl) (by kernel_rfl) (fun _ _ _ h => h) (Or.inl ⟨by rfl, ?_⟩) (by assumption) ?_
        rotate_left
        · intro W hS
          try dsimp only at hS
          try obtain ⟨hs0, hs1⟩ := hS
          go_simp
          try with_reducible rfl
        simp only [Act.put]
        refine wpAnyZ_two (i := 1) (j := 10) (by kernel_rfl) rfl rfl (fun K hK => ?_) (fun K hK => ?_)
        · go_simp
          refine hK.out _ _ (HQ.out _ hbE.out) (fun hHeld => ?_)
          clear hK K
          try simp only [Act.put, List.setIfInBounds_toArray, List.set_cons_zero, List.set_cons_succ]
          refine wpAnyZ_two (i := 8) (j := 10) (by kernel_rfl) rfl rfl (fun K hK => ?_) (fun K hK => ?_)
          · refine step_append rfl _ _ 22 rfl _ _ _ rfl rfl AR1.out ?_
            refine hK.out _ _ (HQ.out _ AB1.out) (fun hHeld => ?_)
            clear hK K
            try simp only [Act.put, List.setIfInBounds_toArray]
            refine wpAnyZ_one (i := 10) (by kernel_rfl) rfl (fun K hK => ?_)
            go_simp
            refine hK.out _ _ (HQ.out _ AB0.out) (fun hHeld => ?_)
            clear hK K
            try simp only [Act.put, List.setIfInBounds_toArray, List.set_cons_zero, List.set_cons_succ]
            refine wpAnyZ_one (i := 11) (by kernel_rfl) rfl (fun K hK => ?_)
            refine step_append rfl _ _ 22 rfl _ _ _ rfl rfl AR2.out ?_
            refine hK.out _ _ (HQ.out _ AB2.out) (fun hHeld => ?_)
            clear hK K
            try simp only [Act.put, List.setIfInBounds_toArray]
            refine wpAnyZ_one (i := 18) (by kernel_rfl) rfl (fun K hK => ?_)
            refine step_append rfl _ _ 22 rfl _ _ _ rfl rfl AR3.out ?_
            refine hK.out _ _ (HQ.out _ AN3.out.bel) (fun hHeld => ?_)
            clear hK K
            try simp only [Act.put]
            refine wpAnyZ_take (i := 19) (f := 22) (v := ?_) rfl (by kernel_rfl) (by kernel_rfl) (by kernel_rfl) (by kernel_rfl) (by kernel_rfl) (fun _ _ _ h => h) (Or.inl ⟨by rfl, ?_⟩) (by assumption) ?_
            rotate_left
            · intro W hS
              try dsimp only at hS
              try obtain ⟨hs0, hs1⟩ := hS
              go_simp
              try with_reducible rfl
            simp only [Act.put]
            refine wpAnyZ_take (i := 20) (f := 22) (v := ?_) rfl (by kernel_rfl) (by kernel_rfl) (by kernel_rfl) (by kernel_rfl) (by kernel_rfl) (fun _ _ _ h => h) (Or.inl ⟨by rfl, ?_⟩) (by assumption) ?_
            rotate_left
            · intro W hS
              try dsimp only at hS
              try obtain ⟨hs0, hs1⟩ := hS
              go_simp
              try with_reducible rfl
            simp only [Act.put]
            refine wpAnyZ_last (by kernel_rfl) rfl (by kernel_rfl) (fun K hK => ?_)
            go_simp
            refine hK.out _ _ ?_
            clear hK K
            try simp only [Act.put, List.setIfInBounds_toArray, List.set_cons_zero, List.set_cons_succ]
            go_end0
            exact ⟨rfl, AH.out⟩
          · go_simp
            refine hK.out _ _ (HQ.out _ BB0.out) (fun hHeld => ?_)
            clear hK K
            try simp only [Act.put, List.setIfInBounds_toArray, List.set_cons_zero, List.set_cons_succ]
            refine wpAnyZ_one (i := 8) (by kernel_rfl) rfl (fun K hK => ?_)
            refine step_append rfl _ _ 22 rfl _ _ _ rfl rfl BR1.out ?_
            refine hK.out _ _ (HQ.out _ BB1.out) (fun hHeld => ?_)
            clear hK K
            try simp only [Act.put, List.setIfInBounds_toArray]
            refine wpAnyZ_one (i := 11) (by kernel_rfl) rfl (fun K hK => ?_)
            refine step_append rfl _ _ 22 rfl _ _ _ rfl rfl BR2.out ?_
            refine hK.out _ _ (HQ.out _ BB2.out) (fun hHeld => ?_)
            clear hK K
            try simp only [Act.put]
            refine wpAnyZ_one (i := 18) (by kernel_rfl) rfl (fun K hK => ?_)
            refine step_append rfl _ _ 22 rfl _ _ _ rfl rfl BR3.out ?_
            refine hK.out _ _ (HQ.out _ BN3.out.bel) (fun hHeld => ?_)
            clear hK K
            try simp only [Act.put]
            refine wpAnyZ_take (i := 19) (f := 22) (v := ?_) rfl (by kernel_rfl) (by kernel_rfl) (by kernel_rfl) (by kernel_rfl) (by kernel_rfl) (fun _ _ _ h => h) (Or.inl ⟨by rfl, ?_⟩) (by assumption) ?_
            rotate_left
            · intro W hS
              try dsimp only at hS
              try obtain ⟨hs0, hs1⟩ := hS
              go_simp
              try with_reducible rfl
            simp only [Act.put]
            refine wpAnyZ_take (i := 20) (f := 22) (v := ?_) rfl (by kernel_rfl) (by kernel_rfl) (by kernel_rfl) (by kernel_rfl) (by kernel_rfl) (fun _ _ _ h => h) (Or.inl ⟨by rfl, ?_⟩) (by assumption) ?_
            rotate_left
            · intro W hS
              try dsimp only at hS
              try obtain ⟨hs0, hs1⟩ := hS
              go_simp
              try with_reducible rfl
            simp only [Act.put]
            refine wpAnyZ_last (by kernel_rfl) rfl (by kernel_rfl) (fun K hK => ?_)
            go_simp
            refine hK.out _ _ ?_
            clear hK K
            try simp only [Act.put, List.setIfInBounds_toArray, List.set_cons_zero, List.set_cons_succ]
            go_end0
            exact ⟨rfl, BH.out⟩
        · go_simp
          refine hK.out _ _ (HQ.out _ CBF.out) (fun hHeld => ?_)
          clear hK K
          try simp only [Act.put, List.setIfInBounds_toArray, List.set_cons_zero, List.set_cons_succ]
          refine wpAnyZ_one (i := 1) (by kernel_rfl) rfl (fun K hK => ?_)
          go_simp
          refine hK.out _ _ (HQ.out _ CB0.out) (fun hHeld => ?_)
          clear hK K
          try simp only [Act.put, List.setIfInBounds_toArray, List.set_cons_zero, List.set_cons_succ]
          refine wpAnyZ_one (i := 8) (by kernel_rfl) rfl (fun K hK => ?_)
          refine step_append rfl _ _ 22 rfl _ _ _ rfl rfl CR1.out ?_
          refine hK.out _ _ (HQ.out _ CB1.out) (fun hHeld => ?_)
          clear hK K
          try simp only [Act.put, List.setIfInBounds_toArray]
          refine wpAnyZ_one (i := 11) (by kernel_rfl) rfl (fun K hK => ?_)
          refine step_append rfl _ _ 22 rfl _ _ _ rfl rfl CR2.out ?_
          refine hK.out _ _ (HQ.out _ CB2.out) (fun hHeld => ?_)
          clear hK K
          try simp only [Act.put]
          refine wpAnyZ_one (i := 18) (by kernel_rfl) rfl (fun K hK => ?_)
          refine step_append rfl _ _ 22 rfl _ _ _ rfl rfl CR3.out ?_
          refine hK.out _ _ (HQ.out _ CN3.out.bel) (fun hHeld => ?_)
          clear hK K
          try simp only [Act.put]
          refine wpAnyZ_take (i := 19) (f := 22) (v := ?_) rfl (by kernel_rfl) (by kernel_rfl) (by kernel_rfl) (by kernel_rfl) (by kernel_rfl) (fun _ _ _ h => h) (Or.inl ⟨by rfl, ?_⟩) (by assumption) ?_
          rotate_left
          · intro W hS
            try dsimp only at hS
            try obtain ⟨hs0, hs1⟩ := hS
            go_simp
            try with_reducible rfl
          simp only [Act.put]
          refine wpAnyZ_take (i := 20) (f := 22) (v := ?_) rfl (by kernel_rfl) (by kernel_rfl) (by kernel_rfl) (by kernel_rfl) (by kernel_rfl) (fun _ _ _ h => h) (Or.inl ⟨by rfl, ?_⟩) (by assumption) ?_
          rotate_left
          · intro W hS
            try dsimp only at hS
            try obtain ⟨hs0, hs1⟩ := hS
            go_simp
            try with_reducible rfl
          simp only [Act.put]
          refine wpAnyZ_last (by kernel_rfl) rfl (by kernel_rfl) (fun K hK => ?_)
          go_simp
          refine hK.out _ _ ?_
          clear hK K
          try simp only [Act.put, List.setIfInBounds_toArray, List.set_cons_zero, List.set_cons_succ]
          go_end0
          exact ⟨rfl, CH.out⟩

end Go.Proofs.Ytfiacojgddpphaa
namespace Go.Proofs.Ytfiacojgddpphaa
open Go.RowKit Go.Lib Go.Joins

theorem rput_calls (f : Fil) (fa : Option Addr) (fc : Nat) (w : World) {S Sf : Nat → Prop} {B : Nat} {d : Dsk} (hd : RHas w S B d) (hmost : d.L.length ≤ 1000) (hnm : f.name.size ≤ 1099511627776) (hnms : ∀ g ∈ d.L, g.name.size ≤ 1099511627776) (hr : Row w Sf fa f.data) (hc0 : fa = none → fc = 0) (hl : f.data.length ≤ 1073741824) :
    Calls Try.prog 36 #[.pointer (some ⟨B, 0, none⟩), .agg #[.string f.name, .slice fa f.data.length fc, .int .i64 (f.safe : Int)]] w (RPutOut w S B { d with L := ins f d.L }) := by
  obtain ⟨hSlt, lv, ta, tn, tc, Sd, St, h⟩ := hd
  obtain ⟨cells, ho, hfc⟩ := h.row
  rcases ho.2 with ⟨e1, e0⟩ | ⟨g, lc, cur, e1, _⟩
  · subst e1
    exact rput_none f fa fc w ⟨hSlt, ta, tn, tc, Sd, St, by rw [e0]; exact h⟩ hmost hnm hnms hr hc0 hl hr.1
  · subst e1
    exact rput_some f fa fc w ⟨hSlt, ta, tn, tc, Sd, St, h⟩ hmost hnm hnms hr hc0 hl hr.1

end Go.Proofs.Ytfiacojgddpphaa
