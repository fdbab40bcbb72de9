/-
  The reference's Do: an Append that a trouble befalls, in part. Conditions: the disk lies in memory; names are short, bytes, files and troubles few.
-/
import Derived.Test.YtacfcfbleogioaaGreatDoorRPuts
namespace Go.Proofs.YtacfcfbleogioaaGreatDoor
open Go.RowKit Go.Lib Go.Joins

set_option maxRecDepth 100000 in
set_option maxHeartbeats 16000000 in
theorem rdo_t2p (s t : ByteArray) (n : Int) (a : Option Addr) (b : List Nat) (m c : Nat) (w : World) {S O : Nat → Prop} {B : Nat} {d : Dsk} (hh : DoHyp w S O B d s t a b m c) {tt0 : Tro} (hdown : d.down = false) (hr : ref d ⟨2, s, t, n, b⟩ = 0) (ht : tro d.tr (d.ops + 1) = some tt0) (hpart : 0 < tt0.part) :
    Calls Tryz.prog 66 #[.pointer (some ⟨B, 0, none⟩), .int .i64 2, .string s, .string t, .int .i64 n, .slice a m c] w (RDoes w S B (.int .i64 (step d ⟨2, s, t, n, b⟩).1) (step d ⟨2, s, t, n, b⟩).2) := by
  rw [step_some hdown hr ht]
  dsimp only
  obtain ⟨hd, hs, hns, hnt, hrow, hoff, hnul, hlen, hcap, hcmost, hfew, htl⟩ := hh
  have ho0 := hs.ops0
  have ho1 := hs.ops1
  have hus := hs.used
  have hu1 := hd.opsUp (d.ops + 1)
  have hi := hd.1
  have hmost := hi.most
  obtain ⟨hi0, hSlt, lv, ta, tn, tc, Sd, St, h⟩ := hd
  have c3 : w.cell? ⟨B, 3, none⟩ = some (.int .i64 d.ops) := (cell_of_block h.blk 3).trans rfl
  have c4 : w.cell? ⟨B, 4, none⟩ = some (.bool d.down) := (cell_of_block h.blk 4).trans rfl
  have k3 := unfrozen_of_block h.blk 3
  rw [hdown] at c4
  have hblk1 := block_setCell (i := 3) h.blk (.int .i64 (d.ops + 1))
  have hk1 : Keeps (One B) w (w.setCell ⟨B, 3, none⟩ (.int .i64 (d.ops + 1))) := (Keeps.refl (One B) w).setCell (p := ⟨B, 3, none⟩) (.inl rfl) _
  have htro1 := h.tro.keep hk1 (fun k e hkB => (h.sT k e).2.1 hkB)
  have hrow1 := hrow.keep hk1 (fun k e hkB => hoff k e (by rw [show k = B from hkB]; exact h.sB))
  obtain ⟨w1, hw1⟩ : ∃ w1, w.setCell ⟨B, 3, none⟩ (.int .i64 (d.ops + 1)) = w1 := ⟨_, rfl⟩
  rw [hw1] at hu1 hblk1 hk1 htro1 hrow1
  have t2 : w1.cell? ⟨B, 2, none⟩ = some (.slice ta tn tc) := (cell_of_block hblk1 2).trans rfl
  have hkS : Keeps S w w1 := hk1.mono (fun k _ e => by rw [show k = B from e]; exact h.sB)
  have HBLK := Lib.hid hblk1
  have HTRO := Lib.hid htro1
  have HTRN := Lib.hid h.trn
  have HROW := Lib.hid hrow1
  have HU1 := Lib.hid hu1
  have HKS := Lib.hid hkS
  have HUS := Lib.hid hus
  have htn : tn ≤ 1048576 := by rw [← h.trn]; exact htl
  have HOFF := Lib.hid hoff
  have HLEN := Lib.hid hlen
  have HNUL := Lib.hid hnul
  have HAT := Lib.hid (fun W (hW : RefD W S B { d with ops := d.ops + 1 }) => rat_calls s W hW)
  have HREF : Hid (∀ W, RefD W S B { d with ops := d.ops + 1 } → Calls Tryz.prog 105 #[.pointer (some ⟨B, 0, none⟩), .int .i64 2, .string s, .string t, .int .i64 (m : Int)] W (Tells (.int .i64 (ref { d with ops := d.ops + 1 } ⟨2, s, t, (m : Int), b⟩)) W)) := Lib.hid (fun W hW => rref_calls 2 (by decide) s t (m : Int) b W hW hus hns hnt (by intro _; rw [hlen]))
  have hrr : ref { d with ops := d.ops + 1 } ⟨2, s, t, (m : Int), b⟩ = ref d ⟨2, s, t, n, b⟩ := by rfl
  rw [hrr] at HREF
  obtain ⟨z, hz⟩ : ∃ z, d.ops = z := ⟨_, rfl⟩
  obtain ⟨o, ho⟩ : ∃ o, z + 1 = o := ⟨_, rfl⟩
  rw [hz] at c3 ho0 ho1 hw1 HBLK
  have HZ := Lib.hid hz
  have HO := Lib.hid ho
  have HI := Lib.hid hi
  clear hi hi0 hSlt h hblk1 hk1 htro1 hrow1 hu1 hkS hus hoff hlen hnul hrow hs htl hrr hz ho
  have HT : Hid (kp d.tr (d.ops + 1) = (tt0.kind, tt0.part)) := Lib.hid (by unfold kp; rw [ht])
  have hth := tro_hits ht
  obtain ⟨K0, hK0⟩ : ∃ K0, tt0.kind = K0 := ⟨_, rfl⟩
  obtain ⟨P0, hP0⟩ : ∃ P0, tt0.part = P0 := ⟨_, rfl⟩
  rw [hK0, hP0] at HT
  rw [hK0] at hth ⊢
  rw [hP0] at hpart ⊢
  obtain ⟨pn, rfl⟩ : ∃ pn : Nat, P0 = (pn : Int) := Int.eq_ofNat_of_zero_le (by omega)
  have HINV : Hid (Inv ⟨d.room, part ⟨2, s, t, n, b⟩ (pn : Int) d.L, d.tr, d.ops + 1, d.down⟩) := Lib.hid (inv_part HI.out HROW.out.1 hr _ _ _ _)
  obtain ⟨mp, hmp⟩ : ∃ mp, min pn m = mp := ⟨_, rfl⟩
  have HMP := Lib.hid hmp
  have HMIN : Hid (min (pn : Int) (m : Int) = (mp : Int)) := Lib.hid (by omega)
  have hmpm : mp ≤ m := by omega
  have HDOWN := Lib.hid hdown
  have hp0 : decide ((0 : Int) < (pn : Int)) = true := by simp; omega
  have hp1 : 0 < pn := by omega
  have hp2 : decide (0 < pn) = true := by simp; omega
  clear hmp hpart
  obtain ⟨f, hfn0, hrf⟩ := ref_file (d := d) (o := ⟨2, s, t, n, b⟩) (show 2 ≠ 1 by decide) hr
  have hfn : fnd s d.L = some f := hfn0
  obtain ⟨j, hj, hfj⟩ := ixF_some (i := 0) hfn
  rw [Nat.zero_add] at hj
  have hjl : j < d.L.length := (List.getElem?_eq_some_iff.1 hfj).1
  have HAT2 : Hid (∀ W, RefD W S B { d with ops := d.ops + 1 } → Calls Tryz.prog 36 #[.pointer (some ⟨B, 0, none⟩), .string s] W fun e w' => e = .returned (.int .i64 (j : Int)) ∧ W = w') := Lib.hid (fun W hW => (HAT.out W hW).mono fun e w' h => ⟨h.1.trans (congrArg (fun x => Ending.returned (.int .i64 x)) (hj)), h.2⟩)
  clear HAT
  have HFJ := Lib.hid hfj
  have HFN := Lib.hid hfn
  have HNAME : Hid (f.name = s) := Lib.hid (fnd_some hfn).2
  have hfm := (fnd_some hfn).1
  have hflu : f.data.length ≤ 1073741824 := Nat.le_trans (used_mem hfm) HUS.out
  have HFB := Lib.hid (HI.out.byte f hfm)
  have HFS := Lib.hid (HI.out.safe f hfm)
  have hj1000 : j < 1000 := by omega
  have hj00 : (0 : Int) ≤ (j : Int) := by omega
  clear hfn0 hfn hj hfj hfm hrf
  rw [HZ.out, HO.out] at HT
  rw [show ref d ⟨2, s, t, n, b⟩ = 0 from hr] at HREF
  have HRR := Lib.hid hr
  clear hr ht hK0 hP0
  go_enter Tryz.func66, Tryz.ntmps66
  go_wp2
  go_loopg [13, 14, 15, 16] tn (fun g va vb idx _ wr => ∃ (j : Nat) (K P y : Int), va = .int .i64 K ∧ vb = .int .i64 P ∧ idx = .int .i64 y ∧ y + 1 = (j : Int) ∧ g = j ∧ j ≤ tn ∧ kp (d.tr.drop j) o = (K, P) ∧ Below w1.heap.size w1 wr)
  case atStart => exact ⟨tn, 0, 0, (tn : Int) - 1, rfl, rfl, rfl, by omega, rfl, Nat.le_refl _, by rw [← HTRN.out]; exact kp_end, Below.refl _ _⟩
  case round =>
    obtain ⟨j, K, P, y, rfl, rfl, rfl, hy, hg, hjn, hkp, hbr⟩ := hrel
    have HKP := Lib.hid hkp
    have HBR := Lib.hid hbr
    have HG := Lib.hid hg
    have hszr := hbr.size
    clear hkp hbr hg
    by_cases hj : j = 0
    · subst hj
      obtain rfl : y = -1 := by omega
      have HKP2 : Hid (kp d.tr o = (K, P)) := HKP
      clear HKP hy hjn
      obtain ⟨rfl, rfl⟩ : K0 = K ∧ (pn : Int) = P := by
        have := HKP2.out
        rw [show kp d.tr o = (K0, (pn : Int)) from HT.out] at this
        simpa using this
      have hK : K0 = 1 ∨ K0 = 2 ∨ K0 = 3 := by omega
      clear hth
      rcases hK with rfl | rfl | rfl
      · go_wp2_with fail
        with_reducible refine (HREF.out _ (HU1.out.below HBR.out)).mono ?_
        rintro e w3 ⟨rfl, q, rfl⟩
        have HB3 := Lib.hid (below_then HBR.out (below_drewN wr q))
        obtain ⟨w3, hw3⟩ : ∃ w3, wr.drewN q = w3 := ⟨_, rfl⟩
        rw [hw3] at HB3
        try simp only [hw3]
        clear hw3 HKP2
        have HR3 := Lib.hid (HU1.out.below HB3.out)
        have HK3 : Hid (Keeps S w w3) := Lib.hid (HKS.out.trans (keeps_below HB3.out S) (fresh_refl _ _))
        clear HU1 HBR HTRO HBLK HREF hszr
        go_wp2_with fail
        with_reducible refine (HAT2.out _ HR3.out).mono ?_
        rintro e w4 ⟨rfl, rfl⟩
        obtain ⟨g, lc, ta3, tn3, tc3, Sd3, St3, da, dc, h3, hfa⟩ := HR3.out.2.file HFJ.out
        have hb1 : w3.cell? ⟨B, 1, none⟩ = some (.slice (some ⟨g, 0, none⟩) d.L.length lc) := hfa.b1
        have hr0 := hfa.r0
        have hr1 := hfa.r1
        have hr2 := hfa.r2
        have hlc : d.L.length ≤ lc := hfa.lc
        have hfit := hfa.fit
        obtain ⟨fl, hfl⟩ : ∃ fl, f.data.length = fl := ⟨_, rfl⟩
        obtain ⟨N, hN⟩ : ∃ N, d.L.length = N := ⟨_, rfl⟩
        obtain ⟨sf, hsf⟩ : ∃ sf, f.safe = sf := ⟨_, rfl⟩
        have hlen2 : (b.take (wth (pn : Int) b.length)).length = mp := by
          rw [List.length_take, HLEN.out]
          have := HMP.out
          unfold wth
          omega
        obtain ⟨a1, e1, W1', a3, e3, W3', r1', hbl1, r3', hbl3, ho3, hn3⟩ := copy_two (W := w3.drew) hfa.row hfa.nul hfl (by omega) ((HROW.out.keep (keeps_below HB3.out Non).drew (fun _ _ h => h)).take (wth (pn : Int) b.length)) HNUL.out hlen2 (by omega) (N := w3.heap.size) rfl
        have hmv := h3.data (w2 := W3') HR3.out.2.1 ⟨hbl3.os, hbl3.tape, hbl3.output, hbl3.size, hbl3.block⟩ HFJ.out (l := f.data ++ b.take (wth (pn : Int) b.length)) (fun c hc => by rcases List.mem_append.1 hc with h | h; exact HFB.out c h; exact HROW.out.1 c (List.mem_of_mem_take h)) (by rw [List.length_append, hfl, hlen2]) ho3 hn3
        have hL : part ⟨2, s, t, n, b⟩ (pn : Int) d.L = d.L.set j { f with data := f.data ++ b.take (wth (pn : Int) b.length) } := upd_set (h := addB (b.take (wth (pn : Int) b.length))) HI.out.srt HFJ.out HNAME.out
        have hT5 : RTurns w3 S B ⟨d.room, part ⟨2, s, t, n, b⟩ (pn : Int) d.L, d.tr, d.ops + 1, d.down⟩ (W3'.setCell ⟨g, j * 3 + 1, none⟩ (.slice a3 (fl + mp) e3)) := RMoves.turns (by rw [hL]; exact hmv) HINV.out
        have hq : ∀ W, Below w3.heap.size w3 W → W.cell? ⟨B, 1, none⟩ = some (.slice (some ⟨g, 0, none⟩) N lc) ∧ W.cell? ⟨g, j * 3 + 1, none⟩ = some (.slice da fl dc) := fun W hb => by
          have := hfa.below hb
          exact ⟨by rw [← hN]; exact this.b1, by rw [← hfl]; exact this.r1⟩
        have HQ : Hid (∀ W, Below w3.drew.heap.size w3.drew W → W.cell? ⟨B, 1, none⟩ = some (.slice (some ⟨g, 0, none⟩) N lc) ∧ W.cell? ⟨g, j * 3 + 1, none⟩ = some (.slice da fl dc)) := Lib.hid (fun W hb => hq W ⟨hb.os, hb.tape, hb.output, hb.size, hb.block⟩)
        have hfz : W3'.frozen? ⟨g, j * 3 + 1, none⟩ = false := (hfa.below (w' := W3') ⟨hbl3.os, hbl3.tape, hbl3.output, hbl3.size, hbl3.block⟩).free _
        have HR1 := Lib.hid r1'
        have HR2 := Lib.hid r3'
        have HA : Hid (Below w3.drew.heap.size w3.drew (w3.drew.alloc (.cells #[] 5))) := Lib.hid ((Below.refl _ _).alloc (Nat.le_refl _) _)
        have HB1 := Lib.hid hbl1
        have HB2 := Lib.hid hbl3
        have HZ0 : Hid (Below w3.drew.heap.size w3.drew w3.drew) := Lib.hid (Below.refl _ _)
        have hjN : (j : Int) < (N : Int) := by omega
        obtain ⟨w5, hw5⟩ : ∃ w5, W3'.setCell ⟨g, j * 3 + 1, none⟩ (.slice a3 (fl + mp) e3) = w5 := ⟨_, rfl⟩
        rw [hw5] at hT5
        obtain ⟨S5, h5, hf5, hk5⟩ := hT5
        have HR5 := Lib.hid h5
        have HK5 : Hid (Keeps S w w5) := Lib.hid (HK3.out.trans hk5 (fresh_refl _ _))
        have HF5 : Hid (Fresh S w.heap.size S5) := Lib.hid (fresh_trans (fresh_refl S w.heap.size) hf5 HK3.out.size)
        have HW5 := hw5
        have hmin := HMIN.out
        have hmp0 : (0 : Int) ≤ (mp : Int) := by omega
        have hmpc : (mp : Int) ≤ (c : Int) := by omega
        clear hq hL hmv ho3 hn3 hbl1 hbl3 r1' r3' h3 hfa hb1 hr0 hr1 hr2 hN hfl hsf hfit hlc h5 hf5 hk5 hlen2
        go_wp2
        refine wp_region_z (S := fun W => W.cell? ⟨B, 1, none⟩ = some (.slice (some ⟨g, 0, none⟩) N lc) ∧ W.cell? ⟨g, j * 3 + 1, none⟩ = some (.slice da fl dc)) 24 (by kernel_rfl) (HQ.out _ HZ0.out) (fun hHeld => ?_)
        refine tkZ 0 25 (v := ?_) rfl ?_ ?_ (by kernel_rfl) (fun _ _ _ h => h) (by rfl) (by assumption)
        rotate_left
        · intro W hS
          try dsimp only at hS
          try obtain ⟨hs0, hs1⟩ := hS
          go_simp
          try with_reducible rfl
        simp only [Act.put, List.setIfInBounds_toArray]
        refine tkZ 1 25 (v := ?_) rfl ?_ ?_ (by kernel_rfl) (fun _ _ _ h => h) (by rfl) (by assumption)
        rotate_left
        · intro W hS
          try dsimp only at hS
          try obtain ⟨hs0, hs1⟩ := hS
          go_simp
          try with_reducible rfl
        simp only [Act.put]
        refine tkZ 2 25 (v := ?_) rfl ?_ ?_ (by kernel_rfl) (fun _ _ _ h => h) (by rfl) (by assumption)
        rotate_left
        · intro W hS
          try dsimp only at hS
          try obtain ⟨hs0, hs1⟩ := hS
          go_simp
          try with_reducible rfl
        simp only [Act.put]
        refine tkZ 3 25 (v := ?_) rfl ?_ ?_ (by kernel_rfl) (fun _ _ _ h => h) (by rfl) (by assumption)
        rotate_left
        · intro W hS
          try dsimp only at hS
          try obtain ⟨hs0, hs1⟩ := hS
          go_simp
          try with_reducible rfl
        simp only [Act.put]
        refine tkZ 4 25 (v := ?_) rfl ?_ ?_ (by kernel_rfl) (fun _ _ _ h => h) (by rfl) (by assumption)
        rotate_left
        · intro W hS
          try dsimp only at hS
          try obtain ⟨hs0, hs1⟩ := hS
          go_simp
          try with_reducible rfl
        simp only [Act.put]
        refine tkZ 6 25 (v := ?_) rfl ?_ ?_ (by kernel_rfl) (fun _ _ _ h => h) (by rfl) (by assumption)
        rotate_left
        · intro W hS
          try dsimp only at hS
          try obtain ⟨hs0, hs1⟩ := hS
          go_simp
          try with_reducible rfl
        simp only [Act.put]
        refine tkZ 7 25 (v := ?_) rfl ?_ ?_ (by kernel_rfl) (fun _ _ _ h => h) (by rfl) (by assumption)
        rotate_left
        · intro W hS
          try dsimp only at hS
          try obtain ⟨hs0, hs1⟩ := hS
          go_simp
          try with_reducible rfl
        simp only [Act.put]
        refine tkZ 8 25 (v := ?_) rfl ?_ ?_ (by kernel_rfl) (fun _ _ _ h => h) (by rfl) (by assumption)
        rotate_left
        · intro W hS
          try dsimp only at hS
          try obtain ⟨hs0, hs1⟩ := hS
          go_simp
          try with_reducible rfl
        simp only [Act.put]
        refine tkZ 9 25 (v := ?_) rfl ?_ ?_ (by kernel_rfl) (fun _ _ _ h => h) (by rfl) (by assumption)
        rotate_left
        · intro W hS
          try dsimp only at hS
          try obtain ⟨hs0, hs1⟩ := hS
          go_simp
          try with_reducible rfl
        simp only [Act.put]
        refine tkZ 10 25 (v := ?_) rfl ?_ ?_ (by kernel_rfl) (fun _ _ _ h => h) (by rfl) (by assumption)
        rotate_left
        · intro W hS
          try dsimp only at hS
          try obtain ⟨hs0, hs1⟩ := hS
          go_simp
          try with_reducible rfl
        simp only [Act.put]
        refine tkZ 11 25 (v := ?_) rfl ?_ ?_ (by kernel_rfl) (fun _ _ _ h => h) (by rfl) (by assumption)
        rotate_left
        · intro W hS
          try dsimp only at hS
          try obtain ⟨hs0, hs1⟩ := hS
          go_simp
          try with_reducible rfl
        simp only [Act.put]
        refine tkZ 12 25 (v := ?_) rfl ?_ ?_ (by kernel_rfl) (fun _ _ _ h => h) (by rfl) (by assumption)
        rotate_left
        · intro W hS
          try dsimp only at hS
          try obtain ⟨hs0, hs1⟩ := hS
          go_simp
          try with_reducible rfl
        simp only [Act.put]
        refine tkZ 13 25 (v := ?_) rfl ?_ ?_ (by kernel_rfl) (fun _ _ _ h => h) (by rfl) (by assumption)
        rotate_left
        · intro W hS
          try dsimp only at hS
          try obtain ⟨hs0, hs1⟩ := hS
          go_simp
          try with_reducible rfl
        simp only [Act.put]
        refine tkZ 15 25 (v := ?_) rfl ?_ ?_ (by kernel_rfl) (fun _ _ _ h => h) (by rfl) (by assumption)
        rotate_left
        · intro W hS
          try dsimp only at hS
          try obtain ⟨hs0, hs1⟩ := hS
          go_simp
          try with_reducible rfl
        simp only [Act.put]
        refine tkZ 16 25 (v := ?_) rfl ?_ ?_ (by kernel_rfl) (fun _ _ _ h => h) (by rfl) (by assumption)
        rotate_left
        · intro W hS
          try dsimp only at hS
          try obtain ⟨hs0, hs1⟩ := hS
          go_simp
          try with_reducible rfl
        simp only [Act.put]
        refine tkZ 17 25 (v := ?_) rfl ?_ ?_ (by kernel_rfl) (fun _ _ _ h => h) (by rfl) (by assumption)
        rotate_left
        · intro W hS
          try dsimp only at hS
          try obtain ⟨hs0, hs1⟩ := hS
          go_simp
          try with_reducible rfl
        simp only [Act.put]
        refine tkZ 18 25 (v := ?_) rfl ?_ ?_ (by kernel_rfl) (fun _ _ _ h => h) (by rfl) (by assumption)
        rotate_left
        · intro W hS
          try dsimp only at hS
          try obtain ⟨hs0, hs1⟩ := hS
          go_simp
          try with_reducible rfl
        simp only [Act.put]
        refine tkZ 19 25 (v := ?_) rfl ?_ ?_ (by kernel_rfl) (fun _ _ _ h => h) (by rfl) (by assumption)
        rotate_left
        · intro W hS
          try dsimp only at hS
          try obtain ⟨hs0, hs1⟩ := hS
          go_simp
          try with_reducible rfl
        simp only [Act.put]
        refine tkZ 20 25 (v := ?_) rfl ?_ ?_ (by kernel_rfl) (fun _ _ _ h => h) (by rfl) (by assumption)
        rotate_left
        · intro W hS
          try dsimp only at hS
          try obtain ⟨hs0, hs1⟩ := hS
          go_simp
          try with_reducible rfl
        simp only [Act.put]
        refine wpAnyZ_one (i := 5) (by kernel_rfl) rfl (fun K hK => ?_)
        go_simp
        refine hK.out _ _ (HQ.out _ HA.out) (fun hHeld => ?_)
        clear hK K
        try simp only [Act.put, List.setIfInBounds_toArray, List.set_cons_zero, List.set_cons_succ]
        refine wpAnyZ_one (i := 14) (by kernel_rfl) rfl (fun K hK => ?_)
        refine step_append rfl _ _ 61 rfl _ _ _ rfl rfl HR1.out ?_
        refine hK.out _ _ (HQ.out _ HB1.out) (fun hHeld => ?_)
        clear hK K
        try simp only [Act.put, List.setIfInBounds_toArray]
        refine wpAnyZ_one (i := 21) (by kernel_rfl) rfl (fun K hK => ?_)
        refine step_append rfl _ _ 61 rfl _ _ _ rfl rfl HR2.out ?_
        refine hK.out _ _ (HQ.out _ HB2.out) (fun hHeld => ?_)
        clear hK K
        try simp only [Act.put]
        refine tkZ 22 25 (v := ?_) rfl ?_ ?_ (by kernel_rfl) (fun _ _ _ h => h) (by rfl) (by assumption)
        rotate_left
        · intro W hS
          try dsimp only at hS
          try obtain ⟨hs0, hs1⟩ := hS
          go_simp
          try with_reducible rfl
        simp only [Act.put]
        refine tkZ 23 25 (v := ?_) rfl ?_ ?_ (by kernel_rfl) (fun _ _ _ h => h) (by rfl) (by assumption)
        rotate_left
        · intro W hS
          try dsimp only at hS
          try obtain ⟨hs0, hs1⟩ := hS
          go_simp
          try with_reducible rfl
        simp only [Act.put]
        refine wpAnyZ_last (by kernel_rfl) rfl (by kernel_rfl) (fun K hK => ?_)
        go_simp
        refine hK.out _ _ ?_
        clear hK K
        try simp only [Act.put, List.setIfInBounds_toArray, List.set_cons_zero, List.set_cons_succ]
        try simp only [HW5]
        clear HW5
        have HF : Hid (RTurns w S B { d with ops := d.ops + 1, L := part ⟨2, s, t, n, b⟩ (pn : Int) d.L, down := decide ((1 : Int) = 3) } w5) := Lib.hid (by
          rw [show decide ((1 : Int) = 3) = d.down from by rw [HDOWN.out]; rfl]
          exact ⟨S5, HR5.out, HF5.out, HK5.out⟩)
        go_wp2
        go_ret
        exact ⟨rfl, HF.out⟩
      · go_wp2_with fail
        with_reducible refine (HREF.out _ (HU1.out.below HBR.out)).mono ?_
        rintro e w3 ⟨rfl, q, rfl⟩
        have HB3 := Lib.hid (below_then HBR.out (below_drewN wr q))
        obtain ⟨w3, hw3⟩ : ∃ w3, wr.drewN q = w3 := ⟨_, rfl⟩
        rw [hw3] at HB3
        try simp only [hw3]
        clear hw3 HKP2
        have HR3 := Lib.hid (HU1.out.below HB3.out)
        have HK3 : Hid (Keeps S w w3) := Lib.hid (HKS.out.trans (keeps_below HB3.out S) (fresh_refl _ _))
        clear HU1 HBR HTRO HBLK HREF hszr
        go_wp2_with fail
        with_reducible refine (HAT2.out _ HR3.out).mono ?_
        rintro e w4 ⟨rfl, rfl⟩
        obtain ⟨g, lc, ta3, tn3, tc3, Sd3, St3, da, dc, h3, hfa⟩ := HR3.out.2.file HFJ.out
        have hb1 : w3.cell? ⟨B, 1, none⟩ = some (.slice (some ⟨g, 0, none⟩) d.L.length lc) := hfa.b1
        have hr0 := hfa.r0
        have hr1 := hfa.r1
        have hr2 := hfa.r2
        have hlc : d.L.length ≤ lc := hfa.lc
        have hfit := hfa.fit
        obtain ⟨fl, hfl⟩ : ∃ fl, f.data.length = fl := ⟨_, rfl⟩
        obtain ⟨N, hN⟩ : ∃ N, d.L.length = N := ⟨_, rfl⟩
        obtain ⟨sf, hsf⟩ : ∃ sf, f.safe = sf := ⟨_, rfl⟩
        have hlen2 : (b.take (wth (pn : Int) b.length)).length = mp := by
          rw [List.length_take, HLEN.out]
          have := HMP.out
          unfold wth
          omega
        obtain ⟨a1, e1, W1', a3, e3, W3', r1', hbl1, r3', hbl3, ho3, hn3⟩ := copy_two (W := w3.drew) hfa.row hfa.nul hfl (by omega) ((HROW.out.keep (keeps_below HB3.out Non).drew (fun _ _ h => h)).take (wth (pn : Int) b.length)) HNUL.out hlen2 (by omega) (N := w3.heap.size) rfl
        have hmv := h3.data (w2 := W3') HR3.out.2.1 ⟨hbl3.os, hbl3.tape, hbl3.output, hbl3.size, hbl3.block⟩ HFJ.out (l := f.data ++ b.take (wth (pn : Int) b.length)) (fun c hc => by rcases List.mem_append.1 hc with h | h; exact HFB.out c h; exact HROW.out.1 c (List.mem_of_mem_take h)) (by rw [List.length_append, hfl, hlen2]) ho3 hn3
        have hL : part ⟨2, s, t, n, b⟩ (pn : Int) d.L = d.L.set j { f with data := f.data ++ b.take (wth (pn : Int) b.length) } := upd_set (h := addB (b.take (wth (pn : Int) b.length))) HI.out.srt HFJ.out HNAME.out
        have hT5 : RTurns w3 S B ⟨d.room, part ⟨2, s, t, n, b⟩ (pn : Int) d.L, d.tr, d.ops + 1, d.down⟩ (W3'.setCell ⟨g, j * 3 + 1, none⟩ (.slice a3 (fl + mp) e3)) := RMoves.turns (by rw [hL]; exact hmv) HINV.out
        have hq : ∀ W, Below w3.heap.size w3 W → W.cell? ⟨B, 1, none⟩ = some (.slice (some ⟨g, 0, none⟩) N lc) ∧ W.cell? ⟨g, j * 3 + 1, none⟩ = some (.slice da fl dc) := fun W hb => by
          have := hfa.below hb
          exact ⟨by rw [← hN]; exact this.b1, by rw [← hfl]; exact this.r1⟩
        have HQ : Hid (∀ W, Below w3.drew.heap.size w3.drew W → W.cell? ⟨B, 1, none⟩ = some (.slice (some ⟨g, 0, none⟩) N lc) ∧ W.cell? ⟨g, j * 3 + 1, none⟩ = some (.slice da fl dc)) := Lib.hid (fun W hb => hq W ⟨hb.os, hb.tape, hb.output, hb.size, hb.block⟩)
        have hfz : W3'.frozen? ⟨g, j * 3 + 1, none⟩ = false := (hfa.below (w' := W3') ⟨hbl3.os, hbl3.tape, hbl3.output, hbl3.size, hbl3.block⟩).free _
        have HR1 := Lib.hid r1'
        have HR2 := Lib.hid r3'
        have HA : Hid (Below w3.drew.heap.size w3.drew (w3.drew.alloc (.cells #[] 5))) := Lib.hid ((Below.refl _ _).alloc (Nat.le_refl _) _)
        have HB1 := Lib.hid hbl1
        have HB2 := Lib.hid hbl3
        have HZ0 : Hid (Below w3.drew.heap.size w3.drew w3.drew) := Lib.hid (Below.refl _ _)
        have hjN : (j : Int) < (N : Int) := by omega
        obtain ⟨w5, hw5⟩ : ∃ w5, W3'.setCell ⟨g, j * 3 + 1, none⟩ (.slice a3 (fl + mp) e3) = w5 := ⟨_, rfl⟩
        rw [hw5] at hT5
        obtain ⟨S5, h5, hf5, hk5⟩ := hT5
        have HR5 := Lib.hid h5
        have HK5 : Hid (Keeps S w w5) := Lib.hid (HK3.out.trans hk5 (fresh_refl _ _))
        have HF5 : Hid (Fresh S w.heap.size S5) := Lib.hid (fresh_trans (fresh_refl S w.heap.size) hf5 HK3.out.size)
        have HW5 := hw5
        have hmin := HMIN.out
        have hmp0 : (0 : Int) ≤ (mp : Int) := by omega
        have hmpc : (mp : Int) ≤ (c : Int) := by omega
        clear hq hL hmv ho3 hn3 hbl1 hbl3 r1' r3' h3 hfa hb1 hr0 hr1 hr2 hN hfl hsf hfit hlc h5 hf5 hk5 hlen2
        go_wp2
        refine wp_region_z (S := fun W => W.cell? ⟨B, 1, none⟩ = some (.slice (some ⟨g, 0, none⟩) N lc) ∧ W.cell? ⟨g, j * 3 + 1, none⟩ = some (.slice da fl dc)) 24 (by kernel_rfl) (HQ.out _ HZ0.out) (fun hHeld => ?_)
        refine tkZ 0 25 (v := ?_) rfl ?_ ?_ (by kernel_rfl) (fun _ _ _ h => h) (by rfl) (by assumption)
        rotate_left
        · intro W hS
          try dsimp only at hS
          try obtain ⟨hs0, hs1⟩ := hS
          go_simp
          try with_reducible rfl
        simp only [Act.put, List.setIfInBounds_toArray]
        refine tkZ 1 25 (v := ?_) rfl ?_ ?_ (by kernel_rfl) (fun _ _ _ h => h) (by rfl) (by assumption)
        rotate_left
        · intro W hS
          try dsimp only at hS
          try obtain ⟨hs0, hs1⟩ := hS
          go_simp
          try with_reducible rfl
        simp only [Act.put]
        refine tkZ 2 25 (v := ?_) rfl ?_ ?_ (by kernel_rfl) (fun _ _ _ h => h) (by rfl) (by assumption)
        rotate_left
        · intro W hS
          try dsimp only at hS
          try obtain ⟨hs0, hs1⟩ := hS
          go_simp
          try with_reducible rfl
        simp only [Act.put]
        refine tkZ 3 25 (v := ?_) rfl ?_ ?_ (by kernel_rfl) (fun _ _ _ h => h) (by rfl) (by assumption)
        rotate_left
        · intro W hS
          try dsimp only at hS
          try obtain ⟨hs0, hs1⟩ := hS
          go_simp
          try with_reducible rfl
        simp only [Act.put]
        refine tkZ 4 25 (v := ?_) rfl ?_ ?_ (by kernel_rfl) (fun _ _ _ h => h) (by rfl) (by assumption)
        rotate_left
        · intro W hS
          try dsimp only at hS
          try obtain ⟨hs0, hs1⟩ := hS
          go_simp
          try with_reducible rfl
        simp only [Act.put]
        refine tkZ 6 25 (v := ?_) rfl ?_ ?_ (by kernel_rfl) (fun _ _ _ h => h) (by rfl) (by assumption)
        rotate_left
        · intro W hS
          try dsimp only at hS
          try obtain ⟨hs0, hs1⟩ := hS
          go_simp
          try with_reducible rfl
        simp only [Act.put]
        refine tkZ 7 25 (v := ?_) rfl ?_ ?_ (by kernel_rfl) (fun _ _ _ h => h) (by rfl) (by assumption)
        rotate_left
        · intro W hS
          try dsimp only at hS
          try obtain ⟨hs0, hs1⟩ := hS
          go_simp
          try with_reducible rfl
        simp only [Act.put]
        refine tkZ 8 25 (v := ?_) rfl ?_ ?_ (by kernel_rfl) (fun _ _ _ h => h) (by rfl) (by assumption)
        rotate_left
        · intro W hS
          try dsimp only at hS
          try obtain ⟨hs0, hs1⟩ := hS
          go_simp
          try with_reducible rfl
        simp only [Act.put]
        refine tkZ 9 25 (v := ?_) rfl ?_ ?_ (by kernel_rfl) (fun _ _ _ h => h) (by rfl) (by assumption)
        rotate_left
        · intro W hS
          try dsimp only at hS
          try obtain ⟨hs0, hs1⟩ := hS
          go_simp
          try with_reducible rfl
        simp only [Act.put]
        refine tkZ 10 25 (v := ?_) rfl ?_ ?_ (by kernel_rfl) (fun _ _ _ h => h) (by rfl) (by assumption)
        rotate_left
        · intro W hS
          try dsimp only at hS
          try obtain ⟨hs0, hs1⟩ := hS
          go_simp
          try with_reducible rfl
        simp only [Act.put]
        refine tkZ 11 25 (v := ?_) rfl ?_ ?_ (by kernel_rfl) (fun _ _ _ h => h) (by rfl) (by assumption)
        rotate_left
        · intro W hS
          try dsimp only at hS
          try obtain ⟨hs0, hs1⟩ := hS
          go_simp
          try with_reducible rfl
        simp only [Act.put]
        refine tkZ 12 25 (v := ?_) rfl ?_ ?_ (by kernel_rfl) (fun _ _ _ h => h) (by rfl) (by assumption)
        rotate_left
        · intro W hS
          try dsimp only at hS
          try obtain ⟨hs0, hs1⟩ := hS
          go_simp
          try with_reducible rfl
        simp only [Act.put]
        refine tkZ 13 25 (v := ?_) rfl ?_ ?_ (by kernel_rfl) (fun _ _ _ h => h) (by rfl) (by assumption)
        rotate_left
        · intro W hS
          try dsimp only at hS
          try obtain ⟨hs0, hs1⟩ := hS
          go_simp
          try with_reducible rfl
        simp only [Act.put]
        refine tkZ 15 25 (v := ?_) rfl ?_ ?_ (by kernel_rfl) (fun _ _ _ h => h) (by rfl) (by assumption)
        rotate_left
        · intro W hS
          try dsimp only at hS
          try obtain ⟨hs0, hs1⟩ := hS
          go_simp
          try with_reducible rfl
        simp only [Act.put]
        refine tkZ 16 25 (v := ?_) rfl ?_ ?_ (by kernel_rfl) (fun _ _ _ h => h) (by rfl) (by assumption)
        rotate_left
        · intro W hS
          try dsimp only at hS
          try obtain ⟨hs0, hs1⟩ := hS
          go_simp
          try with_reducible rfl
        simp only [Act.put]
        refine tkZ 17 25 (v := ?_) rfl ?_ ?_ (by kernel_rfl) (fun _ _ _ h => h) (by rfl) (by assumption)
        rotate_left
        · intro W hS
          try dsimp only at hS
          try obtain ⟨hs0, hs1⟩ := hS
          go_simp
          try with_reducible rfl
        simp only [Act.put]
        refine tkZ 18 25 (v := ?_) rfl ?_ ?_ (by kernel_rfl) (fun _ _ _ h => h) (by rfl) (by assumption)
        rotate_left
        · intro W hS
          try dsimp only at hS
          try obtain ⟨hs0, hs1⟩ := hS
          go_simp
          try with_reducible rfl
        simp only [Act.put]
        refine tkZ 19 25 (v := ?_) rfl ?_ ?_ (by kernel_rfl) (fun _ _ _ h => h) (by rfl) (by assumption)
        rotate_left
        · intro W hS
          try dsimp only at hS
          try obtain ⟨hs0, hs1⟩ := hS
          go_simp
          try with_reducible rfl
        simp only [Act.put]
        refine tkZ 20 25 (v := ?_) rfl ?_ ?_ (by kernel_rfl) (fun _ _ _ h => h) (by rfl) (by assumption)
        rotate_left
        · intro W hS
          try dsimp only at hS
          try obtain ⟨hs0, hs1⟩ := hS
          go_simp
          try with_reducible rfl
        simp only [Act.put]
        refine wpAnyZ_one (i := 5) (by kernel_rfl) rfl (fun K hK => ?_)
        go_simp
        refine hK.out _ _ (HQ.out _ HA.out) (fun hHeld => ?_)
        clear hK K
        try simp only [Act.put, List.setIfInBounds_toArray, List.set_cons_zero, List.set_cons_succ]
        refine wpAnyZ_one (i := 14) (by kernel_rfl) rfl (fun K hK => ?_)
        refine step_append rfl _ _ 61 rfl _ _ _ rfl rfl HR1.out ?_
        refine hK.out _ _ (HQ.out _ HB1.out) (fun hHeld => ?_)
        clear hK K
        try simp only [Act.put, List.setIfInBounds_toArray]
        refine wpAnyZ_one (i := 21) (by kernel_rfl) rfl (fun K hK => ?_)
        refine step_append rfl _ _ 61 rfl _ _ _ rfl rfl HR2.out ?_
        refine hK.out _ _ (HQ.out _ HB2.out) (fun hHeld => ?_)
        clear hK K
        try simp only [Act.put]
        refine tkZ 22 25 (v := ?_) rfl ?_ ?_ (by kernel_rfl) (fun _ _ _ h => h) (by rfl) (by assumption)
        rotate_left
        · intro W hS
          try dsimp only at hS
          try obtain ⟨hs0, hs1⟩ := hS
          go_simp
          try with_reducible rfl
        simp only [Act.put]
        refine tkZ 23 25 (v := ?_) rfl ?_ ?_ (by kernel_rfl) (fun _ _ _ h => h) (by rfl) (by assumption)
        rotate_left
        · intro W hS
          try dsimp only at hS
          try obtain ⟨hs0, hs1⟩ := hS
          go_simp
          try with_reducible rfl
        simp only [Act.put]
        refine wpAnyZ_last (by kernel_rfl) rfl (by kernel_rfl) (fun K hK => ?_)
        go_simp
        refine hK.out _ _ ?_
        clear hK K
        try simp only [Act.put, List.setIfInBounds_toArray, List.set_cons_zero, List.set_cons_succ]
        try simp only [HW5]
        clear HW5
        have HF : Hid (RTurns w S B { d with ops := d.ops + 1, L := part ⟨2, s, t, n, b⟩ (pn : Int) d.L, down := decide ((2 : Int) = 3) } w5) := Lib.hid (by
          rw [show decide ((2 : Int) = 3) = d.down from by rw [HDOWN.out]; rfl]
          exact ⟨S5, HR5.out, HF5.out, HK5.out⟩)
        go_wp2
        go_ret
        exact ⟨rfl, HF.out⟩
      · go_wp2_with fail
        with_reducible refine (HREF.out _ (HU1.out.below HBR.out)).mono ?_
        rintro e w3 ⟨rfl, q, rfl⟩
        have HB3 := Lib.hid (below_then HBR.out (below_drewN wr q))
        obtain ⟨w3, hw3⟩ : ∃ w3, wr.drewN q = w3 := ⟨_, rfl⟩
        rw [hw3] at HB3
        try simp only [hw3]
        clear hw3 HKP2
        have HR3 := Lib.hid (HU1.out.below HB3.out)
        have HK3 : Hid (Keeps S w w3) := Lib.hid (HKS.out.trans (keeps_below HB3.out S) (fresh_refl _ _))
        clear HU1 HBR HTRO HBLK HREF hszr
        go_wp2_with fail
        with_reducible refine (HAT2.out _ HR3.out).mono ?_
        rintro e w4 ⟨rfl, rfl⟩
        obtain ⟨g, lc, ta3, tn3, tc3, Sd3, St3, da, dc, h3, hfa⟩ := HR3.out.2.file HFJ.out
        have hb1 : w3.cell? ⟨B, 1, none⟩ = some (.slice (some ⟨g, 0, none⟩) d.L.length lc) := hfa.b1
        have hr0 := hfa.r0
        have hr1 := hfa.r1
        have hr2 := hfa.r2
        have hlc : d.L.length ≤ lc := hfa.lc
        have hfit := hfa.fit
        obtain ⟨fl, hfl⟩ : ∃ fl, f.data.length = fl := ⟨_, rfl⟩
        obtain ⟨N, hN⟩ : ∃ N, d.L.length = N := ⟨_, rfl⟩
        obtain ⟨sf, hsf⟩ : ∃ sf, f.safe = sf := ⟨_, rfl⟩
        have hlen2 : (b.take (wth (pn : Int) b.length)).length = mp := by
          rw [List.length_take, HLEN.out]
          have := HMP.out
          unfold wth
          omega
        obtain ⟨a1, e1, W1', a3, e3, W3', r1', hbl1, r3', hbl3, ho3, hn3⟩ := copy_two (W := w3.drew) hfa.row hfa.nul hfl (by omega) ((HROW.out.keep (keeps_below HB3.out Non).drew (fun _ _ h => h)).take (wth (pn : Int) b.length)) HNUL.out hlen2 (by omega) (N := w3.heap.size) rfl
        have hmv := h3.data (w2 := W3') HR3.out.2.1 ⟨hbl3.os, hbl3.tape, hbl3.output, hbl3.size, hbl3.block⟩ HFJ.out (l := f.data ++ b.take (wth (pn : Int) b.length)) (fun c hc => by rcases List.mem_append.1 hc with h | h; exact HFB.out c h; exact HROW.out.1 c (List.mem_of_mem_take h)) (by rw [List.length_append, hfl, hlen2]) ho3 hn3
        have hL : part ⟨2, s, t, n, b⟩ (pn : Int) d.L = d.L.set j { f with data := f.data ++ b.take (wth (pn : Int) b.length) } := upd_set (h := addB (b.take (wth (pn : Int) b.length))) HI.out.srt HFJ.out HNAME.out
        have hT5 : RTurns w3 S B ⟨d.room, part ⟨2, s, t, n, b⟩ (pn : Int) d.L, d.tr, d.ops + 1, d.down⟩ (W3'.setCell ⟨g, j * 3 + 1, none⟩ (.slice a3 (fl + mp) e3)) := RMoves.turns (by rw [hL]; exact hmv) HINV.out
        have hq : ∀ W, Below w3.heap.size w3 W → W.cell? ⟨B, 1, none⟩ = some (.slice (some ⟨g, 0, none⟩) N lc) ∧ W.cell? ⟨g, j * 3 + 1, none⟩ = some (.slice da fl dc) := fun W hb => by
          have := hfa.below hb
          exact ⟨by rw [← hN]; exact this.b1, by rw [← hfl]; exact this.r1⟩
        have HQ : Hid (∀ W, Below w3.drew.heap.size w3.drew W → W.cell? ⟨B, 1, none⟩ = some (.slice (some ⟨g, 0, none⟩) N lc) ∧ W.cell? ⟨g, j * 3 + 1, none⟩ = some (.slice da fl dc)) := Lib.hid (fun W hb => hq W ⟨hb.os, hb.tape, hb.output, hb.size, hb.block⟩)
        have hfz : W3'.frozen? ⟨g, j * 3 + 1, none⟩ = false := (hfa.below (w' := W3') ⟨hbl3.os, hbl3.tape, hbl3.output, hbl3.size, hbl3.block⟩).free _
        have HR1 := Lib.hid r1'
        have HR2 := Lib.hid r3'
        have HA : Hid (Below w3.drew.heap.size w3.drew (w3.drew.alloc (.cells #[] 5))) := Lib.hid ((Below.refl _ _).alloc (Nat.le_refl _) _)
        have HB1 := Lib.hid hbl1
        have HB2 := Lib.hid hbl3
        have HZ0 : Hid (Below w3.drew.heap.size w3.drew w3.drew) := Lib.hid (Below.refl _ _)
        have hjN : (j : Int) < (N : Int) := by omega
        obtain ⟨w5, hw5⟩ : ∃ w5, W3'.setCell ⟨g, j * 3 + 1, none⟩ (.slice a3 (fl + mp) e3) = w5 := ⟨_, rfl⟩
        rw [hw5] at hT5
        obtain ⟨S5, h5, hf5, hk5⟩ := hT5
        have HR5 := Lib.hid h5
        have HK5 : Hid (Keeps S w w5) := Lib.hid (HK3.out.trans hk5 (fresh_refl _ _))
        have HF5 : Hid (Fresh S w.heap.size S5) := Lib.hid (fresh_trans (fresh_refl S w.heap.size) hf5 HK3.out.size)
        have HW5 := hw5
        have hmin := HMIN.out
        have hmp0 : (0 : Int) ≤ (mp : Int) := by omega
        have hmpc : (mp : Int) ≤ (c : Int) := by omega
        clear hq hL hmv ho3 hn3 hbl1 hbl3 r1' r3' h3 hfa hb1 hr0 hr1 hr2 hN hfl hsf hfit hlc h5 hf5 hk5 hlen2
        go_wp2
        refine wp_region_z (S := fun W => W.cell? ⟨B, 1, none⟩ = some (.slice (some ⟨g, 0, none⟩) N lc) ∧ W.cell? ⟨g, j * 3 + 1, none⟩ = some (.slice da fl dc)) 24 (by kernel_rfl) (HQ.out _ HZ0.out) (fun hHeld => ?_)
        refine tkZ 0 25 (v := ?_) rfl ?_ ?_ (by kernel_rfl) (fun _ _ _ h => h) (by rfl) (by assumption)
        rotate_left
        · intro W hS
          try dsimp only at hS
          try obtain ⟨hs0, hs1⟩ := hS
          go_simp
          try with_reducible rfl
        simp only [Act.put, List.setIfInBounds_toArray]
        refine tkZ 1 25 (v := ?_) rfl ?_ ?_ (by kernel_rfl) (fun _ _ _ h => h) (by rfl) (by assumption)
        rotate_left
        · intro W hS
          try dsimp only at hS
          try obtain ⟨hs0, hs1⟩ := hS
          go_simp
          try with_reducible rfl
        simp only [Act.put]
        refine tkZ 2 25 (v := ?_) rfl ?_ ?_ (by kernel_rfl) (fun _ _ _ h => h) (by rfl) (by assumption)
        rotate_left
        · intro W hS
          try dsimp only at hS
          try obtain ⟨hs0, hs1⟩ := hS
          go_simp
          try with_reducible rfl
        simp only [Act.put]
        refine tkZ 3 25 (v := ?_) rfl ?_ ?_ (by kernel_rfl) (fun _ _ _ h => h) (by rfl) (by assumption)
        rotate_left
        · intro W hS
          try dsimp only at hS
          try obtain ⟨hs0, hs1⟩ := hS
          go_simp
          try with_reducible rfl
        simp only [Act.put]
        refine tkZ 4 25 (v := ?_) rfl ?_ ?_ (by kernel_rfl) (fun _ _ _ h => h) (by rfl) (by assumption)
        rotate_left
        · intro W hS
          try dsimp only at hS
          try obtain ⟨hs0, hs1⟩ := hS
          go_simp
          try with_reducible rfl
        simp only [Act.put]
        refine tkZ 6 25 (v := ?_) rfl ?_ ?_ (by kernel_rfl) (fun _ _ _ h => h) (by rfl) (by assumption)
        rotate_left
        · intro W hS
          try dsimp only at hS
          try obtain ⟨hs0, hs1⟩ := hS
          go_simp
          try with_reducible rfl
        simp only [Act.put]
        refine tkZ 7 25 (v := ?_) rfl ?_ ?_ (by kernel_rfl) (fun _ _ _ h => h) (by rfl) (by assumption)
        rotate_left
        · intro W hS
          try dsimp only at hS
          try obtain ⟨hs0, hs1⟩ := hS
          go_simp
          try with_reducible rfl
        simp only [Act.put]
        refine tkZ 8 25 (v := ?_) rfl ?_ ?_ (by kernel_rfl) (fun _ _ _ h => h) (by rfl) (by assumption)
        rotate_left
        · intro W hS
          try dsimp only at hS
          try obtain ⟨hs0, hs1⟩ := hS
          go_simp
          try with_reducible rfl
        simp only [Act.put]
        refine tkZ 9 25 (v := ?_) rfl ?_ ?_ (by kernel_rfl) (fun _ _ _ h => h) (by rfl) (by assumption)
        rotate_left
        · intro W hS
          try dsimp only at hS
          try obtain ⟨hs0, hs1⟩ := hS
          go_simp
          try with_reducible rfl
        simp only [Act.put]
        refine tkZ 10 25 (v := ?_) rfl ?_ ?_ (by kernel_rfl) (fun _ _ _ h => h) (by rfl) (by assumption)
        rotate_left
        · intro W hS
          try dsimp only at hS
          try obtain ⟨hs0, hs1⟩ := hS
          go_simp
          try with_reducible rfl
        simp only [Act.put]
        refine tkZ 11 25 (v := ?_) rfl ?_ ?_ (by kernel_rfl) (fun _ _ _ h => h) (by rfl) (by assumption)
        rotate_left
        · intro W hS
          try dsimp only at hS
          try obtain ⟨hs0, hs1⟩ := hS
          go_simp
          try with_reducible rfl
        simp only [Act.put]
        refine tkZ 12 25 (v := ?_) rfl ?_ ?_ (by kernel_rfl) (fun _ _ _ h => h) (by rfl) (by assumption)
        rotate_left
        · intro W hS
          try dsimp only at hS
          try obtain ⟨hs0, hs1⟩ := hS
          go_simp
          try with_reducible rfl
        simp only [Act.put]
        refine tkZ 13 25 (v := ?_) rfl ?_ ?_ (by kernel_rfl) (fun _ _ _ h => h) (by rfl) (by assumption)
        rotate_left
        · intro W hS
          try dsimp only at hS
          try obtain ⟨hs0, hs1⟩ := hS
          go_simp
          try with_reducible rfl
        simp only [Act.put]
        refine tkZ 15 25 (v := ?_) rfl ?_ ?_ (by kernel_rfl) (fun _ _ _ h => h) (by rfl) (by assumption)
        rotate_left
        · intro W hS
          try dsimp only at hS
          try obtain ⟨hs0, hs1⟩ := hS
          go_simp
          try with_reducible rfl
        simp only [Act.put]
        refine tkZ 16 25 (v := ?_) rfl ?_ ?_ (by kernel_rfl) (fun _ _ _ h => h) (by rfl) (by assumption)
        rotate_left
        · intro W hS
          try dsimp only at hS
          try obtain ⟨hs0, hs1⟩ := hS
          go_simp
          try with_reducible rfl
        simp only [Act.put]
        refine tkZ 17 25 (v := ?_) rfl ?_ ?_ (by kernel_rfl) (fun _ _ _ h => h) (by rfl) (by assumption)
        rotate_left
        · intro W hS
          try dsimp only at hS
          try obtain ⟨hs0, hs1⟩ := hS
          go_simp
          try with_reducible rfl
        simp only [Act.put]
        refine tkZ 18 25 (v := ?_) rfl ?_ ?_ (by kernel_rfl) (fun _ _ _ h => h) (by rfl) (by assumption)
        rotate_left
        · intro W hS
          try dsimp only at hS
          try obtain ⟨hs0, hs1⟩ := hS
          go_simp
          try with_reducible rfl
        simp only [Act.put]
        refine tkZ 19 25 (v := ?_) rfl ?_ ?_ (by kernel_rfl) (fun _ _ _ h => h) (by rfl) (by assumption)
        rotate_left
        · intro W hS
          try dsimp only at hS
          try obtain ⟨hs0, hs1⟩ := hS
          go_simp
          try with_reducible rfl
        simp only [Act.put]
        refine tkZ 20 25 (v := ?_) rfl ?_ ?_ (by kernel_rfl) (fun _ _ _ h => h) (by rfl) (by assumption)
        rotate_left
        · intro W hS
          try dsimp only at hS
          try obtain ⟨hs0, hs1⟩ := hS
          go_simp
          try with_reducible rfl
        simp only [Act.put]
        refine wpAnyZ_one (i := 5) (by kernel_rfl) rfl (fun K hK => ?_)
        go_simp
        refine hK.out _ _ (HQ.out _ HA.out) (fun hHeld => ?_)
        clear hK K
        try simp only [Act.put, List.setIfInBounds_toArray, List.set_cons_zero, List.set_cons_succ]
        refine wpAnyZ_one (i := 14) (by kernel_rfl) rfl (fun K hK => ?_)
        refine step_append rfl _ _ 61 rfl _ _ _ rfl rfl HR1.out ?_
        refine hK.out _ _ (HQ.out _ HB1.out) (fun hHeld => ?_)
        clear hK K
        try simp only [Act.put, List.setIfInBounds_toArray]
        refine wpAnyZ_one (i := 21) (by kernel_rfl) rfl (fun K hK => ?_)
        refine step_append rfl _ _ 61 rfl _ _ _ rfl rfl HR2.out ?_
        refine hK.out _ _ (HQ.out _ HB2.out) (fun hHeld => ?_)
        clear hK K
        try simp only [Act.put]
        refine tkZ 22 25 (v := ?_) rfl ?_ ?_ (by kernel_rfl) (fun _ _ _ h => h) (by rfl) (by assumption)
        rotate_left
        · intro W hS
          try dsimp only at hS
          try obtain ⟨hs0, hs1⟩ := hS
          go_simp
          try with_reducible rfl
        simp only [Act.put]
        refine tkZ 23 25 (v := ?_) rfl ?_ ?_ (by kernel_rfl) (fun _ _ _ h => h) (by rfl) (by assumption)
        rotate_left
        · intro W hS
          try dsimp only at hS
          try obtain ⟨hs0, hs1⟩ := hS
          go_simp
          try with_reducible rfl
        simp only [Act.put]
        refine wpAnyZ_last (by kernel_rfl) rfl (by kernel_rfl) (fun K hK => ?_)
        go_simp
        refine hK.out _ _ ?_
        clear hK K
        try simp only [Act.put, List.setIfInBounds_toArray, List.set_cons_zero, List.set_cons_succ]
        try simp only [HW5]
        clear HW5
        have hb4 : (w5.cell? ⟨B, 4, none⟩ = some (.bool d.down) ∧ w5.frozen? ⟨B, 4, none⟩ = false) ∧ S5 B := by
          obtain ⟨_, _, lv3, ta3, tn3, tc3, Sd3, St3, h3⟩ := HR5.out
          exact ⟨⟨(cell_of_block h3.blk 4).trans rfl, unfrozen_of_block h3.blk 4⟩, h3.sB⟩
        obtain ⟨⟨hb4, hk4⟩, hSB⟩ := hb4
        have HF : Hid (RTurns w S B { d with ops := d.ops + 1, L := part ⟨2, s, t, n, b⟩ (pn : Int) d.L, down := decide ((3 : Int) = 3) } (w5.setCell ⟨B, 4, none⟩ (.bool true))) := Lib.hid
          ⟨S5, HR5.out.downs true, HF5.out, HK5.out.setCell (p := ⟨B, 4, none⟩) (by rcases HF5.out B hSB with h | h; exact .inl h; exact .inr h) _⟩
        go_wp2
        go_ret
        exact ⟨rfl, HF.out⟩
    · obtain ⟨g', rfl⟩ : ∃ g', gk = g' + 1 := ⟨gk - 1, by have := HG.out; omega⟩
      obtain rfl : j = g' + 1 := HG.out.symm
      obtain rfl : y = (g' : Int) := by omega
      have hjt : (g' : Int) < (tn : Int) := by omega
      have hj0 : (0 : Int) ≤ (g' : Int) := by omega
      obtain ⟨tt, htt⟩ : ∃ tt, d.tr[g']? = some tt := ⟨d.tr[g']'(by rw [HTRN.out]; omega), List.getElem?_eq_getElem _⟩
      have hkd := kp_drop (o := o) htt
      rw [HKP.out] at hkd
      have hrowt := (HTRO.out.keep (keeps_below HBR.out Non) (fun _ _ h => h))
      obtain ⟨bt, ot, rfl, r0, r1, r2⟩ := rowT_at hrowt htt
      have hblkr := block_below HBR.out HBLK.out
      have e2 : wr.cell? ⟨B, 2, none⟩ = some (.slice (some ⟨bt, ot, none⟩) tn tc) := (cell_of_block hblkr 2).trans rfl
      obtain ⟨x1, hx1⟩ : ∃ x, tt.at_ = x := ⟨_, rfl⟩
      obtain ⟨x2, hx2⟩ : ∃ x, tt.kind = x := ⟨_, rfl⟩
      obtain ⟨x3, hx3⟩ : ∃ x, tt.part = x := ⟨_, rfl⟩
      have hhit : hits o tt = (decide (x1 = o) && decide (1 ≤ x2) && decide (x2 ≤ 3)) := by unfold hits; rw [hx1, hx2]
      rw [hx1] at r0
      rw [hx2] at r1
      rw [hx3] at r2
      rw [hhit, hx2, hx3] at hkd
      have e3 : (wr.alloc (.cells #[.int .i64 x1, .int .i64 x2, .int .i64 x3] 95)).cell? ⟨B, 3, none⟩ = some (.int .i64 o) := by
        have := (cell_of_block ((Below.heap_alloc wr (.cells #[.int .i64 x1, .int .i64 x2, .int .i64 x3] 95) B (lt_of_block hblkr)).trans hblkr) 3).trans (rfl : _ = some (Value.int .i64 (z + 1)))
        rw [HO.out] at this
        exact this
      have HB2 : Hid (∀ q, Below w1.heap.size w1 ((wr.alloc (.cells #[.int .i64 x1, .int .i64 x2, .int .i64 x3] 95)).drewN q)) := Lib.hid (fun q => by
        have h1 := HBR.out.alloc hszr (.cells #[.int .i64 x1, .int .i64 x2, .int .i64 x3] 95)
        exact ⟨h1.os, h1.tape, h1.output, h1.size, h1.block⟩)
      have HKD := Lib.hid hkd
      clear hkd hrowt hblkr hhit hx1 hx2 hx3 htt hy hj HKP hszr
      by_cases k1 : x1 = o
      case neg =>
        have d1 : (x1 == o) = false := by simpa using k1
        have HKN : Hid (kp (d.tr.drop g') o = (K, P)) := Lib.hid (by rw [HKD.out]; rw [decide_eq_false k1]; rfl)
        clear HKD
        go_wp2
        go_quiet (fail)
        go_wp2
        go_roundg g'
        case measure => omega
        case rel => exact ⟨g', K, P, (g' : Int) - 1, rfl, rfl, rfl, by omega, rfl, by omega, HKN.out, HB2.out _⟩
      have d1 : (x1 == o) = true := by simpa using k1
      have HK1 := Lib.hid k1
      clear k1
      by_cases k2 : 1 ≤ x2
      case neg =>
        have d2 : decide (1 ≤ x2) = false := by simpa using k2
        have HKN : Hid (kp (d.tr.drop g') o = (K, P)) := Lib.hid (by rw [HKD.out]; rw [decide_eq_true HK1.out, d2]; rfl)
        clear HKD
        go_wp2
        go_quiet (fail)
        go_wp2
        go_roundg g'
        case measure => omega
        case rel => exact ⟨g', K, P, (g' : Int) - 1, rfl, rfl, rfl, by omega, rfl, by omega, HKN.out, HB2.out _⟩
      have d2 : decide (1 ≤ x2) = true := by simpa using k2
      by_cases k3 : x2 ≤ 3
      case neg =>
        have d3 : decide (x2 ≤ 3) = false := by simpa using k3
        have HKN : Hid (kp (d.tr.drop g') o = (K, P)) := Lib.hid (by rw [HKD.out]; rw [decide_eq_true HK1.out, d2, d3]; rfl)
        clear HKD
        go_wp2
        go_quiet (fail)
        go_wp2
        go_roundg g'
        case measure => omega
        case rel => exact ⟨g', K, P, (g' : Int) - 1, rfl, rfl, rfl, by omega, rfl, by omega, HKN.out, HB2.out _⟩
      have d3 : decide (x2 ≤ 3) = true := by simpa using k3
      have HKN : Hid (kp (d.tr.drop g') o = (x2, x3)) := Lib.hid (by rw [HKD.out]; rw [decide_eq_true HK1.out, d2, d3]; rfl)
      clear HKD
      go_wp2
      go_quiet (fail)
      go_wp2
      go_roundg g'
      case measure => omega
      case rel => exact ⟨g', x2, x3, (g' : Int) - 1, rfl, rfl, rfl, by omega, rfl, by omega, HKN.out, HB2.out _⟩

end Go.Proofs.YtacfcfbleogioaaGreatDoor
