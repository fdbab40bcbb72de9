/-
  The reference's Do: Create and Delete. Conditions: the disk lies in memory; names are short, bytes, files and troubles few.
  The reference's Do: Sync. Conditions: the disk lies in memory; names are short, bytes, files and troubles few.
  The reference's Do: Append. Conditions: the disk lies in memory; names are short, bytes, files and troubles few.
  The reference's Do: Rename. Conditions: the disk lies in memory; names are short, bytes, files and troubles few.
-/
import Derived.Test.YtacfcfbleogioaaGreatDoorRPuts
namespace Go.Proofs.YtacfcfbleogioaaGreatDoor
open Go.RowKit Go.Lib Go.Joins

set_option maxRecDepth 100000 in
set_option maxHeartbeats 16000000 in
theorem rdo_1 (s t : ByteArray) (n : Int) (a : Option Addr) (b : List Nat) (m c : Nat) (w : World) {S O : Nat → Prop} {B : Nat} {d : Dsk} (hh : DoHyp w S O B d s t a b m c) (hdown : d.down = false) (hr : ref d ⟨1, s, t, n, b⟩ = 0) (ht : tro d.tr (d.ops + 1) = none) :
    Calls Tryz.prog 66 #[.pointer (some ⟨B, 0, none⟩), .int .i64 1, .string s, .string t, .int .i64 n, .slice a m c] w (RDoes w S B (.int .i64 (step d ⟨1, s, t, n, b⟩).1) (step d ⟨1, s, t, n, b⟩).2) := by
  rw [step_none hdown hr ht]
  dsimp only
  obtain ⟨hd, hs, hns, hnt, hrow, hoff, hnul, hlen, hcap, hcmost, hfew, htl⟩ := hh
  have ho0 := hs.ops0
  have ho1 := hs.ops1
  have hus := hs.used
  have hu1 := hd.opsUp (d.ops + 1)
  have hi := hd.1
  have hmost := hi.most
  obtain ⟨hi0, hSlt, lv, ta, tn, tc, Sd, St, h⟩ := hd
  have c3 : w.cell? ⟨B, 3, none⟩ = some (.int .i64 d.ops) := (cell_of_block h.blk 3).trans rfl
  have c4 : w.cell? ⟨B, 4, none⟩ = some (.bool d.down) := (cell_of_block h.blk 4).trans rfl
  have k3 := unfrozen_of_block h.blk 3
  rw [hdown] at c4
  have hblk1 := block_setCell (i := 3) h.blk (.int .i64 (d.ops + 1))
  have hk1 : Keeps (One B) w (w.setCell ⟨B, 3, none⟩ (.int .i64 (d.ops + 1))) := (Keeps.refl (One B) w).setCell (p := ⟨B, 3, none⟩) (.inl rfl) _
  have htro1 := h.tro.keep hk1 (fun k e hkB => (h.sT k e).2.1 hkB)
  have hrow1 := hrow.keep hk1 (fun k e hkB => hoff k e (by rw [show k = B from hkB]; exact h.sB))
  obtain ⟨w1, hw1⟩ : ∃ w1, w.setCell ⟨B, 3, none⟩ (.int .i64 (d.ops + 1)) = w1 := ⟨_, rfl⟩
  rw [hw1] at hu1 hblk1 hk1 htro1 hrow1
  have t2 : w1.cell? ⟨B, 2, none⟩ = some (.slice ta tn tc) := (cell_of_block hblk1 2).trans rfl
  have hkS : Keeps S w w1 := hk1.mono (fun k _ e => by rw [show k = B from e]; exact h.sB)
  have HBLK := Lib.hid hblk1
  have HTRO := Lib.hid htro1
  have HTRN := Lib.hid h.trn
  have HROW := Lib.hid hrow1
  have HU1 := Lib.hid hu1
  have HKS := Lib.hid hkS
  have HUS := Lib.hid hus
  have htn : tn ≤ 1048576 := by rw [← h.trn]; exact htl
  have HOFF := Lib.hid hoff
  have HLEN := Lib.hid hlen
  have HNUL := Lib.hid hnul
  have HAT := Lib.hid (fun W (hW : RefD W S B { d with ops := d.ops + 1 }) => rat_calls s W hW)
  have HREF : Hid (∀ W, RefD W S B { d with ops := d.ops + 1 } → Calls Tryz.prog 105 #[.pointer (some ⟨B, 0, none⟩), .int .i64 1, .string s, .string t, .int .i64 n] W (Tells (.int .i64 (ref { d with ops := d.ops + 1 } ⟨1, s, t, n, b⟩)) W)) := Lib.hid (fun W hW => rref_calls 1 (by decide) s t n b W hW hus hns hnt (by omega))
  have hrr : ref { d with ops := d.ops + 1 } ⟨1, s, t, n, b⟩ = ref d ⟨1, s, t, n, b⟩ := by rfl
  rw [hrr] at HREF
  obtain ⟨z, hz⟩ : ∃ z, d.ops = z := ⟨_, rfl⟩
  obtain ⟨o, ho⟩ : ∃ o, z + 1 = o := ⟨_, rfl⟩
  rw [hz] at c3 ho0 ho1 hw1 HBLK
  have HZ := Lib.hid hz
  have HO := Lib.hid ho
  have HI := Lib.hid hi
  clear hi hi0 hSlt h hblk1 hk1 htro1 hrow1 hu1 hkS hus hoff hlen hnul hrow hs htl hrr hz ho
  have HINV : Hid (Inv ⟨d.room, whole ⟨1, s, t, n, b⟩ d.L, d.tr, d.ops + 1, d.down⟩) := Lib.hid (inv_whole HI.out HROW.out.1 hr _ _ _)
  have hfn : fnd s d.L = none := by
    unfold ref at hr
    rw [if_pos rfl] at hr
    dsimp only at hr
    cases hx : fnd s d.L with
    | none => rfl
    | some g =>
      rw [hx] at hr
      exfalso
      revert hr
      cases nmd s <;> simp
  have HAT2 : Hid (∀ W, RefD W S B { d with ops := d.ops + 1 } → Calls Tryz.prog 36 #[.pointer (some ⟨B, 0, none⟩), .string s] W fun e w' => e = .returned (.int .i64 (-1 : Int)) ∧ W = w') := Lib.hid (fun W hW => (HAT.out W hW).mono fun e w' h => ⟨h.1.trans (congrArg (fun x => Ending.returned (.int .i64 x)) (ixF_none hfn)), h.2⟩)
  clear HAT
  have HPUT : Hid (∀ W, RefD W S B { d with ops := d.ops + 1 } → Calls Tryz.prog 38 #[.pointer (some ⟨B, 0, none⟩), .agg #[.string s, .slice none 0 0, .int .i64 0]] W (RPutOut W S B { d with ops := d.ops + 1, L := ins ⟨s, [], 0⟩ d.L })) := Lib.hid (fun W hW => rput_calls ⟨s, [], 0⟩ none 0 W (Sf := Non) hW.2 (by have := hW.1.most; dsimp only at this ⊢; omega) hns (fun g hg => by have := nmd_sz (hW.1.name g hg); omega) ⟨(fun c hc => by cases hc), .inl rfl⟩ (fun _ => rfl) (Nat.zero_le _))
  clear hfn
  have HT : Hid (kp d.tr (d.ops + 1) = (0, 0)) := Lib.hid (by unfold kp; rw [ht])
  rw [HZ.out, HO.out] at HT
  rw [show ref d ⟨1, s, t, n, b⟩ = 0 from hr] at HREF
  have HRR := Lib.hid hr
  clear hr ht
  go_enter Tryz.func66, Tryz.ntmps66
  go_wp2
  go_loopg [13, 14, 15, 16] tn (fun g va vb idx _ wr => ∃ (j : Nat) (K P y : Int), va = .int .i64 K ∧ vb = .int .i64 P ∧ idx = .int .i64 y ∧ y + 1 = (j : Int) ∧ g = j ∧ j ≤ tn ∧ kp (d.tr.drop j) o = (K, P) ∧ Below w1.heap.size w1 wr)
  case atStart => exact ⟨tn, 0, 0, (tn : Int) - 1, rfl, rfl, rfl, by omega, rfl, Nat.le_refl _, by rw [← HTRN.out]; exact kp_end, Below.refl _ _⟩
  case round =>
    obtain ⟨j, K, P, y, rfl, rfl, rfl, hy, hg, hjn, hkp, hbr⟩ := hrel
    have HKP := Lib.hid hkp
    have HBR := Lib.hid hbr
    have HG := Lib.hid hg
    have hszr := hbr.size
    clear hkp hbr hg
    by_cases hj : j = 0
    · subst hj
      obtain rfl : y = -1 := by omega
      have HKP2 : Hid (kp d.tr o = (K, P)) := HKP
      clear HKP hy hjn
      obtain ⟨rfl, rfl⟩ : K = 0 ∧ P = 0 := by
        have := HKP2.out
        rw [show kp d.tr o = (0, 0) from HT.out] at this
        simpa using this.symm
      go_wp2_with fail
      with_reducible refine (HREF.out _ (HU1.out.below HBR.out)).mono ?_
      rintro e w3 ⟨rfl, q, rfl⟩
      have HB3 := Lib.hid (below_then HBR.out (below_drewN wr q))
      obtain ⟨w3, hw3⟩ : ∃ w3, wr.drewN q = w3 := ⟨_, rfl⟩
      rw [hw3] at HB3
      try simp only [hw3]
      clear hw3 HKP2
      have HR3 := Lib.hid (HU1.out.below HB3.out)
      have HK3 : Hid (Keeps S w w3) := Lib.hid (HKS.out.trans (keeps_below HB3.out S) (fresh_refl _ _))
      clear HU1 HBR HTRO HBLK HREF hszr
      go_wp2_with fail
      with_reducible refine (HAT2.out _ HR3.out).mono ?_
      rintro e w4 ⟨rfl, rfl⟩
      go_wp2_with fail
      with_reducible refine (HPUT.out _ HR3.out).mono ?_
      rintro e w5 ⟨rfl, ht5⟩
      have H : Hid (RTurns w S B ⟨d.room, whole ⟨1, s, t, n, b⟩ d.L, d.tr, d.ops + 1, d.down⟩ w5) := Lib.hid ((ht5.turns HINV.out).after HK3.out)
      clear ht5
      go_wp2
      go_ret
      exact ⟨rfl, H.out⟩
    · obtain ⟨g', rfl⟩ : ∃ g', gk = g' + 1 := ⟨gk - 1, by have := HG.out; omega⟩
      obtain rfl : j = g' + 1 := HG.out.symm
      obtain rfl : y = (g' : Int) := by omega
      have hjt : (g' : Int) < (tn : Int) := by omega
      have hj0 : (0 : Int) ≤ (g' : Int) := by omega
      obtain ⟨tt, htt⟩ : ∃ tt, d.tr[g']? = some tt := ⟨d.tr[g']'(by rw [HTRN.out]; omega), List.getElem?_eq_getElem _⟩
      have hkd := kp_drop (o := o) htt
      rw [HKP.out] at hkd
      have hrowt := (HTRO.out.keep (keeps_below HBR.out Non) (fun _ _ h => h))
      obtain ⟨bt, ot, rfl, r0, r1, r2⟩ := rowT_at hrowt htt
      have hblkr := block_below HBR.out HBLK.out
      have e2 : wr.cell? ⟨B, 2, none⟩ = some (.slice (some ⟨bt, ot, none⟩) tn tc) := (cell_of_block hblkr 2).trans rfl
      obtain ⟨x1, hx1⟩ : ∃ x, tt.at_ = x := ⟨_, rfl⟩
      obtain ⟨x2, hx2⟩ : ∃ x, tt.kind = x := ⟨_, rfl⟩
      obtain ⟨x3, hx3⟩ : ∃ x, tt.part = x := ⟨_, rfl⟩
      have hhit : hits o tt = (decide (x1 = o) && decide (1 ≤ x2) && decide (x2 ≤ 3)) := by unfold hits; rw [hx1, hx2]
      rw [hx1] at r0
      rw [hx2] at r1
      rw [hx3] at r2
      rw [hhit, hx2, hx3] at hkd
      have e3 : (wr.alloc (.cells #[.int .i64 x1, .int .i64 x2, .int .i64 x3] 95)).cell? ⟨B, 3, none⟩ = some (.int .i64 o) := by
        have := (cell_of_block ((Below.heap_alloc wr (.cells #[.int .i64 x1, .int .i64 x2, .int .i64 x3] 95) B (lt_of_block hblkr)).trans hblkr) 3).trans (rfl : _ = some (Value.int .i64 (z + 1)))
        rw [HO.out] at this
        exact this
      have HB2 : Hid (∀ q, Below w1.heap.size w1 ((wr.alloc (.cells #[.int .i64 x1, .int .i64 x2, .int .i64 x3] 95)).drewN q)) := Lib.hid (fun q => by
        have h1 := HBR.out.alloc hszr (.cells #[.int .i64 x1, .int .i64 x2, .int .i64 x3] 95)
        exact ⟨h1.os, h1.tape, h1.output, h1.size, h1.block⟩)
      have HKD := Lib.hid hkd
      clear hkd hrowt hblkr hhit hx1 hx2 hx3 htt hy hj HKP hszr
      by_cases k1 : x1 = o
      case neg =>
        have d1 : (x1 == o) = false := by simpa using k1
        have HKN : Hid (kp (d.tr.drop g') o = (K, P)) := Lib.hid (by rw [HKD.out]; rw [decide_eq_false k1]; rfl)
        clear HKD
        go_wp2
        go_quiet (fail)
        go_wp2
        go_roundg g'
        case measure => omega
        case rel => exact ⟨g', K, P, (g' : Int) - 1, rfl, rfl, rfl, by omega, rfl, by omega, HKN.out, HB2.out _⟩
      have d1 : (x1 == o) = true := by simpa using k1
      have HK1 := Lib.hid k1
      clear k1
      by_cases k2 : 1 ≤ x2
      case neg =>
        have d2 : decide (1 ≤ x2) = false := by simpa using k2
        have HKN : Hid (kp (d.tr.drop g') o = (K, P)) := Lib.hid (by rw [HKD.out]; rw [decide_eq_true HK1.out, d2]; rfl)
        clear HKD
        go_wp2
        go_quiet (fail)
        go_wp2
        go_roundg g'
        case measure => omega
        case rel => exact ⟨g', K, P, (g' : Int) - 1, rfl, rfl, rfl, by omega, rfl, by omega, HKN.out, HB2.out _⟩
      have d2 : decide (1 ≤ x2) = true := by simpa using k2
      by_cases k3 : x2 ≤ 3
      case neg =>
        have d3 : decide (x2 ≤ 3) = false := by simpa using k3
        have HKN : Hid (kp (d.tr.drop g') o = (K, P)) := Lib.hid (by rw [HKD.out]; rw [decide_eq_true HK1.out, d2, d3]; rfl)
        clear HKD
        go_wp2
        go_quiet (fail)
        go_wp2
        go_roundg g'
        case measure => omega
        case rel => exact ⟨g', K, P, (g' : Int) - 1, rfl, rfl, rfl, by omega, rfl, by omega, HKN.out, HB2.out _⟩
      have d3 : decide (x2 ≤ 3) = true := by simpa using k3
      have HKN : Hid (kp (d.tr.drop g') o = (x2, x3)) := Lib.hid (by rw [HKD.out]; rw [decide_eq_true HK1.out, d2, d3]; rfl)
      clear HKD
      go_wp2
      go_quiet (fail)
      go_wp2
      go_roundg g'
      case measure => omega
      case rel => exact ⟨g', x2, x3, (g' : Int) - 1, rfl, rfl, rfl, by omega, rfl, by omega, HKN.out, HB2.out _⟩

set_option maxRecDepth 100000 in
set_option maxHeartbeats 16000000 in
theorem rdo_6 (s t : ByteArray) (n : Int) (a : Option Addr) (b : List Nat) (m c : Nat) (w : World) {S O : Nat → Prop} {B : Nat} {d : Dsk} (hh : DoHyp w S O B d s t a b m c) (hdown : d.down = false) (hr : ref d ⟨6, s, t, n, b⟩ = 0) (ht : tro d.tr (d.ops + 1) = none) :
    Calls Tryz.prog 66 #[.pointer (some ⟨B, 0, none⟩), .int .i64 6, .string s, .string t, .int .i64 n, .slice a m c] w (RDoes w S B (.int .i64 (step d ⟨6, s, t, n, b⟩).1) (step d ⟨6, s, t, n, b⟩).2) := by
  rw [step_none hdown hr ht]
  dsimp only
  obtain ⟨hd, hs, hns, hnt, hrow, hoff, hnul, hlen, hcap, hcmost, hfew, htl⟩ := hh
  have ho0 := hs.ops0
  have ho1 := hs.ops1
  have hus := hs.used
  have hu1 := hd.opsUp (d.ops + 1)
  have hi := hd.1
  have hmost := hi.most
  obtain ⟨hi0, hSlt, lv, ta, tn, tc, Sd, St, h⟩ := hd
  have c3 : w.cell? ⟨B, 3, none⟩ = some (.int .i64 d.ops) := (cell_of_block h.blk 3).trans rfl
  have c4 : w.cell? ⟨B, 4, none⟩ = some (.bool d.down) := (cell_of_block h.blk 4).trans rfl
  have k3 := unfrozen_of_block h.blk 3
  rw [hdown] at c4
  have hblk1 := block_setCell (i := 3) h.blk (.int .i64 (d.ops + 1))
  have hk1 : Keeps (One B) w (w.setCell ⟨B, 3, none⟩ (.int .i64 (d.ops + 1))) := (Keeps.refl (One B) w).setCell (p := ⟨B, 3, none⟩) (.inl rfl) _
  have htro1 := h.tro.keep hk1 (fun k e hkB => (h.sT k e).2.1 hkB)
  have hrow1 := hrow.keep hk1 (fun k e hkB => hoff k e (by rw [show k = B from hkB]; exact h.sB))
  obtain ⟨w1, hw1⟩ : ∃ w1, w.setCell ⟨B, 3, none⟩ (.int .i64 (d.ops + 1)) = w1 := ⟨_, rfl⟩
  rw [hw1] at hu1 hblk1 hk1 htro1 hrow1
  have t2 : w1.cell? ⟨B, 2, none⟩ = some (.slice ta tn tc) := (cell_of_block hblk1 2).trans rfl
  have hkS : Keeps S w w1 := hk1.mono (fun k _ e => by rw [show k = B from e]; exact h.sB)
  have HBLK := Lib.hid hblk1
  have HTRO := Lib.hid htro1
  have HTRN := Lib.hid h.trn
  have HROW := Lib.hid hrow1
  have HU1 := Lib.hid hu1
  have HKS := Lib.hid hkS
  have HUS := Lib.hid hus
  have htn : tn ≤ 1048576 := by rw [← h.trn]; exact htl
  have HOFF := Lib.hid hoff
  have HLEN := Lib.hid hlen
  have HNUL := Lib.hid hnul
  have HAT := Lib.hid (fun W (hW : RefD W S B { d with ops := d.ops + 1 }) => rat_calls s W hW)
  have HREF : Hid (∀ W, RefD W S B { d with ops := d.ops + 1 } → Calls Tryz.prog 105 #[.pointer (some ⟨B, 0, none⟩), .int .i64 6, .string s, .string t, .int .i64 n] W (Tells (.int .i64 (ref { d with ops := d.ops + 1 } ⟨6, s, t, n, b⟩)) W)) := Lib.hid (fun W hW => rref_calls 6 (by decide) s t n b W hW hus hns hnt (by omega))
  have hrr : ref { d with ops := d.ops + 1 } ⟨6, s, t, n, b⟩ = ref d ⟨6, s, t, n, b⟩ := by rfl
  rw [hrr] at HREF
  obtain ⟨z, hz⟩ : ∃ z, d.ops = z := ⟨_, rfl⟩
  obtain ⟨o, ho⟩ : ∃ o, z + 1 = o := ⟨_, rfl⟩
  rw [hz] at c3 ho0 ho1 hw1 HBLK
  have HZ := Lib.hid hz
  have HO := Lib.hid ho
  have HI := Lib.hid hi
  clear hi hi0 hSlt h hblk1 hk1 htro1 hrow1 hu1 hkS hus hoff hlen hnul hrow hs htl hrr hz ho
  have HINV : Hid (Inv ⟨d.room, whole ⟨6, s, t, n, b⟩ d.L, d.tr, d.ops + 1, d.down⟩) := Lib.hid (inv_whole HI.out HROW.out.1 hr _ _ _)
  obtain ⟨f, hfn0, hrf⟩ := ref_file (d := d) (o := ⟨6, s, t, n, b⟩) (show 6 ≠ 1 by decide) hr
  have hfn : fnd s d.L = some f := hfn0
  obtain ⟨j, hj, hfj⟩ := ixF_some (i := 0) hfn
  rw [Nat.zero_add] at hj
  have hjl : j < d.L.length := (List.getElem?_eq_some_iff.1 hfj).1
  have HAT2 : Hid (∀ W, RefD W S B { d with ops := d.ops + 1 } → Calls Tryz.prog 36 #[.pointer (some ⟨B, 0, none⟩), .string s] W fun e w' => e = .returned (.int .i64 (j : Int)) ∧ W = w') := Lib.hid (fun W hW => (HAT.out W hW).mono fun e w' h => ⟨h.1.trans (congrArg (fun x => Ending.returned (.int .i64 x)) (hj)), h.2⟩)
  clear HAT
  have HFJ := Lib.hid hfj
  have HFN := Lib.hid hfn
  have HNAME : Hid (f.name = s) := Lib.hid (fnd_some hfn).2
  have hfm := (fnd_some hfn).1
  have hflu : f.data.length ≤ 1073741824 := Nat.le_trans (used_mem hfm) HUS.out
  have HFB := Lib.hid (HI.out.byte f hfm)
  have HFS := Lib.hid (HI.out.safe f hfm)
  have hj1000 : j < 1000 := by omega
  have hj00 : (0 : Int) ≤ (j : Int) := by omega
  clear hfn0 hfn hj hfj hfm hrf
  have HT : Hid (kp d.tr (d.ops + 1) = (0, 0)) := Lib.hid (by unfold kp; rw [ht])
  rw [HZ.out, HO.out] at HT
  rw [show ref d ⟨6, s, t, n, b⟩ = 0 from hr] at HREF
  have HRR := Lib.hid hr
  clear hr ht
  go_enter Tryz.func66, Tryz.ntmps66
  go_wp2
  go_loopg [13, 14, 15, 16] tn (fun g va vb idx _ wr => ∃ (j : Nat) (K P y : Int), va = .int .i64 K ∧ vb = .int .i64 P ∧ idx = .int .i64 y ∧ y + 1 = (j : Int) ∧ g = j ∧ j ≤ tn ∧ kp (d.tr.drop j) o = (K, P) ∧ Below w1.heap.size w1 wr)
  case atStart => exact ⟨tn, 0, 0, (tn : Int) - 1, rfl, rfl, rfl, by omega, rfl, Nat.le_refl _, by rw [← HTRN.out]; exact kp_end, Below.refl _ _⟩
  case round =>
    obtain ⟨j, K, P, y, rfl, rfl, rfl, hy, hg, hjn, hkp, hbr⟩ := hrel
    have HKP := Lib.hid hkp
    have HBR := Lib.hid hbr
    have HG := Lib.hid hg
    have hszr := hbr.size
    clear hkp hbr hg
    by_cases hj : j = 0
    · subst hj
      obtain rfl : y = -1 := by omega
      have HKP2 : Hid (kp d.tr o = (K, P)) := HKP
      clear HKP hy hjn
      obtain ⟨rfl, rfl⟩ : K = 0 ∧ P = 0 := by
        have := HKP2.out
        rw [show kp d.tr o = (0, 0) from HT.out] at this
        simpa using this.symm
      go_wp2_with fail
      with_reducible refine (HREF.out _ (HU1.out.below HBR.out)).mono ?_
      rintro e w3 ⟨rfl, q, rfl⟩
      have HB3 := Lib.hid (below_then HBR.out (below_drewN wr q))
      obtain ⟨w3, hw3⟩ : ∃ w3, wr.drewN q = w3 := ⟨_, rfl⟩
      rw [hw3] at HB3
      try simp only [hw3]
      clear hw3 HKP2
      have HR3 := Lib.hid (HU1.out.below HB3.out)
      have HK3 : Hid (Keeps S w w3) := Lib.hid (HKS.out.trans (keeps_below HB3.out S) (fresh_refl _ _))
      clear HU1 HBR HTRO HBLK HREF hszr
      go_wp2_with fail
      with_reducible refine (HAT2.out _ HR3.out).mono ?_
      rintro e w4 ⟨rfl, rfl⟩
      go_wp2_with fail
      with_reducible refine (rdrop_calls s _ HR3.out).mono ?_
      rintro e w5 ⟨rfl, ht5, _⟩
      have H : Hid (RTurns w S B ⟨d.room, whole ⟨6, s, t, n, b⟩ d.L, d.tr, d.ops + 1, d.down⟩ w5) := Lib.hid (ht5.after HK3.out)
      clear ht5
      go_wp2
      go_ret
      exact ⟨rfl, H.out⟩
    · obtain ⟨g', rfl⟩ : ∃ g', gk = g' + 1 := ⟨gk - 1, by have := HG.out; omega⟩
      obtain rfl : j = g' + 1 := HG.out.symm
      obtain rfl : y = (g' : Int) := by omega
      have hjt : (g' : Int) < (tn : Int) := by omega
      have hj0 : (0 : Int) ≤ (g' : Int) := by omega
      obtain ⟨tt, htt⟩ : ∃ tt, d.tr[g']? = some tt := ⟨d.tr[g']'(by rw [HTRN.out]; omega), List.getElem?_eq_getElem _⟩
      have hkd := kp_drop (o := o) htt
      rw [HKP.out] at hkd
      have hrowt := (HTRO.out.keep (keeps_below HBR.out Non) (fun _ _ h => h))
      obtain ⟨bt, ot, rfl, r0, r1, r2⟩ := rowT_at hrowt htt
      have hblkr := block_below HBR.out HBLK.out
      have e2 : wr.cell? ⟨B, 2, none⟩ = some (.slice (some ⟨bt, ot, none⟩) tn tc) := (cell_of_block hblkr 2).trans rfl
      obtain ⟨x1, hx1⟩ : ∃ x, tt.at_ = x := ⟨_, rfl⟩
      obtain ⟨x2, hx2⟩ : ∃ x, tt.kind = x := ⟨_, rfl⟩
      obtain ⟨x3, hx3⟩ : ∃ x, tt.part = x := ⟨_, rfl⟩
      have hhit : hits o tt = (decide (x1 = o) && decide (1 ≤ x2) && decide (x2 ≤ 3)) := by unfold hits; rw [hx1, hx2]
      rw [hx1] at r0
      rw [hx2] at r1
      rw [hx3] at r2
      rw [hhit, hx2, hx3] at hkd
      have e3 : (wr.alloc (.cells #[.int .i64 x1, .int .i64 x2, .int .i64 x3] 95)).cell? ⟨B, 3, none⟩ = some (.int .i64 o) := by
        have := (cell_of_block ((Below.heap_alloc wr (.cells #[.int .i64 x1, .int .i64 x2, .int .i64 x3] 95) B (lt_of_block hblkr)).trans hblkr) 3).trans (rfl : _ = some (Value.int .i64 (z + 1)))
        rw [HO.out] at this
        exact this
      have HB2 : Hid (∀ q, Below w1.heap.size w1 ((wr.alloc (.cells #[.int .i64 x1, .int .i64 x2, .int .i64 x3] 95)).drewN q)) := Lib.hid (fun q => by
        have h1 := HBR.out.alloc hszr (.cells #[.int .i64 x1, .int .i64 x2, .int .i64 x3] 95)
        exact ⟨h1.os, h1.tape, h1.output, h1.size, h1.block⟩)
      have HKD := Lib.hid hkd
      clear hkd hrowt hblkr hhit hx1 hx2 hx3 htt hy hj HKP hszr
      by_cases k1 : x1 = o
      case neg =>
        have d1 : (x1 == o) = false := by simpa using k1
        have HKN : Hid (kp (d.tr.drop g') o = (K, P)) := Lib.hid (by rw [HKD.out]; rw [decide_eq_false k1]; rfl)
        clear HKD
        go_wp2
        go_quiet (fail)
        go_wp2
        go_roundg g'
        case measure => omega
        case rel => exact ⟨g', K, P, (g' : Int) - 1, rfl, rfl, rfl, by omega, rfl, by omega, HKN.out, HB2.out _⟩
      have d1 : (x1 == o) = true := by simpa using k1
      have HK1 := Lib.hid k1
      clear k1
      by_cases k2 : 1 ≤ x2
      case neg =>
        have d2 : decide (1 ≤ x2) = false := by simpa using k2
        have HKN : Hid (kp (d.tr.drop g') o = (K, P)) := Lib.hid (by rw [HKD.out]; rw [decide_eq_true HK1.out, d2]; rfl)
        clear HKD
        go_wp2
        go_quiet (fail)
        go_wp2
        go_roundg g'
        case measure => omega
        case rel => exact ⟨g', K, P, (g' : Int) - 1, rfl, rfl, rfl, by omega, rfl, by omega, HKN.out, HB2.out _⟩
      have d2 : decide (1 ≤ x2) = true := by simpa using k2
      by_cases k3 : x2 ≤ 3
      case neg =>
        have d3 : decide (x2 ≤ 3) = false := by simpa using k3
        have HKN : Hid (kp (d.tr.drop g') o = (K, P)) := Lib.hid (by rw [HKD.out]; rw [decide_eq_true HK1.out, d2, d3]; rfl)
        clear HKD
        go_wp2
        go_quiet (fail)
        go_wp2
        go_roundg g'
        case measure => omega
        case rel => exact ⟨g', K, P, (g' : Int) - 1, rfl, rfl, rfl, by omega, rfl, by omega, HKN.out, HB2.out _⟩
      have d3 : decide (x2 ≤ 3) = true := by simpa using k3
      have HKN : Hid (kp (d.tr.drop g') o = (x2, x3)) := Lib.hid (by rw [HKD.out]; rw [decide_eq_true HK1.out, d2, d3]; rfl)
      clear HKD
      go_wp2
      go_quiet (fail)
      go_wp2
      go_roundg g'
      case measure => omega
      case rel => exact ⟨g', x2, x3, (g' : Int) - 1, rfl, rfl, rfl, by omega, rfl, by omega, HKN.out, HB2.out _⟩

end Go.Proofs.YtacfcfbleogioaaGreatDoor
namespace Go.Proofs.YtacfcfbleogioaaGreatDoor
open Go.RowKit Go.Lib Go.Joins

set_option maxRecDepth 100000 in
set_option maxHeartbeats 16000000 in
theorem rdo_4 (s t : ByteArray) (n : Int) (a : Option Addr) (b : List Nat) (m c : Nat) (w : World) {S O : Nat → Prop} {B : Nat} {d : Dsk} (hh : DoHyp w S O B d s t a b m c) (hdown : d.down = false) (hr : ref d ⟨4, s, t, n, b⟩ = 0) (ht : tro d.tr (d.ops + 1) = none) :
    Calls Tryz.prog 66 #[.pointer (some ⟨B, 0, none⟩), .int .i64 4, .string s, .string t, .int .i64 n, .slice a m c] w (RDoes w S B (.int .i64 (step d ⟨4, s, t, n, b⟩).1) (step d ⟨4, s, t, n, b⟩).2) := by
  rw [step_none hdown hr ht]
  dsimp only
  obtain ⟨hd, hs, hns, hnt, hrow, hoff, hnul, hlen, hcap, hcmost, hfew, htl⟩ := hh
  have ho0 := hs.ops0
  have ho1 := hs.ops1
  have hus := hs.used
  have hu1 := hd.opsUp (d.ops + 1)
  have hi := hd.1
  have hmost := hi.most
  obtain ⟨hi0, hSlt, lv, ta, tn, tc, Sd, St, h⟩ := hd
  have c3 : w.cell? ⟨B, 3, none⟩ = some (.int .i64 d.ops) := (cell_of_block h.blk 3).trans rfl
  have c4 : w.cell? ⟨B, 4, none⟩ = some (.bool d.down) := (cell_of_block h.blk 4).trans rfl
  have k3 := unfrozen_of_block h.blk 3
  rw [hdown] at c4
  have hblk1 := block_setCell (i := 3) h.blk (.int .i64 (d.ops + 1))
  have hk1 : Keeps (One B) w (w.setCell ⟨B, 3, none⟩ (.int .i64 (d.ops + 1))) := (Keeps.refl (One B) w).setCell (p := ⟨B, 3, none⟩) (.inl rfl) _
  have htro1 := h.tro.keep hk1 (fun k e hkB => (h.sT k e).2.1 hkB)
  have hrow1 := hrow.keep hk1 (fun k e hkB => hoff k e (by rw [show k = B from hkB]; exact h.sB))
  obtain ⟨w1, hw1⟩ : ∃ w1, w.setCell ⟨B, 3, none⟩ (.int .i64 (d.ops + 1)) = w1 := ⟨_, rfl⟩
  rw [hw1] at hu1 hblk1 hk1 htro1 hrow1
  have t2 : w1.cell? ⟨B, 2, none⟩ = some (.slice ta tn tc) := (cell_of_block hblk1 2).trans rfl
  have hkS : Keeps S w w1 := hk1.mono (fun k _ e => by rw [show k = B from e]; exact h.sB)
  have HBLK := Lib.hid hblk1
  have HTRO := Lib.hid htro1
  have HTRN := Lib.hid h.trn
  have HROW := Lib.hid hrow1
  have HU1 := Lib.hid hu1
  have HKS := Lib.hid hkS
  have HUS := Lib.hid hus
  have htn : tn ≤ 1048576 := by rw [← h.trn]; exact htl
  have HOFF := Lib.hid hoff
  have HLEN := Lib.hid hlen
  have HNUL := Lib.hid hnul
  have HAT := Lib.hid (fun W (hW : RefD W S B { d with ops := d.ops + 1 }) => rat_calls s W hW)
  have HREF : Hid (∀ W, RefD W S B { d with ops := d.ops + 1 } → Calls Tryz.prog 105 #[.pointer (some ⟨B, 0, none⟩), .int .i64 4, .string s, .string t, .int .i64 n] W (Tells (.int .i64 (ref { d with ops := d.ops + 1 } ⟨4, s, t, n, b⟩)) W)) := Lib.hid (fun W hW => rref_calls 4 (by decide) s t n b W hW hus hns hnt (by omega))
  have hrr : ref { d with ops := d.ops + 1 } ⟨4, s, t, n, b⟩ = ref d ⟨4, s, t, n, b⟩ := by rfl
  rw [hrr] at HREF
  obtain ⟨z, hz⟩ : ∃ z, d.ops = z := ⟨_, rfl⟩
  obtain ⟨o, ho⟩ : ∃ o, z + 1 = o := ⟨_, rfl⟩
  rw [hz] at c3 ho0 ho1 hw1 HBLK
  have HZ := Lib.hid hz
  have HO := Lib.hid ho
  have HI := Lib.hid hi
  clear hi hi0 hSlt h hblk1 hk1 htro1 hrow1 hu1 hkS hus hoff hlen hnul hrow hs htl hrr hz ho
  have HINV : Hid (Inv ⟨d.room, whole ⟨4, s, t, n, b⟩ d.L, d.tr, d.ops + 1, d.down⟩) := Lib.hid (inv_whole HI.out HROW.out.1 hr _ _ _)
  obtain ⟨f, hfn0, hrf⟩ := ref_file (d := d) (o := ⟨4, s, t, n, b⟩) (show 4 ≠ 1 by decide) hr
  have hfn : fnd s d.L = some f := hfn0
  obtain ⟨j, hj, hfj⟩ := ixF_some (i := 0) hfn
  rw [Nat.zero_add] at hj
  have hjl : j < d.L.length := (List.getElem?_eq_some_iff.1 hfj).1
  have HAT2 : Hid (∀ W, RefD W S B { d with ops := d.ops + 1 } → Calls Tryz.prog 36 #[.pointer (some ⟨B, 0, none⟩), .string s] W fun e w' => e = .returned (.int .i64 (j : Int)) ∧ W = w') := Lib.hid (fun W hW => (HAT.out W hW).mono fun e w' h => ⟨h.1.trans (congrArg (fun x => Ending.returned (.int .i64 x)) (hj)), h.2⟩)
  clear HAT
  have HFJ := Lib.hid hfj
  have HFN := Lib.hid hfn
  have HNAME : Hid (f.name = s) := Lib.hid (fnd_some hfn).2
  have hfm := (fnd_some hfn).1
  have hflu : f.data.length ≤ 1073741824 := Nat.le_trans (used_mem hfm) HUS.out
  have HFB := Lib.hid (HI.out.byte f hfm)
  have HFS := Lib.hid (HI.out.safe f hfm)
  have hj1000 : j < 1000 := by omega
  have hj00 : (0 : Int) ≤ (j : Int) := by omega
  clear hfn0 hfn hj hfj hfm hrf
  have HT : Hid (kp d.tr (d.ops + 1) = (0, 0)) := Lib.hid (by unfold kp; rw [ht])
  rw [HZ.out, HO.out] at HT
  rw [show ref d ⟨4, s, t, n, b⟩ = 0 from hr] at HREF
  have HRR := Lib.hid hr
  clear hr ht
  go_enter Tryz.func66, Tryz.ntmps66
  go_wp2
  go_loopg [13, 14, 15, 16] tn (fun g va vb idx _ wr => ∃ (j : Nat) (K P y : Int), va = .int .i64 K ∧ vb = .int .i64 P ∧ idx = .int .i64 y ∧ y + 1 = (j : Int) ∧ g = j ∧ j ≤ tn ∧ kp (d.tr.drop j) o = (K, P) ∧ Below w1.heap.size w1 wr)
  case atStart => exact ⟨tn, 0, 0, (tn : Int) - 1, rfl, rfl, rfl, by omega, rfl, Nat.le_refl _, by rw [← HTRN.out]; exact kp_end, Below.refl _ _⟩
  case round =>
    obtain ⟨j, K, P, y, rfl, rfl, rfl, hy, hg, hjn, hkp, hbr⟩ := hrel
    have HKP := Lib.hid hkp
    have HBR := Lib.hid hbr
    have HG := Lib.hid hg
    have hszr := hbr.size
    clear hkp hbr hg
    by_cases hj : j = 0
    · subst hj
      obtain rfl : y = -1 := by omega
      have HKP2 : Hid (kp d.tr o = (K, P)) := HKP
      clear HKP hy hjn
      obtain ⟨rfl, rfl⟩ : K = 0 ∧ P = 0 := by
        have := HKP2.out
        rw [show kp d.tr o = (0, 0) from HT.out] at this
        simpa using this.symm
      go_wp2_with fail
      with_reducible refine (HREF.out _ (HU1.out.below HBR.out)).mono ?_
      rintro e w3 ⟨rfl, q, rfl⟩
      have HB3 := Lib.hid (below_then HBR.out (below_drewN wr q))
      obtain ⟨w3, hw3⟩ : ∃ w3, wr.drewN q = w3 := ⟨_, rfl⟩
      rw [hw3] at HB3
      try simp only [hw3]
      clear hw3 HKP2
      have HR3 := Lib.hid (HU1.out.below HB3.out)
      have HK3 : Hid (Keeps S w w3) := Lib.hid (HKS.out.trans (keeps_below HB3.out S) (fresh_refl _ _))
      clear HU1 HBR HTRO HBLK HREF hszr
      go_wp2_with fail
      with_reducible refine (HAT2.out _ HR3.out).mono ?_
      rintro e w4 ⟨rfl, rfl⟩
      obtain ⟨g, lc, ta3, tn3, tc3, Sd3, St3, da, dc, h3, hfa⟩ := HR3.out.2.file HFJ.out
      have hb1 : w3.cell? ⟨B, 1, none⟩ = some (.slice (some ⟨g, 0, none⟩) d.L.length lc) := hfa.b1
      have hr0 := hfa.r0
      have hr1 := hfa.r1
      have hr2 := hfa.r2
      have hlc : d.L.length ≤ lc := hfa.lc
      have hfit := hfa.fit
      obtain ⟨fl, hfl⟩ : ∃ fl, f.data.length = fl := ⟨_, rfl⟩
      obtain ⟨N, hN⟩ : ∃ N, d.L.length = N := ⟨_, rfl⟩
      obtain ⟨sf, hsf⟩ : ∃ sf, f.safe = sf := ⟨_, rfl⟩
      have hsafe := h3.safe (w2 := w3.drew) HR3.out.2.1 ⟨rfl, rfl, rfl, Nat.le_refl _, fun _ _ => rfl⟩ HFJ.out f.data.length
      have hL : whole ⟨4, s, t, n, b⟩ d.L = d.L.set j { f with safe := f.data.length } := upd_set (h := synB) HI.out.srt HFJ.out HNAME.out
      have HF : Hid (RTurns w S B ⟨d.room, whole ⟨4, s, t, n, b⟩ d.L, d.tr, d.ops + 1, d.down⟩ (w3.drew.setCell ⟨g, j * 3 + 2, none⟩ (.int .i64 (fl : Int)))) := Lib.hid (RMoves.turns (RMoves.after HK3.out (by rw [hL, ← hfl]; exact hsafe)) HINV.out)
      have hfz : w3.frozen? ⟨g, j * 3 + 2, none⟩ = false := hfa.free _
      have HQ : Hid (w3.drew.cell? ⟨B, 1, none⟩ = some (.slice (some ⟨g, 0, none⟩) N lc) ∧ w3.drew.cell? ⟨g, j * 3 + 1, none⟩ = some (.slice da fl dc)) := Lib.hid ⟨by rw [← hN]; exact hb1, by rw [← hfl]; exact hr1⟩
      have hjN : (j : Int) < (N : Int) := by omega
      have hr2' : w3.cell? ⟨g, j * 3 + 2, none⟩ = some (.int .i64 (sf : Int)) := by rw [← hsf]; exact hr2
      clear hL hsafe h3 hfa hb1 hr0 hr1 hr2 hN hfl hsf hfit hlc
      go_wp2
      refine wp_region_z (S := fun W => W.cell? ⟨B, 1, none⟩ = some (.slice (some ⟨g, 0, none⟩) N lc) ∧ W.cell? ⟨g, j * 3 + 1, none⟩ = some (.slice da fl dc)) 16 (by kernel_rfl) HQ.out (fun hHeld => ?_)
      refine tkZ 0 17 (v := ?_) rfl ?_ ?_ (by kernel_rfl) (fun _ _ _ h => h) (by rfl) (by assumption)
      rotate_left
      · intro W hS
        try dsimp only at hS
        try obtain ⟨hs0, hs1⟩ := hS
        go_simp
        try with_reducible rfl
      simp only [Act.put, List.setIfInBounds_toArray]
      refine tkZ 1 17 (v := ?_) rfl ?_ ?_ (by kernel_rfl) (fun _ _ _ h => h) (by rfl) (by assumption)
      rotate_left
      · intro W hS
        try dsimp only at hS
        try obtain ⟨hs0, hs1⟩ := hS
        go_simp
        try with_reducible rfl
      simp only [Act.put]
      refine tkZ 2 17 (v := ?_) rfl ?_ ?_ (by kernel_rfl) (fun _ _ _ h => h) (by rfl) (by assumption)
      rotate_left
      · intro W hS
        try dsimp only at hS
        try obtain ⟨hs0, hs1⟩ := hS
        go_simp
        try with_reducible rfl
      simp only [Act.put]
      refine tkZ 3 17 (v := ?_) rfl ?_ ?_ (by kernel_rfl) (fun _ _ _ h => h) (by rfl) (by assumption)
      rotate_left
      · intro W hS
        try dsimp only at hS
        try obtain ⟨hs0, hs1⟩ := hS
        go_simp
        try with_reducible rfl
      simp only [Act.put]
      refine tkZ 4 17 (v := ?_) rfl ?_ ?_ (by kernel_rfl) (fun _ _ _ h => h) (by rfl) (by assumption)
      rotate_left
      · intro W hS
        try dsimp only at hS
        try obtain ⟨hs0, hs1⟩ := hS
        go_simp
        try with_reducible rfl
      simp only [Act.put]
      refine tkZ 5 17 (v := ?_) rfl ?_ ?_ (by kernel_rfl) (fun _ _ _ h => h) (by rfl) (by assumption)
      rotate_left
      · intro W hS
        try dsimp only at hS
        try obtain ⟨hs0, hs1⟩ := hS
        go_simp
        try with_reducible rfl
      simp only [Act.put]
      refine tkZ 6 17 (v := ?_) rfl ?_ ?_ (by kernel_rfl) (fun _ _ _ h => h) (by rfl) (by assumption)
      rotate_left
      · intro W hS
        try dsimp only at hS
        try obtain ⟨hs0, hs1⟩ := hS
        go_simp
        try with_reducible rfl
      simp only [Act.put]
      refine tkZ 7 17 (v := ?_) rfl ?_ ?_ (by kernel_rfl) (fun _ _ _ h => h) (by rfl) (by assumption)
      rotate_left
      · intro W hS
        try dsimp only at hS
        try obtain ⟨hs0, hs1⟩ := hS
        go_simp
        try with_reducible rfl
      simp only [Act.put]
      refine tkZ 8 17 (v := ?_) rfl ?_ ?_ (by kernel_rfl) (fun _ _ _ h => h) (by rfl) (by assumption)
      rotate_left
      · intro W hS
        try dsimp only at hS
        try obtain ⟨hs0, hs1⟩ := hS
        go_simp
        try with_reducible rfl
      simp only [Act.put]
      refine tkZ 9 17 (v := ?_) rfl ?_ ?_ (by kernel_rfl) (fun _ _ _ h => h) (by rfl) (by assumption)
      rotate_left
      · intro W hS
        try dsimp only at hS
        try obtain ⟨hs0, hs1⟩ := hS
        go_simp
        try with_reducible rfl
      simp only [Act.put]
      refine tkZ 10 17 (v := ?_) rfl ?_ ?_ (by kernel_rfl) (fun _ _ _ h => h) (by rfl) (by assumption)
      rotate_left
      · intro W hS
        try dsimp only at hS
        try obtain ⟨hs0, hs1⟩ := hS
        go_simp
        try with_reducible rfl
      simp only [Act.put]
      refine tkZ 11 17 (v := ?_) rfl ?_ ?_ (by kernel_rfl) (fun _ _ _ h => h) (by rfl) (by assumption)
      rotate_left
      · intro W hS
        try dsimp only at hS
        try obtain ⟨hs0, hs1⟩ := hS
        go_simp
        try with_reducible rfl
      simp only [Act.put]
      refine tkZ 12 17 (v := ?_) rfl ?_ ?_ (by kernel_rfl) (fun _ _ _ h => h) (by rfl) (by assumption)
      rotate_left
      · intro W hS
        try dsimp only at hS
        try obtain ⟨hs0, hs1⟩ := hS
        go_simp
        try with_reducible rfl
      simp only [Act.put]
      refine tkZ 13 17 (v := ?_) rfl ?_ ?_ (by kernel_rfl) (fun _ _ _ h => h) (by rfl) (by assumption)
      rotate_left
      · intro W hS
        try dsimp only at hS
        try obtain ⟨hs0, hs1⟩ := hS
        go_simp
        try with_reducible rfl
      simp only [Act.put]
      refine tkZ 14 17 (v := ?_) rfl ?_ ?_ (by kernel_rfl) (fun _ _ _ h => h) (by rfl) (by assumption)
      rotate_left
      · intro W hS
        try dsimp only at hS
        try obtain ⟨hs0, hs1⟩ := hS
        go_simp
        try with_reducible rfl
      simp only [Act.put]
      refine tkZ 15 17 (v := ?_) rfl ?_ ?_ (by kernel_rfl) (fun _ _ _ h => h) (by rfl) (by assumption)
      rotate_left
      · intro W hS
        try dsimp only at hS
        try obtain ⟨hs0, hs1⟩ := hS
        go_simp
        try with_reducible rfl
      simp only [Act.put]
      refine wpAnyZ_last (by kernel_rfl) rfl (by kernel_rfl) (fun K hK => ?_)
      go_simp
      refine hK.out _ _ ?_
      clear hK K
      try simp only [Act.put, List.setIfInBounds_toArray, List.set_cons_zero, List.set_cons_succ]
      go_wp2
      go_ret
      exact ⟨rfl, HF.out⟩
    · obtain ⟨g', rfl⟩ : ∃ g', gk = g' + 1 := ⟨gk - 1, by have := HG.out; omega⟩
      obtain rfl : j = g' + 1 := HG.out.symm
      obtain rfl : y = (g' : Int) := by omega
      have hjt : (g' : Int) < (tn : Int) := by omega
      have hj0 : (0 : Int) ≤ (g' : Int) := by omega
      obtain ⟨tt, htt⟩ : ∃ tt, d.tr[g']? = some tt := ⟨d.tr[g']'(by rw [HTRN.out]; omega), List.getElem?_eq_getElem _⟩
      have hkd := kp_drop (o := o) htt
      rw [HKP.out] at hkd
      have hrowt := (HTRO.out.keep (keeps_below HBR.out Non) (fun _ _ h => h))
      obtain ⟨bt, ot, rfl, r0, r1, r2⟩ := rowT_at hrowt htt
      have hblkr := block_below HBR.out HBLK.out
      have e2 : wr.cell? ⟨B, 2, none⟩ = some (.slice (some ⟨bt, ot, none⟩) tn tc) := (cell_of_block hblkr 2).trans rfl
      obtain ⟨x1, hx1⟩ : ∃ x, tt.at_ = x := ⟨_, rfl⟩
      obtain ⟨x2, hx2⟩ : ∃ x, tt.kind = x := ⟨_, rfl⟩
      obtain ⟨x3, hx3⟩ : ∃ x, tt.part = x := ⟨_, rfl⟩
      have hhit : hits o tt = (decide (x1 = o) && decide (1 ≤ x2) && decide (x2 ≤ 3)) := by unfold hits; rw [hx1, hx2]
      rw [hx1] at r0
      rw [hx2] at r1
      rw [hx3] at r2
      rw [hhit, hx2, hx3] at hkd
      have e3 : (wr.alloc (.cells #[.int .i64 x1, .int .i64 x2, .int .i64 x3] 95)).cell? ⟨B, 3, none⟩ = some (.int .i64 o) := by
        have := (cell_of_block ((Below.heap_alloc wr (.cells #[.int .i64 x1, .int .i64 x2, .int .i64 x3] 95) B (lt_of_block hblkr)).trans hblkr) 3).trans (rfl : _ = some (Value.int .i64 (z + 1)))
        rw [HO.out] at this
        exact this
      have HB2 : Hid (∀ q, Below w1.heap.size w1 ((wr.alloc (.cells #[.int .i64 x1, .int .i64 x2, .int .i64 x3] 95)).drewN q)) := Lib.hid (fun q => by
        have h1 := HBR.out.alloc hszr (.cells #[.int .i64 x1, .int .i64 x2, .int .i64 x3] 95)
        exact ⟨h1.os, h1.tape, h1.output, h1.size, h1.block⟩)
      have HKD := Lib.hid hkd
      clear hkd hrowt hblkr hhit hx1 hx2 hx3 htt hy hj HKP hszr
      by_cases k1 : x1 = o
      case neg =>
        have d1 : (x1 == o) = false := by simpa using k1
        have HKN : Hid (kp (d.tr.drop g') o = (K, P)) := Lib.hid (by rw [HKD.out]; rw [decide_eq_false k1]; rfl)
        clear HKD
        go_wp2
        go_quiet (fail)
        go_wp2
        go_roundg g'
        case measure => omega
        case rel => exact ⟨g', K, P, (g' : Int) - 1, rfl, rfl, rfl, by omega, rfl, by omega, HKN.out, HB2.out _⟩
      have d1 : (x1 == o) = true := by simpa using k1
      have HK1 := Lib.hid k1
      clear k1
      by_cases k2 : 1 ≤ x2
      case neg =>
        have d2 : decide (1 ≤ x2) = false := by simpa using k2
        have HKN : Hid (kp (d.tr.drop g') o = (K, P)) := Lib.hid (by rw [HKD.out]; rw [decide_eq_true HK1.out, d2]; rfl)
        clear HKD
        go_wp2
        go_quiet (fail)
        go_wp2
        go_roundg g'
        case measure => omega
        case rel => exact ⟨g', K, P, (g' : Int) - 1, rfl, rfl, rfl, by omega, rfl, by omega, HKN.out, HB2.out _⟩
      have d2 : decide (1 ≤ x2) = true := by simpa using k2
      by_cases k3 : x2 ≤ 3
      case neg =>
        have d3 : decide (x2 ≤ 3) = false := by simpa using k3
        have HKN : Hid (kp (d.tr.drop g') o = (K, P)) := Lib.hid (by rw [HKD.out]; rw [decide_eq_true HK1.out, d2, d3]; rfl)
        clear HKD
        go_wp2
        go_quiet (fail)
        go_wp2
        go_roundg g'
        case measure => omega
        case rel => exact ⟨g', K, P, (g' : Int) - 1, rfl, rfl, rfl, by omega, rfl, by omega, HKN.out, HB2.out _⟩
      have d3 : decide (x2 ≤ 3) = true := by simpa using k3
      have HKN : Hid (kp (d.tr.drop g') o = (x2, x3)) := Lib.hid (by rw [HKD.out]; rw [decide_eq_true HK1.out, d2, d3]; rfl)
      clear HKD
      go_wp2
      go_quiet (fail)
      go_wp2
      go_roundg g'
      case measure => omega
      case rel => exact ⟨g', x2, x3, (g' : Int) - 1, rfl, rfl, rfl, by omega, rfl, by omega, HKN.out, HB2.out _⟩

end Go.Proofs.YtacfcfbleogioaaGreatDoor

namespace Go.Proofs.YtacfcfbleogioaaGreatDoor
open Go.RowKit Go.Lib Go.Joins

set_option maxRecDepth 100000 in
set_option maxHeartbeats 16000000 in
theorem rdo_2 (s t : ByteArray) (n : Int) (a : Option Addr) (b : List Nat) (m c : Nat) (w : World) {S O : Nat → Prop} {B : Nat} {d : Dsk} (hh : DoHyp w S O B d s t a b m c) (hdown : d.down = false) (hr : ref d ⟨2, s, t, n, b⟩ = 0) (ht : tro d.tr (d.ops + 1) = none) :
    Calls Tryz.prog 66 #[.pointer (some ⟨B, 0, none⟩), .int .i64 2, .string s, .string t, .int .i64 n, .slice a m c] w (RDoes w S B (.int .i64 (step d ⟨2, s, t, n, b⟩).1) (step d ⟨2, s, t, n, b⟩).2) := by
  rw [step_none hdown hr ht]
  dsimp only
  obtain ⟨hd, hs, hns, hnt, hrow, hoff, hnul, hlen, hcap, hcmost, hfew, htl⟩ := hh
  have ho0 := hs.ops0
  have ho1 := hs.ops1
  have hus := hs.used
  have hu1 := hd.opsUp (d.ops + 1)
  have hi := hd.1
  have hmost := hi.most
  obtain ⟨hi0, hSlt, lv, ta, tn, tc, Sd, St, h⟩ := hd
  have c3 : w.cell? ⟨B, 3, none⟩ = some (.int .i64 d.ops) := (cell_of_block h.blk 3).trans rfl
  have c4 : w.cell? ⟨B, 4, none⟩ = some (.bool d.down) := (cell_of_block h.blk 4).trans rfl
  have k3 := unfrozen_of_block h.blk 3
  rw [hdown] at c4
  have hblk1 := block_setCell (i := 3) h.blk (.int .i64 (d.ops + 1))
  have hk1 : Keeps (One B) w (w.setCell ⟨B, 3, none⟩ (.int .i64 (d.ops + 1))) := (Keeps.refl (One B) w).setCell (p := ⟨B, 3, none⟩) (.inl rfl) _
  have htro1 := h.tro.keep hk1 (fun k e hkB => (h.sT k e).2.1 hkB)
  have hrow1 := hrow.keep hk1 (fun k e hkB => hoff k e (by rw [show k = B from hkB]; exact h.sB))
  obtain ⟨w1, hw1⟩ : ∃ w1, w.setCell ⟨B, 3, none⟩ (.int .i64 (d.ops + 1)) = w1 := ⟨_, rfl⟩
  rw [hw1] at hu1 hblk1 hk1 htro1 hrow1
  have t2 : w1.cell? ⟨B, 2, none⟩ = some (.slice ta tn tc) := (cell_of_block hblk1 2).trans rfl
  have hkS : Keeps S w w1 := hk1.mono (fun k _ e => by rw [show k = B from e]; exact h.sB)
  have HBLK := Lib.hid hblk1
  have HTRO := Lib.hid htro1
  have HTRN := Lib.hid h.trn
  have HROW := Lib.hid hrow1
  have HU1 := Lib.hid hu1
  have HKS := Lib.hid hkS
  have HUS := Lib.hid hus
  have htn : tn ≤ 1048576 := by rw [← h.trn]; exact htl
  have HOFF := Lib.hid hoff
  have HLEN := Lib.hid hlen
  have HNUL := Lib.hid hnul
  have HAT := Lib.hid (fun W (hW : RefD W S B { d with ops := d.ops + 1 }) => rat_calls s W hW)
  have HREF : Hid (∀ W, RefD W S B { d with ops := d.ops + 1 } → Calls Tryz.prog 105 #[.pointer (some ⟨B, 0, none⟩), .int .i64 2, .string s, .string t, .int .i64 (m : Int)] W (Tells (.int .i64 (ref { d with ops := d.ops + 1 } ⟨2, s, t, (m : Int), b⟩)) W)) := Lib.hid (fun W hW => rref_calls 2 (by decide) s t (m : Int) b W hW hus hns hnt (by intro _; rw [hlen]))
  have hrr : ref { d with ops := d.ops + 1 } ⟨2, s, t, (m : Int), b⟩ = ref d ⟨2, s, t, n, b⟩ := by rfl
  rw [hrr] at HREF
  obtain ⟨z, hz⟩ : ∃ z, d.ops = z := ⟨_, rfl⟩
  obtain ⟨o, ho⟩ : ∃ o, z + 1 = o := ⟨_, rfl⟩
  rw [hz] at c3 ho0 ho1 hw1 HBLK
  have HZ := Lib.hid hz
  have HO := Lib.hid ho
  have HI := Lib.hid hi
  clear hi hi0 hSlt h hblk1 hk1 htro1 hrow1 hu1 hkS hus hoff hlen hnul hrow hs htl hrr hz ho
  have HINV : Hid (Inv ⟨d.room, whole ⟨2, s, t, n, b⟩ d.L, d.tr, d.ops + 1, d.down⟩) := Lib.hid (inv_whole HI.out HROW.out.1 hr _ _ _)
  obtain ⟨f, hfn0, hrf⟩ := ref_file (d := d) (o := ⟨2, s, t, n, b⟩) (show 2 ≠ 1 by decide) hr
  have hfn : fnd s d.L = some f := hfn0
  obtain ⟨j, hj, hfj⟩ := ixF_some (i := 0) hfn
  rw [Nat.zero_add] at hj
  have hjl : j < d.L.length := (List.getElem?_eq_some_iff.1 hfj).1
  have HAT2 : Hid (∀ W, RefD W S B { d with ops := d.ops + 1 } → Calls Tryz.prog 36 #[.pointer (some ⟨B, 0, none⟩), .string s] W fun e w' => e = .returned (.int .i64 (j : Int)) ∧ W = w') := Lib.hid (fun W hW => (HAT.out W hW).mono fun e w' h => ⟨h.1.trans (congrArg (fun x => Ending.returned (.int .i64 x)) (hj)), h.2⟩)
  clear HAT
  have HFJ := Lib.hid hfj
  have HFN := Lib.hid hfn
  have HNAME : Hid (f.name = s) := Lib.hid (fnd_some hfn).2
  have hfm := (fnd_some hfn).1
  have hflu : f.data.length ≤ 1073741824 := Nat.le_trans (used_mem hfm) HUS.out
  have HFB := Lib.hid (HI.out.byte f hfm)
  have HFS := Lib.hid (HI.out.safe f hfm)
  have hj1000 : j < 1000 := by omega
  have hj00 : (0 : Int) ≤ (j : Int) := by omega
  clear hfn0 hfn hj hfj hfm hrf
  have HT : Hid (kp d.tr (d.ops + 1) = (0, 0)) := Lib.hid (by unfold kp; rw [ht])
  rw [HZ.out, HO.out] at HT
  rw [show ref d ⟨2, s, t, n, b⟩ = 0 from hr] at HREF
  have HRR := Lib.hid hr
  clear hr ht
  go_enter Tryz.func66, Tryz.ntmps66
  go_wp2
  go_loopg [13, 14, 15, 16] tn (fun g va vb idx _ wr => ∃ (j : Nat) (K P y : Int), va = .int .i64 K ∧ vb = .int .i64 P ∧ idx = .int .i64 y ∧ y + 1 = (j : Int) ∧ g = j ∧ j ≤ tn ∧ kp (d.tr.drop j) o = (K, P) ∧ Below w1.heap.size w1 wr)
  case atStart => exact ⟨tn, 0, 0, (tn : Int) - 1, rfl, rfl, rfl, by omega, rfl, Nat.le_refl _, by rw [← HTRN.out]; exact kp_end, Below.refl _ _⟩
  case round =>
    obtain ⟨j, K, P, y, rfl, rfl, rfl, hy, hg, hjn, hkp, hbr⟩ := hrel
    have HKP := Lib.hid hkp
    have HBR := Lib.hid hbr
    have HG := Lib.hid hg
    have hszr := hbr.size
    clear hkp hbr hg
    by_cases hj : j = 0
    · subst hj
      obtain rfl : y = -1 := by omega
      have HKP2 : Hid (kp d.tr o = (K, P)) := HKP
      clear HKP hy hjn
      obtain ⟨rfl, rfl⟩ : K = 0 ∧ P = 0 := by
        have := HKP2.out
        rw [show kp d.tr o = (0, 0) from HT.out] at this
        simpa using this.symm
      go_wp2_with fail
      with_reducible refine (HREF.out _ (HU1.out.below HBR.out)).mono ?_
      rintro e w3 ⟨rfl, q, rfl⟩
      have HB3 := Lib.hid (below_then HBR.out (below_drewN wr q))
      obtain ⟨w3, hw3⟩ : ∃ w3, wr.drewN q = w3 := ⟨_, rfl⟩
      rw [hw3] at HB3
      try simp only [hw3]
      clear hw3 HKP2
      have HR3 := Lib.hid (HU1.out.below HB3.out)
      have HK3 : Hid (Keeps S w w3) := Lib.hid (HKS.out.trans (keeps_below HB3.out S) (fresh_refl _ _))
      clear HU1 HBR HTRO HBLK HREF hszr
      go_wp2_with fail
      with_reducible refine (HAT2.out _ HR3.out).mono ?_
      rintro e w4 ⟨rfl, rfl⟩
      obtain ⟨g, lc, ta3, tn3, tc3, Sd3, St3, da, dc, h3, hfa⟩ := HR3.out.2.file HFJ.out
      have hb1 : w3.cell? ⟨B, 1, none⟩ = some (.slice (some ⟨g, 0, none⟩) d.L.length lc) := hfa.b1
      have hr0 := hfa.r0
      have hr1 := hfa.r1
      have hr2 := hfa.r2
      have hlc : d.L.length ≤ lc := hfa.lc
      have hfit := hfa.fit
      obtain ⟨fl, hfl⟩ : ∃ fl, f.data.length = fl := ⟨_, rfl⟩
      obtain ⟨N, hN⟩ : ∃ N, d.L.length = N := ⟨_, rfl⟩
      obtain ⟨sf, hsf⟩ : ∃ sf, f.safe = sf := ⟨_, rfl⟩
      obtain ⟨a1, e1, W1', a3, e3, W3', r1', hbl1, r3', hbl3, ho3, hn3⟩ := copy_two (W := w3.drew) hfa.row hfa.nul hfl (by omega) (HROW.out.keep (keeps_below HB3.out Non).drew (fun _ _ h => h)) HNUL.out HLEN.out hfew (N := w3.heap.size) rfl
      have hmv := h3.data (w2 := W3') HR3.out.2.1 ⟨hbl3.os, hbl3.tape, hbl3.output, hbl3.size, hbl3.block⟩ HFJ.out (l := f.data ++ b) (fun c hc => by rcases List.mem_append.1 hc with h | h; exact HFB.out c h; exact HROW.out.1 c h) (by rw [List.length_append, hfl, HLEN.out]) ho3 hn3
      have hL : whole ⟨2, s, t, n, b⟩ d.L = d.L.set j { f with data := f.data ++ b } := upd_set (h := addB b) HI.out.srt HFJ.out HNAME.out
      have HF : Hid (RTurns w S B ⟨d.room, whole ⟨2, s, t, n, b⟩ d.L, d.tr, d.ops + 1, d.down⟩ (W3'.setCell ⟨g, j * 3 + 1, none⟩ (.slice a3 (fl + m) e3))) := Lib.hid (RMoves.turns (RMoves.after HK3.out (by rw [hL]; exact hmv)) HINV.out)
      have hq : ∀ W, Below w3.heap.size w3 W → W.cell? ⟨B, 1, none⟩ = some (.slice (some ⟨g, 0, none⟩) N lc) ∧ W.cell? ⟨g, j * 3 + 1, none⟩ = some (.slice da fl dc) := fun W hb => by
        have := hfa.below hb
        exact ⟨by rw [← hN]; exact this.b1, by rw [← hfl]; exact this.r1⟩
      have HQ : Hid (∀ W, Below w3.drew.heap.size w3.drew W → W.cell? ⟨B, 1, none⟩ = some (.slice (some ⟨g, 0, none⟩) N lc) ∧ W.cell? ⟨g, j * 3 + 1, none⟩ = some (.slice da fl dc)) := Lib.hid (fun W hb => hq W ⟨hb.os, hb.tape, hb.output, hb.size, hb.block⟩)
      have hfz : W3'.frozen? ⟨g, j * 3 + 1, none⟩ = false := (hfa.below (w' := W3') ⟨hbl3.os, hbl3.tape, hbl3.output, hbl3.size, hbl3.block⟩).free _
      have HR1 := Lib.hid r1'
      have HR2 := Lib.hid r3'
      have HA : Hid (Below w3.drew.heap.size w3.drew (w3.drew.alloc (.cells #[] 5))) := Lib.hid ((Below.refl _ _).alloc (Nat.le_refl _) _)
      have HB1 := Lib.hid hbl1
      have HB2 := Lib.hid hbl3
      have HZ0 : Hid (Below w3.drew.heap.size w3.drew w3.drew) := Lib.hid (Below.refl _ _)
      have hjN : (j : Int) < (N : Int) := by omega
      clear hq hL hmv ho3 hn3 hbl1 hbl3 r1' r3' h3 hfa hb1 hr0 hr1 hr2 hN hfl hsf hfit hlc
      go_wp2
      refine wp_region_z (S := fun W => W.cell? ⟨B, 1, none⟩ = some (.slice (some ⟨g, 0, none⟩) N lc) ∧ W.cell? ⟨g, j * 3 + 1, none⟩ = some (.slice da fl dc)) 19 (by kernel_rfl) (HQ.out _ HZ0.out) (fun hHeld => ?_)
      refine tkZ 0 20 (v := ?_) rfl ?_ ?_ (by kernel_rfl) (fun _ _ _ h => h) (by rfl) (by assumption)
      rotate_left
      · intro W hS
        try dsimp only at hS
        try obtain ⟨hs0, hs1⟩ := hS
        go_simp
        try with_reducible rfl
      simp only [Act.put, List.setIfInBounds_toArray]
      refine tkZ 1 20 (v := ?_) rfl ?_ ?_ (by kernel_rfl) (fun _ _ _ h => h) (by rfl) (by assumption)
      rotate_left
      · intro W hS
        try dsimp only at hS
        try obtain ⟨hs0, hs1⟩ := hS
        go_simp
        try with_reducible rfl
      simp only [Act.put]
      refine tkZ 2 20 (v := ?_) rfl ?_ ?_ (by kernel_rfl) (fun _ _ _ h => h) (by rfl) (by assumption)
      rotate_left
      · intro W hS
        try dsimp only at hS
        try obtain ⟨hs0, hs1⟩ := hS
        go_simp
        try with_reducible rfl
      simp only [Act.put]
      refine tkZ 3 20 (v := ?_) rfl ?_ ?_ (by kernel_rfl) (fun _ _ _ h => h) (by rfl) (by assumption)
      rotate_left
      · intro W hS
        try dsimp only at hS
        try obtain ⟨hs0, hs1⟩ := hS
        go_simp
        try with_reducible rfl
      simp only [Act.put]
      refine tkZ 4 20 (v := ?_) rfl ?_ ?_ (by kernel_rfl) (fun _ _ _ h => h) (by rfl) (by assumption)
      rotate_left
      · intro W hS
        try dsimp only at hS
        try obtain ⟨hs0, hs1⟩ := hS
        go_simp
        try with_reducible rfl
      simp only [Act.put]
      refine tkZ 6 20 (v := ?_) rfl ?_ ?_ (by kernel_rfl) (fun _ _ _ h => h) (by rfl) (by assumption)
      rotate_left
      · intro W hS
        try dsimp only at hS
        try obtain ⟨hs0, hs1⟩ := hS
        go_simp
        try with_reducible rfl
      simp only [Act.put]
      refine tkZ 7 20 (v := ?_) rfl ?_ ?_ (by kernel_rfl) (fun _ _ _ h => h) (by rfl) (by assumption)
      rotate_left
      · intro W hS
        try dsimp only at hS
        try obtain ⟨hs0, hs1⟩ := hS
        go_simp
        try with_reducible rfl
      simp only [Act.put]
      refine tkZ 8 20 (v := ?_) rfl ?_ ?_ (by kernel_rfl) (fun _ _ _ h => h) (by rfl) (by assumption)
      rotate_left
      · intro W hS
        try dsimp only at hS
        try obtain ⟨hs0, hs1⟩ := hS
        go_simp
        try with_reducible rfl
      simp only [Act.put]
      refine tkZ 9 20 (v := ?_) rfl ?_ ?_ (by kernel_rfl) (fun _ _ _ h => h) (by rfl) (by assumption)
      rotate_left
      · intro W hS
        try dsimp only at hS
        try obtain ⟨hs0, hs1⟩ := hS
        go_simp
        try with_reducible rfl
      simp only [Act.put]
      refine tkZ 10 20 (v := ?_) rfl ?_ ?_ (by kernel_rfl) (fun _ _ _ h => h) (by rfl) (by assumption)
      rotate_left
      · intro W hS
        try dsimp only at hS
        try obtain ⟨hs0, hs1⟩ := hS
        go_simp
        try with_reducible rfl
      simp only [Act.put]
      refine tkZ 11 20 (v := ?_) rfl ?_ ?_ (by kernel_rfl) (fun _ _ _ h => h) (by rfl) (by assumption)
      rotate_left
      · intro W hS
        try dsimp only at hS
        try obtain ⟨hs0, hs1⟩ := hS
        go_simp
        try with_reducible rfl
      simp only [Act.put]
      refine tkZ 12 20 (v := ?_) rfl ?_ ?_ (by kernel_rfl) (fun _ _ _ h => h) (by rfl) (by assumption)
      rotate_left
      · intro W hS
        try dsimp only at hS
        try obtain ⟨hs0, hs1⟩ := hS
        go_simp
        try with_reducible rfl
      simp only [Act.put]
      refine tkZ 13 20 (v := ?_) rfl ?_ ?_ (by kernel_rfl) (fun _ _ _ h => h) (by rfl) (by assumption)
      rotate_left
      · intro W hS
        try dsimp only at hS
        try obtain ⟨hs0, hs1⟩ := hS
        go_simp
        try with_reducible rfl
      simp only [Act.put]
      refine tkZ 15 20 (v := ?_) rfl ?_ ?_ (by kernel_rfl) (fun _ _ _ h => h) (by rfl) (by assumption)
      rotate_left
      · intro W hS
        try dsimp only at hS
        try obtain ⟨hs0, hs1⟩ := hS
        go_simp
        try with_reducible rfl
      simp only [Act.put]
      refine wpAnyZ_one (i := 5) (by kernel_rfl) rfl (fun K hK => ?_)
      go_simp
      refine hK.out _ _ (HQ.out _ HA.out) (fun hHeld => ?_)
      clear hK K
      try simp only [Act.put, List.setIfInBounds_toArray, List.set_cons_zero, List.set_cons_succ]
      refine wpAnyZ_one (i := 14) (by kernel_rfl) rfl (fun K hK => ?_)
      refine step_append rfl _ _ 61 rfl _ _ _ rfl rfl HR1.out ?_
      refine hK.out _ _ (HQ.out _ HB1.out) (fun hHeld => ?_)
      clear hK K
      try simp only [Act.put, List.setIfInBounds_toArray]
      refine wpAnyZ_one (i := 16) (by kernel_rfl) rfl (fun K hK => ?_)
      refine step_append rfl _ _ 61 rfl _ _ _ rfl rfl HR2.out ?_
      refine hK.out _ _ (HQ.out _ HB2.out) (fun hHeld => ?_)
      clear hK K
      try simp only [Act.put]
      refine tkZ 17 20 (v := ?_) rfl ?_ ?_ (by kernel_rfl) (fun _ _ _ h => h) (by rfl) (by assumption)
      rotate_left
      · intro W hS
        try dsimp only at hS
        try obtain ⟨hs0, hs1⟩ := hS
        go_simp
        try with_reducible rfl
      simp only [Act.put]
      refine tkZ 18 20 (v := ?_) rfl ?_ ?_ (by kernel_rfl) (fun _ _ _ h => h) (by rfl) (by assumption)
      rotate_left
      · intro W hS
        try dsimp only at hS
        try obtain ⟨hs0, hs1⟩ := hS
        go_simp
        try with_reducible rfl
      simp only [Act.put]
      refine wpAnyZ_last (by kernel_rfl) rfl (by kernel_rfl) (fun K hK => ?_)
      go_simp
      refine hK.out _ _ ?_
      clear hK K
      try simp only [Act.put, List.setIfInBounds_toArray, List.set_cons_zero, List.set_cons_succ]
      go_wp2
      go_ret
      exact ⟨rfl, HF.out⟩
    · obtain ⟨g', rfl⟩ : ∃ g', gk = g' + 1 := ⟨gk - 1, by have := HG.out; omega⟩
      obtain rfl : j = g' + 1 := HG.out.symm
      obtain rfl : y = (g' : Int) := by omega
      have hjt : (g' : Int) < (tn : Int) := by omega
      have hj0 : (0 : Int) ≤ (g' : Int) := by omega
      obtain ⟨tt, htt⟩ : ∃ tt, d.tr[g']? = some tt := ⟨d.tr[g']'(by rw [HTRN.out]; omega), List.getElem?_eq_getElem _⟩
      have hkd := kp_drop (o := o) htt
      rw [HKP.out] at hkd
      have hrowt := (HTRO.out.keep (keeps_below HBR.out Non) (fun _ _ h => h))
      obtain ⟨bt, ot, rfl, r0, r1, r2⟩ := rowT_at hrowt htt
      have hblkr := block_below HBR.out HBLK.out
      have e2 : wr.cell? ⟨B, 2, none⟩ = some (.slice (some ⟨bt, ot, none⟩) tn tc) := (cell_of_block hblkr 2).trans rfl
      obtain ⟨x1, hx1⟩ : ∃ x, tt.at_ = x := ⟨_, rfl⟩
      obtain ⟨x2, hx2⟩ : ∃ x, tt.kind = x := ⟨_, rfl⟩
      obtain ⟨x3, hx3⟩ : ∃ x, tt.part = x := ⟨_, rfl⟩
      have hhit : hits o tt = (decide (x1 = o) && decide (1 ≤ x2) && decide (x2 ≤ 3)) := by unfold hits; rw [hx1, hx2]
      rw [hx1] at r0
      rw [hx2] at r1
      rw [hx3] at r2
      rw [hhit, hx2, hx3] at hkd
      have e3 : (wr.alloc (.cells #[.int .i64 x1, .int .i64 x2, .int .i64 x3] 95)).cell? ⟨B, 3, none⟩ = some (.int .i64 o) := by
        have := (cell_of_block ((Below.heap_alloc wr (.cells #[.int .i64 x1, .int .i64 x2, .int .i64 x3] 95) B (lt_of_block hblkr)).trans hblkr) 3).trans (rfl : _ = some (Value.int .i64 (z + 1)))
        rw [HO.out] at this
        exact this
      have HB2 : Hid (∀ q, Below w1.heap.size w1 ((wr.alloc (.cells #[.int .i64 x1, .int .i64 x2, .int .i64 x3] 95)).drewN q)) := Lib.hid (fun q => by
        have h1 := HBR.out.alloc hszr (.cells #[.int .i64 x1, .int .i64 x2, .int .i64 x3] 95)
        exact ⟨h1.os, h1.tape, h1.output, h1.size, h1.block⟩)
      have HKD := Lib.hid hkd
      clear hkd hrowt hblkr hhit hx1 hx2 hx3 htt hy hj HKP hszr
      by_cases k1 : x1 = o
      case neg =>
        have d1 : (x1 == o) = false := by simpa using k1
        have HKN : Hid (kp (d.tr.drop g') o = (K, P)) := Lib.hid (by rw [HKD.out]; rw [decide_eq_false k1]; rfl)
        clear HKD
        go_wp2
        go_quiet (fail)
        go_wp2
        go_roundg g'
        case measure => omega
        case rel => exact ⟨g', K, P, (g' : Int) - 1, rfl, rfl, rfl, by omega, rfl, by omega, HKN.out, HB2.out _⟩
      have d1 : (x1 == o) = true := by simpa using k1
      have HK1 := Lib.hid k1
      clear k1
      by_cases k2 : 1 ≤ x2
      case neg =>
        have d2 : decide (1 ≤ x2) = false := by simpa using k2
        have HKN : Hid (kp (d.tr.drop g') o = (K, P)) := Lib.hid (by rw [HKD.out]; rw [decide_eq_true HK1.out, d2]; rfl)
        clear HKD
        go_wp2
        go_quiet (fail)
        go_wp2
        go_roundg g'
        case measure => omega
        case rel => exact ⟨g', K, P, (g' : Int) - 1, rfl, rfl, rfl, by omega, rfl, by omega, HKN.out, HB2.out _⟩
      have d2 : decide (1 ≤ x2) = true := by simpa using k2
      by_cases k3 : x2 ≤ 3
      case neg =>
        have d3 : decide (x2 ≤ 3) = false := by simpa using k3
        have HKN : Hid (kp (d.tr.drop g') o = (K, P)) := Lib.hid (by rw [HKD.out]; rw [decide_eq_true HK1.out, d2, d3]; rfl)
        clear HKD
        go_wp2
        go_quiet (fail)
        go_wp2
        go_roundg g'
        case measure => omega
        case rel => exact ⟨g', K, P, (g' : Int) - 1, rfl, rfl, rfl, by omega, rfl, by omega, HKN.out, HB2.out _⟩
      have d3 : decide (x2 ≤ 3) = true := by simpa using k3
      have HKN : Hid (kp (d.tr.drop g') o = (x2, x3)) := Lib.hid (by rw [HKD.out]; rw [decide_eq_true HK1.out, d2, d3]; rfl)
      clear HKD
      go_wp2
      go_quiet (fail)
      go_wp2
      go_roundg g'
      case measure => omega
      case rel => exact ⟨g', x2, x3, (g' : Int) - 1, rfl, rfl, rfl, by omega, rfl, by omega, HKN.out, HB2.out _⟩

end Go.Proofs.YtacfcfbleogioaaGreatDoor
namespace Go.Proofs.YtacfcfbleogioaaGreatDoor
open Go.RowKit Go.Lib Go.Joins

set_option maxRecDepth 100000 in
set_option maxHeartbeats 16000000 in
theorem rdo_5 (s t : ByteArray) (n : Int) (a : Option Addr) (b : List Nat) (m c : Nat) (w : World) {S O : Nat → Prop} {B : Nat} {d : Dsk} (hh : DoHyp w S O B d s t a b m c) (hdown : d.down = false) (hr : ref d ⟨5, s, t, n, b⟩ = 0) (ht : tro d.tr (d.ops + 1) = none) :
    Calls Tryz.prog 66 #[.pointer (some ⟨B, 0, none⟩), .int .i64 5, .string s, .string t, .int .i64 n, .slice a m c] w (RDoes w S B (.int .i64 (step d ⟨5, s, t, n, b⟩).1) (step d ⟨5, s, t, n, b⟩).2) := by
  rw [step_none hdown hr ht]
  dsimp only
  obtain ⟨hd, hs, hns, hnt, hrow, hoff, hnul, hlen, hcap, hcmost, hfew, htl⟩ := hh
  have ho0 := hs.ops0
  have ho1 := hs.ops1
  have hus := hs.used
  have hu1 := hd.opsUp (d.ops + 1)
  have hi := hd.1
  have hmost := hi.most
  obtain ⟨hi0, hSlt, lv, ta, tn, tc, Sd, St, h⟩ := hd
  have c3 : w.cell? ⟨B, 3, none⟩ = some (.int .i64 d.ops) := (cell_of_block h.blk 3).trans rfl
  have c4 : w.cell? ⟨B, 4, none⟩ = some (.bool d.down) := (cell_of_block h.blk 4).trans rfl
  have k3 := unfrozen_of_block h.blk 3
  rw [hdown] at c4
  have hblk1 := block_setCell (i := 3) h.blk (.int .i64 (d.ops + 1))
  have hk1 : Keeps (One B) w (w.setCell ⟨B, 3, none⟩ (.int .i64 (d.ops + 1))) := (Keeps.refl (One B) w).setCell (p := ⟨B, 3, none⟩) (.inl rfl) _
  have htro1 := h.tro.keep hk1 (fun k e hkB => (h.sT k e).2.1 hkB)
  have hrow1 := hrow.keep hk1 (fun k e hkB => hoff k e (by rw [show k = B from hkB]; exact h.sB))
  obtain ⟨w1, hw1⟩ : ∃ w1, w.setCell ⟨B, 3, none⟩ (.int .i64 (d.ops + 1)) = w1 := ⟨_, rfl⟩
  rw [hw1] at hu1 hblk1 hk1 htro1 hrow1
  have t2 : w1.cell? ⟨B, 2, none⟩ = some (.slice ta tn tc) := (cell_of_block hblk1 2).trans rfl
  have hkS : Keeps S w w1 := hk1.mono (fun k _ e => by rw [show k = B from e]; exact h.sB)
  have HBLK := Lib.hid hblk1
  have HTRO := Lib.hid htro1
  have HTRN := Lib.hid h.trn
  have HROW := Lib.hid hrow1
  have HU1 := Lib.hid hu1
  have HKS := Lib.hid hkS
  have HUS := Lib.hid hus
  have htn : tn ≤ 1048576 := by rw [← h.trn]; exact htl
  have HOFF := Lib.hid hoff
  have HLEN := Lib.hid hlen
  have HNUL := Lib.hid hnul
  have HAT := Lib.hid (fun W (hW : RefD W S B { d with ops := d.ops + 1 }) => rat_calls s W hW)
  have HREF : Hid (∀ W, RefD W S B { d with ops := d.ops + 1 } → Calls Tryz.prog 105 #[.pointer (some ⟨B, 0, none⟩), .int .i64 5, .string s, .string t, .int .i64 n] W (Tells (.int .i64 (ref { d with ops := d.ops + 1 } ⟨5, s, t, n, b⟩)) W)) := Lib.hid (fun W hW => rref_calls 5 (by decide) s t n b W hW hus hns hnt (by omega))
  have hrr : ref { d with ops := d.ops + 1 } ⟨5, s, t, n, b⟩ = ref d ⟨5, s, t, n, b⟩ := by rfl
  rw [hrr] at HREF
  obtain ⟨z, hz⟩ : ∃ z, d.ops = z := ⟨_, rfl⟩
  obtain ⟨o, ho⟩ : ∃ o, z + 1 = o := ⟨_, rfl⟩
  rw [hz] at c3 ho0 ho1 hw1 HBLK
  have HZ := Lib.hid hz
  have HO := Lib.hid ho
  have HI := Lib.hid hi
  clear hi hi0 hSlt h hblk1 hk1 htro1 hrow1 hu1 hkS hus hoff hlen hnul hrow hs htl hrr hz ho
  have HINV : Hid (Inv ⟨d.room, whole ⟨5, s, t, n, b⟩ d.L, d.tr, d.ops + 1, d.down⟩) := Lib.hid (inv_whole HI.out HROW.out.1 hr _ _ _)
  obtain ⟨f, hfn0, hrf⟩ := ref_file (d := d) (o := ⟨5, s, t, n, b⟩) (show 5 ≠ 1 by decide) hr
  have hfn : fnd s d.L = some f := hfn0
  obtain ⟨j, hj, hfj⟩ := ixF_some (i := 0) hfn
  rw [Nat.zero_add] at hj
  have hjl : j < d.L.length := (List.getElem?_eq_some_iff.1 hfj).1
  have HAT2 : Hid (∀ W, RefD W S B { d with ops := d.ops + 1 } → Calls Tryz.prog 36 #[.pointer (some ⟨B, 0, none⟩), .string s] W fun e w' => e = .returned (.int .i64 (j : Int)) ∧ W = w') := Lib.hid (fun W hW => (HAT.out W hW).mono fun e w' h => ⟨h.1.trans (congrArg (fun x => Ending.returned (.int .i64 x)) (hj)), h.2⟩)
  clear HAT
  have HFJ := Lib.hid hfj
  have HFN := Lib.hid hfn
  have HNAME : Hid (f.name = s) := Lib.hid (fnd_some hfn).2
  have hfm := (fnd_some hfn).1
  have hflu : f.data.length ≤ 1073741824 := Nat.le_trans (used_mem hfm) HUS.out
  have HFB := Lib.hid (HI.out.byte f hfm)
  have HFS := Lib.hid (HI.out.safe f hfm)
  have hj1000 : j < 1000 := by omega
  have hj00 : (0 : Int) ≤ (j : Int) := by omega
  clear hfn0 hfn hj hfj hfm hrf
  have HT : Hid (kp d.tr (d.ops + 1) = (0, 0)) := Lib.hid (by unfold kp; rw [ht])
  rw [HZ.out, HO.out] at HT
  rw [show ref d ⟨5, s, t, n, b⟩ = 0 from hr] at HREF
  have HRR := Lib.hid hr
  clear hr ht
  go_enter Tryz.func66, Tryz.ntmps66
  go_wp2
  go_loopg [13, 14, 15, 16] tn (fun g va vb idx _ wr => ∃ (j : Nat) (K P y : Int), va = .int .i64 K ∧ vb = .int .i64 P ∧ idx = .int .i64 y ∧ y + 1 = (j : Int) ∧ g = j ∧ j ≤ tn ∧ kp (d.tr.drop j) o = (K, P) ∧ Below w1.heap.size w1 wr)
  case atStart => exact ⟨tn, 0, 0, (tn : Int) - 1, rfl, rfl, rfl, by omega, rfl, Nat.le_refl _, by rw [← HTRN.out]; exact kp_end, Below.refl _ _⟩
  case round =>
    obtain ⟨j, K, P, y, rfl, rfl, rfl, hy, hg, hjn, hkp, hbr⟩ := hrel
    have HKP := Lib.hid hkp
    have HBR := Lib.hid hbr
    have HG := Lib.hid hg
    have hszr := hbr.size
    clear hkp hbr hg
    by_cases hj : j = 0
    · subst hj
      obtain rfl : y = -1 := by omega
      have HKP2 : Hid (kp d.tr o = (K, P)) := HKP
      clear HKP hy hjn
      obtain ⟨rfl, rfl⟩ : K = 0 ∧ P = 0 := by
        have := HKP2.out
        rw [show kp d.tr o = (0, 0) from HT.out] at this
        simpa using this.symm
      go_wp2_with fail
      with_reducible refine (HREF.out _ (HU1.out.below HBR.out)).mono ?_
      rintro e w3 ⟨rfl, q, rfl⟩
      have HB3 := Lib.hid (below_then HBR.out (below_drewN wr q))
      obtain ⟨w3, hw3⟩ : ∃ w3, wr.drewN q = w3 := ⟨_, rfl⟩
      rw [hw3] at HB3
      try simp only [hw3]
      clear hw3 HKP2
      have HR3 := Lib.hid (HU1.out.below HB3.out)
      have HK3 : Hid (Keeps S w w3) := Lib.hid (HKS.out.trans (keeps_below HB3.out S) (fresh_refl _ _))
      clear HU1 HBR HTRO HBLK HREF hszr
      go_wp2_with fail
      with_reducible refine (HAT2.out _ HR3.out).mono ?_
      rintro e w4 ⟨rfl, rfl⟩
      obtain ⟨g, lc, ta3, tn3, tc3, Sd3, St3, da, dc, h3, hfa⟩ := HR3.out.2.file HFJ.out
      have hb1 : w3.cell? ⟨B, 1, none⟩ = some (.slice (some ⟨g, 0, none⟩) d.L.length lc) := hfa.b1
      have hr0 := hfa.r0
      have hr1 := hfa.r1
      have hr2 := hfa.r2
      have hlc : d.L.length ≤ lc := hfa.lc
      have hfit := hfa.fit
      obtain ⟨fl, hfl⟩ : ∃ fl, f.data.length = fl := ⟨_, rfl⟩
      obtain ⟨N, hN⟩ : ∃ N, d.L.length = N := ⟨_, rfl⟩
      obtain ⟨sf, hsf⟩ : ∃ sf, f.safe = sf := ⟨_, rfl⟩
      have hb0 : Below w3.heap.size w3 (w3.alloc (.cells #[.string f.name, .slice da fl dc, .int .i64 (sf : Int)] 63)) := (Below.refl _ _).alloc (Nat.le_refl _) _
      have hbx : (w3.alloc (.cells #[.string f.name, .slice da fl dc, .int .i64 (sf : Int)] 63)).heap[w3.heap.size]? = some (.cells #[.string f.name, .slice da fl dc, .int .i64 (sf : Int)] 63 (0, 0)) := heap_alloc_new w3 _
      obtain ⟨nm, hnm⟩ : ∃ nm, f.name = nm := ⟨_, rfl⟩
      rw [hnm] at hr0 hb0 hbx
      rw [hfl] at hr1
      rw [hsf] at hr2
      obtain ⟨w5, hw5⟩ : ∃ w5, w3.alloc (.cells #[.string nm, .slice da fl dc, .int .i64 (sf : Int)] 63) = w5 := ⟨_, rfl⟩
      rw [hw5] at hb0 hbx
      have HR5 := Lib.hid (HR3.out.below hb0)
      have HB5 := Lib.hid hb0
      have HBX := Lib.hid hbx
      have HROWF := Lib.hid hfa.row
      have HSD := Lib.hid (fun k (e : Sd3 k) => h3.sD k e)
      have HNULF := Lib.hid hfa.nul
      have HFL := Lib.hid hfl
      have HSF := Lib.hid hsf
      have HNM := Lib.hid hnm
      have HSL := Lib.hid HR3.out.2.1
      have hjN : (j : Int) < (N : Int) := by omega
      rw [hN] at hb1
      have hxl : w3.heap.size < w5.heap.size := lt_of_block hbx
      have hBl := hfa.bl
      clear h3 hfa hb0 hbx hN hfl hsf hfit hlc hnm
      go_wp2_with fail
      with_reducible refine (rdrop_calls s _ HR5.out).mono ?_
      rintro e w6 ⟨rfl, ⟨S6, h6, hf6, hk6⟩, hkB6⟩
      have HR6 : Hid (RefD w6 S6 B { d with ops := d.ops + 1, L := dro s d.L }) := Lib.hid h6
      have HX6 := Lib.hid (block_keep HBX.out hkB6 (fun e => by have : w3.heap.size = B := e; omega))
      have HF6 := Lib.hid hf6
      have HK6 := Lib.hid hk6
      have HKB6 := Lib.hid hkB6
      have hsz6 := hk6.size
      clear h6 hf6 hk6 hkB6 hb1 hr0 hr1 hr2
      go_wp2_with fail
      with_reducible refine (rdrop_calls t _ HR6.out).mono ?_
      rintro e w7 ⟨rfl, ⟨S7, h7, hf7, hk7⟩, hkB7⟩
      have hX7 := block_keep HX6.out hkB7 (fun e => by have : w3.heap.size = B := e; omega)
      have x0 : w7.cell? ⟨w3.heap.size, 0, none⟩ = some (.string nm) := (cell_of_block hX7 0).trans rfl
      have k0 := unfrozen_of_block hX7 0
      have hX8 := block_setCell (i := 0) hX7 (.string t)
      have hkx : Keeps (One w3.heap.size) w7 (w7.setCell ⟨w3.heap.size, 0, none⟩ (.string t)) := (Keeps.refl (One w3.heap.size) w7).setCell (p := ⟨w3.heap.size, 0, none⟩) (.inl rfl) _
      obtain ⟨w8, hw8⟩ : ∃ w8, w7.setCell ⟨w3.heap.size, 0, none⟩ (.string t) = w8 := ⟨_, rfl⟩
      rw [hw8] at hX8 hkx
      have hnS7 : ∀ k, S7 k → ¬ One w3.heap.size k := fun k e hk => by
        have hk : k = w3.heap.size := hk
        subst hk
        rcases hf7 _ e with h | h
        · rcases HF6.out _ h with h | h
          · have := HSL.out _ h; omega
          · omega
        · omega
      have h8 : RefD w8 S7 B { d with ops := d.ops + 1, L := dro t (dro s d.L) } := h7.keep hkx hnS7
      have hrow8 : Row w8 Sd3 da f.data := (((HROWF.out.below (by rw [← hw5]; exact (Below.refl _ _).alloc (Nat.le_refl _) _)).keep HKB6.out (fun k e hk => (HSD.out k e).2.1 hk)).keep hkB7 (fun k e hk => (HSD.out k e).2.1 hk)).keep hkx (fun k e hk => by
        have h1 := HSL.out k (HSD.out k e).1
        have : k = w3.heap.size := hk
        omega)
      have hszw : w.heap.size ≤ w5.heap.size := Nat.le_trans HK3.out.size (Nat.le_trans (Nat.le_of_lt hxl) (Nat.le_refl _))
      have hf6w : Fresh S w.heap.size S6 := fun k e => by
        rcases HF6.out k e with h | h
        · exact .inl h
        · exact .inr (by omega)
      have hK7 : Keeps S w w7 := (((HK3.out.trans (keeps_below HB5.out S) (fresh_refl _ _)).trans HK6.out (fresh_refl _ _)).trans hk7 hf6w)
      have hK8 : Keeps S w w8 := by rw [← hw8]; exact hK7.setCell (p := ⟨w3.heap.size, 0, none⟩) (.inr HK3.out.size) _
      have hf7w : Fresh S w.heap.size S7 := fresh_trans hf6w hf7 (by omega)
      have hL : whole ⟨5, s, t, n, b⟩ d.L = ins { f with name := t } (dro t (dro s d.L)) := by
        show ren s t d.L = _
        unfold ren
        rw [HFN.out]
      have hput : Calls Tryz.prog 38 #[.pointer (some ⟨B, 0, none⟩), .agg #[.string t, .slice da fl dc, .int .i64 (sf : Int)]] w8 (RPutOut w8 S7 B { d with ops := d.ops + 1, L := ins { f with name := t } (dro t (dro s d.L)) }) := by
        rw [← HFL.out, ← HSF.out]
        exact rput_calls { f with name := t } da dc w8 h8.2 (by have := h8.1.most; dsimp only at this ⊢; omega) hnt (fun g hg => by have := nmd_sz (h8.1.name g hg); omega) hrow8 HNULF.out (by show f.data.length ≤ _; exact hflu)
      have HPUT := Lib.hid hput
      have HEND : Hid (∀ w9, RMoves w8 S7 B { d with ops := d.ops + 1, L := ins { f with name := t } (dro t (dro s d.L)) } w9 → RTurns w S B ⟨d.room, whole ⟨5, s, t, n, b⟩ d.L, d.tr, d.ops + 1, d.down⟩ w9) := Lib.hid (fun w9 h => RMoves.turns (by rw [hL]; exact RMoves.trans hf7w hK8 h) HINV.out)
      have y0 : w8.cell? ⟨w3.heap.size, 0, none⟩ = some (.string t) := (cell_of_block hX8 0).trans rfl
      have y1 : w8.cell? ⟨w3.heap.size, 1, none⟩ = some (.slice da fl dc) := (cell_of_block hX8 1).trans rfl
      have y2 : w8.cell? ⟨w3.heap.size, 2, none⟩ = some (.int .i64 (sf : Int)) := (cell_of_block hX8 2).trans rfl
      clear hput hL hf7w hK8 hK7 hf6w hszw hrow8 h8 hnS7 hX8 hkx hX7 h7 hf7 hk7 hkB7
      go_wp2_with fail
      with_reducible refine HPUT.out.mono ?_
      rintro e w9 ⟨rfl, ht9⟩
      have HF := Lib.hid (HEND.out w9 ht9)
      clear ht9
      go_wp2
      go_ret
      exact ⟨rfl, HF.out⟩
    · obtain ⟨g', rfl⟩ : ∃ g', gk = g' + 1 := ⟨gk - 1, by have := HG.out; omega⟩
      obtain rfl : j = g' + 1 := HG.out.symm
      obtain rfl : y = (g' : Int) := by omega
      have hjt : (g' : Int) < (tn : Int) := by omega
      have hj0 : (0 : Int) ≤ (g' : Int) := by omega
      obtain ⟨tt, htt⟩ : ∃ tt, d.tr[g']? = some tt := ⟨d.tr[g']'(by rw [HTRN.out]; omega), List.getElem?_eq_getElem _⟩
      have hkd := kp_drop (o := o) htt
      rw [HKP.out] at hkd
      have hrowt := (HTRO.out.keep (keeps_below HBR.out Non) (fun _ _ h => h))
      obtain ⟨bt, ot, rfl, r0, r1, r2⟩ := rowT_at hrowt htt
      have hblkr := block_below HBR.out HBLK.out
      have e2 : wr.cell? ⟨B, 2, none⟩ = some (.slice (some ⟨bt, ot, none⟩) tn tc) := (cell_of_block hblkr 2).trans rfl
      obtain ⟨x1, hx1⟩ : ∃ x, tt.at_ = x := ⟨_, rfl⟩
      obtain ⟨x2, hx2⟩ : ∃ x, tt.kind = x := ⟨_, rfl⟩
      obtain ⟨x3, hx3⟩ : ∃ x, tt.part = x := ⟨_, rfl⟩
      have hhit : hits o tt = (decide (x1 = o) && decide (1 ≤ x2) && decide (x2 ≤ 3)) := by unfold hits; rw [hx1, hx2]
      rw [hx1] at r0
      rw [hx2] at r1
      rw [hx3] at r2
      rw [hhit, hx2, hx3] at hkd
      have e3 : (wr.alloc (.cells #[.int .i64 x1, .int .i64 x2, .int .i64 x3] 95)).cell? ⟨B, 3, none⟩ = some (.int .i64 o) := by
        have := (cell_of_block ((Below.heap_alloc wr (.cells #[.int .i64 x1, .int .i64 x2, .int .i64 x3] 95) B (lt_of_block hblkr)).trans hblkr) 3).trans (rfl : _ = some (Value.int .i64 (z + 1)))
        rw [HO.out] at this
        exact this
      have HB2 : Hid (∀ q, Below w1.heap.size w1 ((wr.alloc (.cells #[.int .i64 x1, .int .i64 x2, .int .i64 x3] 95)).drewN q)) := Lib.hid (fun q => by
        have h1 := HBR.out.alloc hszr (.cells #[.int .i64 x1, .int .i64 x2, .int .i64 x3] 95)
        exact ⟨h1.os, h1.tape, h1.output, h1.size, h1.block⟩)
      have HKD := Lib.hid hkd
      clear hkd hrowt hblkr hhit hx1 hx2 hx3 htt hy hj HKP hszr
      by_cases k1 : x1 = o
      case neg =>
        have d1 : (x1 == o) = false := by simpa using k1
        have HKN : Hid (kp (d.tr.drop g') o = (K, P)) := Lib.hid (by rw [HKD.out]; rw [decide_eq_false k1]; rfl)
        clear HKD
        go_wp2
        go_quiet (fail)
        go_wp2
        go_roundg g'
        case measure => omega
        case rel => exact ⟨g', K, P, (g' : Int) - 1, rfl, rfl, rfl, by omega, rfl, by omega, HKN.out, HB2.out _⟩
      have d1 : (x1 == o) = true := by simpa using k1
      have HK1 := Lib.hid k1
      clear k1
      by_cases k2 : 1 ≤ x2
      case neg =>
        have d2 : decide (1 ≤ x2) = false := by simpa using k2
        have HKN : Hid (kp (d.tr.drop g') o = (K, P)) := Lib.hid (by rw [HKD.out]; rw [decide_eq_true HK1.out, d2]; rfl)
        clear HKD
        go_wp2
        go_quiet (fail)
        go_wp2
        go_roundg g'
        case measure => omega
        case rel => exact ⟨g', K, P, (g' : Int) - 1, rfl, rfl, rfl, by omega, rfl, by omega, HKN.out, HB2.out _⟩
      have d2 : decide (1 ≤ x2) = true := by simpa using k2
      by_cases k3 : x2 ≤ 3
      case neg =>
        have d3 : decide (x2 ≤ 3) = false := by simpa using k3
        have HKN : Hid (kp (d.tr.drop g') o = (K, P)) := Lib.hid (by rw [HKD.out]; rw [decide_eq_true HK1.out, d2, d3]; rfl)
        clear HKD
        go_wp2
        go_quiet (fail)
        go_wp2
        go_roundg g'
        case measure => omega
        case rel => exact ⟨g', K, P, (g' : Int) - 1, rfl, rfl, rfl, by omega, rfl, by omega, HKN.out, HB2.out _⟩
      have d3 : decide (x2 ≤ 3) = true := by simpa using k3
      have HKN : Hid (kp (d.tr.drop g') o = (x2, x3)) := Lib.hid (by rw [HKD.out]; rw [decide_eq_true HK1.out, d2, d3]; rfl)
      clear HKD
      go_wp2
      go_quiet (fail)
      go_wp2
      go_roundg g'
      case measure => omega
      case rel => exact ⟨g', x2, x3, (g' : Int) - 1, rfl, rfl, rfl, by omega, rfl, by omega, HKN.out, HB2.out _⟩

end Go.Proofs.YtacfcfbleogioaaGreatDoor
