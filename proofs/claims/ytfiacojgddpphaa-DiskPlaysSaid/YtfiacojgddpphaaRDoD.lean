/-
  The reference's Do: where it is refused. Conditions: the disk lies in memory; names are short, bytes, files and troubles few.
  The reference's Do: where a trouble befalls it, and nothing is done. Conditions: the disk lies in memory; names are short, bytes, files and troubles few.
-/
import Derived.Test.YtfiacojgddpphaaRDoB
namespace Go.Proofs.Ytfiacojgddpphaa
open Go.RowKit Go.Lib Go.Joins

set_option maxRecDepth 100000 in
set_option maxHeartbeats 16000000 in
theorem rdo_down (s t : ByteArray) (n : Int) (a : Option Addr) (b : List Nat) (m c : Nat) (w : World) {S O : Nat → Prop} {B : Nat} {d : Dsk} {k : Nat} (hh : DoHyp w S O B d s t a b m c) (hdown : d.down = true) :
    Calls Try.prog 40 #[.pointer (some ⟨B, 0, none⟩), .int .i64 (k : Int), .string s, .string t, .int .i64 n, .slice a m c] w (RDoes w S B (.int .i64 (step d ⟨k, s, t, n, b⟩).1) (step d ⟨k, s, t, n, b⟩).2) := by
  obtain ⟨hi, hSlt, lv, ta, tn, tc, Sd, St, h⟩ := hh.disk
  rw [step_down hdown]
  have c4 : w.cell? ⟨B, 4, none⟩ = some (.bool d.down) := (cell_of_block h.blk 4).trans rfl
  rw [hdown] at c4
  have HD := Lib.hid hh.disk
  clear hh h hi hSlt
  go_enter Try.func40, Try.ntmps40
  go_wp2
  go_ret
  exact ⟨rfl, S, HD.out, fresh_refl _ _, Keeps.refl _ _⟩

set_option maxRecDepth 100000 in
set_option maxHeartbeats 16000000 in
theorem rdo_ref (s t : ByteArray) (n : Int) (a : Option Addr) (b : List Nat) (m c : Nat) (w : World) {S O : Nat → Prop} {B : Nat} {d : Dsk} {k : Nat} (hh : DoHyp w S O B d s t a b m c) (hk : 1 ≤ k ∧ k ≤ 6) (hk2 : k ≠ 2) (hdown : d.down = false) (hr : ref d ⟨k, s, t, n, b⟩ ≠ 0) :
    Calls Try.prog 40 #[.pointer (some ⟨B, 0, none⟩), .int .i64 (k : Int), .string s, .string t, .int .i64 n, .slice a m c] w (RDoes w S B (.int .i64 (step d ⟨k, s, t, n, b⟩).1) (step d ⟨k, s, t, n, b⟩).2) := by
  rw [step_ref hdown hr]
  obtain ⟨hd, hs, hns, hnt, hrow, hoff, hnul, hlen, hcap, hcmost, hfew, htl⟩ := hh
  have ho0 := hs.ops0
  have ho1 := hs.ops1
  have hus := hs.used
  have hu1 := hd.opsUp (d.ops + 1)
  have hi := hd.1
  have hmost := hi.most
  obtain ⟨hi0, hSlt, lv, ta, tn, tc, Sd, St, h⟩ := hd
  have c3 : w.cell? ⟨B, 3, none⟩ = some (.int .i64 d.ops) := (cell_of_block h.blk 3).trans rfl
  have c4 : w.cell? ⟨B, 4, none⟩ = some (.bool d.down) := (cell_of_block h.blk 4).trans rfl
  have k3 := unfrozen_of_block h.blk 3
  rw [hdown] at c4
  have hblk1 := block_setCell (i := 3) h.blk (.int .i64 (d.ops + 1))
  have hk1 : Keeps (One B) w (w.setCell ⟨B, 3, none⟩ (.int .i64 (d.ops + 1))) := (Keeps.refl (One B) w).setCell (p := ⟨B, 3, none⟩) (.inl rfl) _
  have htro1 := h.tro.keep hk1 (fun k e hkB => (h.sT k e).2.1 hkB)
  have hrow1 := hrow.keep hk1 (fun k e hkB => hoff k e (by rw [show k = B from hkB]; exact h.sB))
  obtain ⟨w1, hw1⟩ : ∃ w1, w.setCell ⟨B, 3, none⟩ (.int .i64 (d.ops + 1)) = w1 := ⟨_, rfl⟩
  rw [hw1] at hu1 hblk1 hk1 htro1 hrow1
  have t2 : w1.cell? ⟨B, 2, none⟩ = some (.slice ta tn tc) := (cell_of_block hblk1 2).trans rfl
  have hkS : Keeps S w w1 := hk1.mono (fun k _ e => by rw [show k = B from e]; exact h.sB)
  have HBLK := Lib.hid hblk1
  have HTRO := Lib.hid htro1
  have HTRN := Lib.hid h.trn
  have HROW := Lib.hid hrow1
  have HU1 := Lib.hid hu1
  have HKS := Lib.hid hkS
  have HUS := Lib.hid hus
  have htn : tn ≤ 1048576 := by rw [← h.trn]; exact htl
  have HOFF := Lib.hid hoff
  have HLEN := Lib.hid hlen
  have HNUL := Lib.hid hnul
  have HAT := Lib.hid (fun W (hW : RefD W S B { d with ops := d.ops + 1 }) => rat_calls s W hW)
  have HREF : Hid (∀ W, RefD W S B { d with ops := d.ops + 1 } → Calls Try.prog 60 #[.pointer (some ⟨B, 0, none⟩), .int .i64 (k : Int), .string s, .string t, .int .i64 n] W (Tells (.int .i64 (ref { d with ops := d.ops + 1 } ⟨k, s, t, n, b⟩)) W)) := Lib.hid (fun W hW => rref_calls k (by omega) s t n b W hW hus hns hnt (by omega))
  have hrr : ref { d with ops := d.ops + 1 } ⟨k, s, t, n, b⟩ = ref d ⟨k, s, t, n, b⟩ := by rfl
  rw [hrr] at HREF
  obtain ⟨z, hz⟩ : ∃ z, d.ops = z := ⟨_, rfl⟩
  obtain ⟨o, ho⟩ : ∃ o, z + 1 = o := ⟨_, rfl⟩
  rw [hz] at c3 ho0 ho1 hw1 HBLK
  have HZ := Lib.hid hz
  have HO := Lib.hid ho
  have HI := Lib.hid hi
  clear hi hi0 hSlt h hblk1 hk1 htro1 hrow1 hu1 hkS hus hoff hlen hnul hrow hs htl hrr hz ho
  obtain ⟨Q, hQ⟩ : ∃ Q, ref d ⟨k, s, t, n, b⟩ = Q := ⟨_, rfl⟩
  rw [hQ] at HREF hr ⊢
  have hq1 : (Q != 0) = true := by simpa using hr
  have hq2 : (Q == 0) = false := by simpa using hr
  have hkk : ((k : Int) == 2) = false := by simp; omega
  clear hQ hr
  go_enter Try.func40, Try.ntmps40
  go_wp2
  go_loopg [13, 14, 15, 16] tn (fun g va vb idx _ wr => ∃ (j : Nat) (K P y : Int), va = .int .i64 K ∧ vb = .int .i64 P ∧ idx = .int .i64 y ∧ y + 1 = (j : Int) ∧ g = j ∧ j ≤ tn ∧ kp (d.tr.drop j) o = (K, P) ∧ Below w1.heap.size w1 wr)
  case atStart => exact ⟨tn, 0, 0, (tn : Int) - 1, rfl, rfl, rfl, by omega, rfl, Nat.le_refl _, by rw [← HTRN.out]; exact kp_end, Below.refl _ _⟩
  case round =>
    obtain ⟨j, K, P, y, rfl, rfl, rfl, hy, hg, hjn, hkp, hbr⟩ := hrel
    have HKP := Lib.hid hkp
    have HBR := Lib.hid hbr
    have HG := Lib.hid hg
    have hszr := hbr.size
    clear hkp hbr hg
    by_cases hj : j = 0
    · subst hj
      obtain rfl : y = -1 := by omega
      have HKP2 : Hid (kp d.tr o = (K, P)) := HKP
      clear HKP hy hjn
      go_wp2_with fail
      with_reducible refine (HREF.out _ (HU1.out.below HBR.out)).mono ?_
      rintro e w3 ⟨rfl, q, rfl⟩
      go_wp2
      go_ret
      exact ⟨rfl, (show RTurns w1 S B { d with ops := d.ops + 1 } (wr.drewN q) from ⟨S, HU1.out.below (below_then HBR.out (below_drewN wr q)), fresh_refl _ _, keeps_below (below_then HBR.out (below_drewN wr q)) S⟩).after HKS.out⟩
    · obtain ⟨g', rfl⟩ : ∃ g', gk = g' + 1 := ⟨gk - 1, by have := HG.out; omega⟩
      obtain rfl : j = g' + 1 := HG.out.symm
      obtain rfl : y = (g' : Int) := by omega
      have hjt : (g' : Int) < (tn : Int) := by omega
      have hj0 : (0 : Int) ≤ (g' : Int) := by omega
      obtain ⟨tt, htt⟩ : ∃ tt, d.tr[g']? = some tt := ⟨d.tr[g']'(by rw [HTRN.out]; omega), List.getElem?_eq_getElem _⟩
      have hkd := kp_drop (o := o) htt
      rw [HKP.out] at hkd
      have hrowt := (HTRO.out.keep (keeps_below HBR.out Non) (fun _ _ h => h))
      obtain ⟨bt, ot, rfl, r0, r1, r2⟩ := rowT_at hrowt htt
      have hblkr := block_below HBR.out HBLK.out
      have e2 : wr.cell? ⟨B, 2, none⟩ = some (.slice (some ⟨bt, ot, none⟩) tn tc) := (cell_of_block hblkr 2).trans rfl
      obtain ⟨x1, hx1⟩ : ∃ x, tt.at_ = x := ⟨_, rfl⟩
      obtain ⟨x2, hx2⟩ : ∃ x, tt.kind = x := ⟨_, rfl⟩
      obtain ⟨x3, hx3⟩ : ∃ x, tt.part = x := ⟨_, rfl⟩
      have hhit : hits o tt = (decide (x1 = o) && decide (1 ≤ x2) && decide (x2 ≤ 3)) := by unfold hits; rw [hx1, hx2]
      rw [hx1] at r0
      rw [hx2] at r1
      rw [hx3] at r2
      rw [hhit, hx2, hx3] at hkd
      have e3 : (wr.alloc (.cells #[.int .i64 x1, .int .i64 x2, .int .i64 x3] 92)).cell? ⟨B, 3, none⟩ = some (.int .i64 o) := by
        have := (cell_of_block ((Below.heap_alloc wr (.cells #[.int .i64 x1, .int .i64 x2, .int .i64 x3] 92) B (lt_of_block hblkr)).trans hblkr) 3).trans (rfl : _ = some (Value.int .i64 (z + 1)))
        rw [HO.out] at this
        exact this
      have HB2 : Hid (∀ q, Below w1.heap.size w1 ((wr.alloc (.cells #[.int .i64 x1, .int .i64 x2, .int .i64 x3] 92)).drewN q)) := Lib.hid (fun q => by
        have h1 := HBR.out.alloc hszr (.cells #[.int .i64 x1, .int .i64 x2, .int .i64 x3] 92)
        exact ⟨h1.os, h1.tape, h1.output, h1.size, h1.block⟩)
      have HKD := Lib.hid hkd
      clear hkd hrowt hblkr hhit hx1 hx2 hx3 htt hy hj HKP hszr
      by_cases k1 : x1 = o
      case neg =>
        have d1 : (x1 == o) = false := by simpa using k1
        have HKN : Hid (kp (d.tr.drop g') o = (K, P)) := Lib.hid (by rw [HKD.out]; rw [decide_eq_false k1]; rfl)
        clear HKD
        go_wp2
        go_quiet (fail)
        go_wp2
        go_roundg g'
        case measure => omega
        case rel => exact ⟨g', K, P, (g' : Int) - 1, rfl, rfl, rfl, by omega, rfl, by omega, HKN.out, HB2.out _⟩
      have d1 : (x1 == o) = true := by simpa using k1
      have HK1 := Lib.hid k1
      clear k1
      by_cases k2 : 1 ≤ x2
      case neg =>
        have d2 : decide (1 ≤ x2) = false := by simpa using k2
        have HKN : Hid (kp (d.tr.drop g') o = (K, P)) := Lib.hid (by rw [HKD.out]; rw [decide_eq_true HK1.out, d2]; rfl)
        clear HKD
        go_wp2
        go_quiet (fail)
        go_wp2
        go_roundg g'
        case measure => omega
        case rel => exact ⟨g', K, P, (g' : Int) - 1, rfl, rfl, rfl, by omega, rfl, by omega, HKN.out, HB2.out _⟩
      have d2 : decide (1 ≤ x2) = true := by simpa using k2
      by_cases k3 : x2 ≤ 3
      case neg =>
        have d3 : decide (x2 ≤ 3) = false := by simpa using k3
        have HKN : Hid (kp (d.tr.drop g') o = (K, P)) := Lib.hid (by rw [HKD.out]; rw [decide_eq_true HK1.out, d2, d3]; rfl)
        clear HKD
        go_wp2
        go_quiet (fail)
        go_wp2
        go_roundg g'
        case measure => omega
        case rel => exact ⟨g', K, P, (g' : Int) - 1, rfl, rfl, rfl, by omega, rfl, by omega, HKN.out, HB2.out _⟩
      have d3 : decide (x2 ≤ 3) = true := by simpa using k3
      have HKN : Hid (kp (d.tr.drop g') o = (x2, x3)) := Lib.hid (by rw [HKD.out]; rw [decide_eq_true HK1.out, d2, d3]; rfl)
      clear HKD
      go_wp2
      go_quiet (fail)
      go_wp2
      go_roundg g'
      case measure => omega
      case rel => exact ⟨g', x2, x3, (g' : Int) - 1, rfl, rfl, rfl, by omega, rfl, by omega, HKN.out, HB2.out _⟩

set_option maxRecDepth 100000 in
set_option maxHeartbeats 16000000 in
theorem rdo_ref2 (s t : ByteArray) (n : Int) (a : Option Addr) (b : List Nat) (m c : Nat) (w : World) {S O : Nat → Prop} {B : Nat} {d : Dsk} (hh : DoHyp w S O B d s t a b m c) (hdown : d.down = false) (hr : ref d ⟨2, s, t, n, b⟩ ≠ 0) :
    Calls Try.prog 40 #[.pointer (some ⟨B, 0, none⟩), .int .i64 2, .string s, .string t, .int .i64 n, .slice a m c] w (RDoes w S B (.int .i64 (step d ⟨2, s, t, n, b⟩).1) (step d ⟨2, s, t, n, b⟩).2) := by
  rw [step_ref hdown hr]
  obtain ⟨hd, hs, hns, hnt, hrow, hoff, hnul, hlen, hcap, hcmost, hfew, htl⟩ := hh
  have ho0 := hs.ops0
  have ho1 := hs.ops1
  have hus := hs.used
  have hu1 := hd.opsUp (d.ops + 1)
  have hi := hd.1
  have hmost := hi.most
  obtain ⟨hi0, hSlt, lv, ta, tn, tc, Sd, St, h⟩ := hd
  have c3 : w.cell? ⟨B, 3, none⟩ = some (.int .i64 d.ops) := (cell_of_block h.blk 3).trans rfl
  have c4 : w.cell? ⟨B, 4, none⟩ = some (.bool d.down) := (cell_of_block h.blk 4).trans rfl
  have k3 := unfrozen_of_block h.blk 3
  rw [hdown] at c4
  have hblk1 := block_setCell (i := 3) h.blk (.int .i64 (d.ops + 1))
  have hk1 : Keeps (One B) w (w.setCell ⟨B, 3, none⟩ (.int .i64 (d.ops + 1))) := (Keeps.refl (One B) w).setCell (p := ⟨B, 3, none⟩) (.inl rfl) _
  have htro1 := h.tro.keep hk1 (fun k e hkB => (h.sT k e).2.1 hkB)
  have hrow1 := hrow.keep hk1 (fun k e hkB => hoff k e (by rw [show k = B from hkB]; exact h.sB))
  obtain ⟨w1, hw1⟩ : ∃ w1, w.setCell ⟨B, 3, none⟩ (.int .i64 (d.ops + 1)) = w1 := ⟨_, rfl⟩
  rw [hw1] at hu1 hblk1 hk1 htro1 hrow1
  have t2 : w1.cell? ⟨B, 2, none⟩ = some (.slice ta tn tc) := (cell_of_block hblk1 2).trans rfl
  have hkS : Keeps S w w1 := hk1.mono (fun k _ e => by rw [show k = B from e]; exact h.sB)
  have HBLK := Lib.hid hblk1
  have HTRO := Lib.hid htro1
  have HTRN := Lib.hid h.trn
  have HROW := Lib.hid hrow1
  have HU1 := Lib.hid hu1
  have HKS := Lib.hid hkS
  have HUS := Lib.hid hus
  have htn : tn ≤ 1048576 := by rw [← h.trn]; exact htl
  have HOFF := Lib.hid hoff
  have HLEN := Lib.hid hlen
  have HNUL := Lib.hid hnul
  have HAT := Lib.hid (fun W (hW : RefD W S B { d with ops := d.ops + 1 }) => rat_calls s W hW)
  have HREF : Hid (∀ W, RefD W S B { d with ops := d.ops + 1 } → Calls Try.prog 60 #[.pointer (some ⟨B, 0, none⟩), .int .i64 2, .string s, .string t, .int .i64 (m : Int)] W (Tells (.int .i64 (ref { d with ops := d.ops + 1 } ⟨2, s, t, (m : Int), b⟩)) W)) := Lib.hid (fun W hW => rref_calls 2 (by decide) s t (m : Int) b W hW hus hns hnt (by intro _; rw [hlen]))
  have hrr : ref { d with ops := d.ops + 1 } ⟨2, s, t, (m : Int), b⟩ = ref d ⟨2, s, t, n, b⟩ := by rfl
  rw [hrr] at HREF
  obtain ⟨z, hz⟩ : ∃ z, d.ops = z := ⟨_, rfl⟩
  obtain ⟨o, ho⟩ : ∃ o, z + 1 = o := ⟨_, rfl⟩
  rw [hz] at c3 ho0 ho1 hw1 HBLK
  have HZ := Lib.hid hz
  have HO := Lib.hid ho
  have HI := Lib.hid hi
  clear hi hi0 hSlt h hblk1 hk1 htro1 hrow1 hu1 hkS hus hoff hlen hnul hrow hs htl hrr hz ho
  obtain ⟨Q, hQ⟩ : ∃ Q, ref d ⟨2, s, t, n, b⟩ = Q := ⟨_, rfl⟩
  rw [hQ] at HREF hr ⊢
  have hq1 : (Q != 0) = true := by simpa using hr
  have hq2 : (Q == 0) = false := by simpa using hr
  clear hQ hr
  go_enter Try.func40, Try.ntmps40
  go_wp2
  go_loopg [13, 14, 15, 16] tn (fun g va vb idx _ wr => ∃ (j : Nat) (K P y : Int), va = .int .i64 K ∧ vb = .int .i64 P ∧ idx = .int .i64 y ∧ y + 1 = (j : Int) ∧ g = j ∧ j ≤ tn ∧ kp (d.tr.drop j) o = (K, P) ∧ Below w1.heap.size w1 wr)
  case atStart => exact ⟨tn, 0, 0, (tn : Int) - 1, rfl, rfl, rfl, by omega, rfl, Nat.le_refl _, by rw [← HTRN.out]; exact kp_end, Below.refl _ _⟩
  case round =>
    obtain ⟨j, K, P, y, rfl, rfl, rfl, hy, hg, hjn, hkp, hbr⟩ := hrel
    have HKP := Lib.hid hkp
    have HBR := Lib.hid hbr
    have HG := Lib.hid hg
    have hszr := hbr.size
    clear hkp hbr hg
    by_cases hj : j = 0
    · subst hj
      obtain rfl : y = -1 := by omega
      have HKP2 : Hid (kp d.tr o = (K, P)) := HKP
      clear HKP hy hjn
      go_wp2_with fail
      with_reducible refine (HREF.out _ (HU1.out.below HBR.out)).mono ?_
      rintro e w3 ⟨rfl, q, rfl⟩
      go_wp2
      go_ret
      exact ⟨rfl, (show RTurns w1 S B { d with ops := d.ops + 1 } (wr.drewN q) from ⟨S, HU1.out.below (below_then HBR.out (below_drewN wr q)), fresh_refl _ _, keeps_below (below_then HBR.out (below_drewN wr q)) S⟩).after HKS.out⟩
    · obtain ⟨g', rfl⟩ : ∃ g', gk = g' + 1 := ⟨gk - 1, by have := HG.out; omega⟩
      obtain rfl : j = g' + 1 := HG.out.symm
      obtain rfl : y = (g' : Int) := by omega
      have hjt : (g' : Int) < (tn : Int) := by omega
      have hj0 : (0 : Int) ≤ (g' : Int) := by omega
      obtain ⟨tt, htt⟩ : ∃ tt, d.tr[g']? = some tt := ⟨d.tr[g']'(by rw [HTRN.out]; omega), List.getElem?_eq_getElem _⟩
      have hkd := kp_drop (o := o) htt
      rw [HKP.out] at hkd
      have hrowt := (HTRO.out.keep (keeps_below HBR.out Non) (fun _ _ h => h))
      obtain ⟨bt, ot, rfl, r0, r1, r2⟩ := rowT_at hrowt htt
      have hblkr := block_below HBR.out HBLK.out
      have e2 : wr.cell? ⟨B, 2, none⟩ = some (.slice (some ⟨bt, ot, none⟩) tn tc) := (cell_of_block hblkr 2).trans rfl
      obtain ⟨x1, hx1⟩ : ∃ x, tt.at_ = x := ⟨_, rfl⟩
      obtain ⟨x2, hx2⟩ : ∃ x, tt.kind = x := ⟨_, rfl⟩
      obtain ⟨x3, hx3⟩ : ∃ x, tt.part = x := ⟨_, rfl⟩
      have hhit : hits o tt = (decide (x1 = o) && decide (1 ≤ x2) && decide (x2 ≤ 3)) := by unfold hits; rw [hx1, hx2]
      rw [hx1] at r0
      rw [hx2] at r1
      rw [hx3] at r2
      rw [hhit, hx2, hx3] at hkd
      have e3 : (wr.alloc (.cells #[.int .i64 x1, .int .i64 x2, .int .i64 x3] 92)).cell? ⟨B, 3, none⟩ = some (.int .i64 o) := by
        have := (cell_of_block ((Below.heap_alloc wr (.cells #[.int .i64 x1, .int .i64 x2, .int .i64 x3] 92) B (lt_of_block hblkr)).trans hblkr) 3).trans (rfl : _ = some (Value.int .i64 (z + 1)))
        rw [HO.out] at this
        exact this
      have HB2 : Hid (∀ q, Below w1.heap.size w1 ((wr.alloc (.cells #[.int .i64 x1, .int .i64 x2, .int .i64 x3] 92)).drewN q)) := Lib.hid (fun q => by
        have h1 := HBR.out.alloc hszr (.cells #[.int .i64 x1, .int .i64 x2, .int .i64 x3] 92)
        exact ⟨h1.os, h1.tape, h1.output, h1.size, h1.block⟩)
      have HKD := Lib.hid hkd
      clear hkd hrowt hblkr hhit hx1 hx2 hx3 htt hy hj HKP hszr
      by_cases k1 : x1 = o
      case neg =>
        have d1 : (x1 == o) = false := by simpa using k1
        have HKN : Hid (kp (d.tr.drop g') o = (K, P)) := Lib.hid (by rw [HKD.out]; rw [decide_eq_false k1]; rfl)
        clear HKD
        go_wp2
        go_quiet (fail)
        go_wp2
        go_roundg g'
        case measure => omega
        case rel => exact ⟨g', K, P, (g' : Int) - 1, rfl, rfl, rfl, by omega, rfl, by omega, HKN.out, HB2.out _⟩
      have d1 : (x1 == o) = true := by simpa using k1
      have HK1 := Lib.hid k1
      clear k1
      by_cases k2 : 1 ≤ x2
      case neg =>
        have d2 : decide (1 ≤ x2) = false := by simpa using k2
        have HKN : Hid (kp (d.tr.drop g') o = (K, P)) := Lib.hid (by rw [HKD.out]; rw [decide_eq_true HK1.out, d2]; rfl)
        clear HKD
        go_wp2
        go_quiet (fail)
        go_wp2
        go_roundg g'
        case measure => omega
        case rel => exact ⟨g', K, P, (g' : Int) - 1, rfl, rfl, rfl, by omega, rfl, by omega, HKN.out, HB2.out _⟩
      have d2 : decide (1 ≤ x2) = true := by simpa using k2
      by_cases k3 : x2 ≤ 3
      case neg =>
        have d3 : decide (x2 ≤ 3) = false := by simpa using k3
        have HKN : Hid (kp (d.tr.drop g') o = (K, P)) := Lib.hid (by rw [HKD.out]; rw [decide_eq_true HK1.out, d2, d3]; rfl)
        clear HKD
        go_wp2
        go_quiet (fail)
        go_wp2
        go_roundg g'
        case measure => omega
        case rel => exact ⟨g', K, P, (g' : Int) - 1, rfl, rfl, rfl, by omega, rfl, by omega, HKN.out, HB2.out _⟩
      have d3 : decide (x2 ≤ 3) = true := by simpa using k3
      have HKN : Hid (kp (d.tr.drop g') o = (x2, x3)) := Lib.hid (by rw [HKD.out]; rw [decide_eq_true HK1.out, d2, d3]; rfl)
      clear HKD
      go_wp2
      go_quiet (fail)
      go_wp2
      go_roundg g'
      case measure => omega
      case rel => exact ⟨g', x2, x3, (g' : Int) - 1, rfl, rfl, rfl, by omega, rfl, by omega, HKN.out, HB2.out _⟩

end Go.Proofs.Ytfiacojgddpphaa
namespace Go.Proofs.Ytfiacojgddpphaa
open Go.RowKit Go.Lib Go.Joins

set_option maxRecDepth 100000 in
set_option maxHeartbeats 16000000 in
theorem rdo_tn (s t : ByteArray) (n : Int) (a : Option Addr) (b : List Nat) (m c : Nat) (w : World) {S O : Nat → Prop} {B : Nat} {d : Dsk} {k : Nat} (hh : DoHyp w S O B d s t a b m c) (hk : 1 ≤ k ∧ k ≤ 6) (hk2 : k ≠ 2) {tt0 : Tro} (hdown : d.down = false) (hr : ref d ⟨k, s, t, n, b⟩ = 0) (ht : tro d.tr (d.ops + 1) = some tt0) :
    Calls Try.prog 40 #[.pointer (some ⟨B, 0, none⟩), .int .i64 (k : Int), .string s, .string t, .int .i64 n, .slice a m c] w (RDoes w S B (.int .i64 (step d ⟨k, s, t, n, b⟩).1) (step d ⟨k, s, t, n, b⟩).2) := by
  rw [step_some hdown hr ht]
  dsimp only
  obtain ⟨hd, hs, hns, hnt, hrow, hoff, hnul, hlen, hcap, hcmost, hfew, htl⟩ := hh
  have ho0 := hs.ops0
  have ho1 := hs.ops1
  have hus := hs.used
  have hu1 := hd.opsUp (d.ops + 1)
  have hi := hd.1
  have hmost := hi.most
  obtain ⟨hi0, hSlt, lv, ta, tn, tc, Sd, St, h⟩ := hd
  have c3 : w.cell? ⟨B, 3, none⟩ = some (.int .i64 d.ops) := (cell_of_block h.blk 3).trans rfl
  have c4 : w.cell? ⟨B, 4, none⟩ = some (.bool d.down) := (cell_of_block h.blk 4).trans rfl
  have k3 := unfrozen_of_block h.blk 3
  rw [hdown] at c4
  have hblk1 := block_setCell (i := 3) h.blk (.int .i64 (d.ops + 1))
  have hk1 : Keeps (One B) w (w.setCell ⟨B, 3, none⟩ (.int .i64 (d.ops + 1))) := (Keeps.refl (One B) w).setCell (p := ⟨B, 3, none⟩) (.inl rfl) _
  have htro1 := h.tro.keep hk1 (fun k e hkB => (h.sT k e).2.1 hkB)
  have hrow1 := hrow.keep hk1 (fun k e hkB => hoff k e (by rw [show k = B from hkB]; exact h.sB))
  obtain ⟨w1, hw1⟩ : ∃ w1, w.setCell ⟨B, 3, none⟩ (.int .i64 (d.ops + 1)) = w1 := ⟨_, rfl⟩
  rw [hw1] at hu1 hblk1 hk1 htro1 hrow1
  have t2 : w1.cell? ⟨B, 2, none⟩ = some (.slice ta tn tc) := (cell_of_block hblk1 2).trans rfl
  have hkS : Keeps S w w1 := hk1.mono (fun k _ e => by rw [show k = B from e]; exact h.sB)
  have HBLK := Lib.hid hblk1
  have HTRO := Lib.hid htro1
  have HTRN := Lib.hid h.trn
  have HROW := Lib.hid hrow1
  have HU1 := Lib.hid hu1
  have HKS := Lib.hid hkS
  have HUS := Lib.hid hus
  have htn : tn ≤ 1048576 := by rw [← h.trn]; exact htl
  have HOFF := Lib.hid hoff
  have HLEN := Lib.hid hlen
  have HNUL := Lib.hid hnul
  have HAT := Lib.hid (fun W (hW : RefD W S B { d with ops := d.ops + 1 }) => rat_calls s W hW)
  have HREF : Hid (∀ W, RefD W S B { d with ops := d.ops + 1 } → Calls Try.prog 60 #[.pointer (some ⟨B, 0, none⟩), .int .i64 (k : Int), .string s, .string t, .int .i64 n] W (Tells (.int .i64 (ref { d with ops := d.ops + 1 } ⟨k, s, t, n, b⟩)) W)) := Lib.hid (fun W hW => rref_calls k (by omega) s t n b W hW hus hns hnt (by omega))
  have hrr : ref { d with ops := d.ops + 1 } ⟨k, s, t, n, b⟩ = ref d ⟨k, s, t, n, b⟩ := by rfl
  rw [hrr] at HREF
  obtain ⟨z, hz⟩ : ∃ z, d.ops = z := ⟨_, rfl⟩
  obtain ⟨o, ho⟩ : ∃ o, z + 1 = o := ⟨_, rfl⟩
  rw [hz] at c3 ho0 ho1 hw1 HBLK
  have HZ := Lib.hid hz
  have HO := Lib.hid ho
  have HI := Lib.hid hi
  clear hi hi0 hSlt h hblk1 hk1 htro1 hrow1 hu1 hkS hus hoff hlen hnul hrow hs htl hrr hz ho
  have HT : Hid (kp d.tr (d.ops + 1) = (tt0.kind, tt0.part)) := Lib.hid (by unfold kp; rw [ht])
  have hth := tro_hits ht
  obtain ⟨K0, hK0⟩ : ∃ K0, tt0.kind = K0 := ⟨_, rfl⟩
  obtain ⟨P0, hP0⟩ : ∃ P0, tt0.part = P0 := ⟨_, rfl⟩
  rw [hK0, hP0] at HT
  rw [hK0] at hth ⊢
  rw [hP0]
  have HPART : Hid (part ⟨k, s, t, n, b⟩ P0 d.L = d.L) := Lib.hid (if_neg hk2)
  have HDOWN := Lib.hid hdown
  obtain ⟨J, hJ⟩ : ∃ J, ixF s d.L 0 = J := ⟨_, rfl⟩
  have HAT2 : Hid (∀ W, RefD W S B { d with ops := d.ops + 1 } → Calls Try.prog 35 #[.pointer (some ⟨B, 0, none⟩), .string s] W fun e w' => e = .returned (.int .i64 J) ∧ W = w') := Lib.hid (fun W hW => (HAT.out W hW).mono fun e w' h => ⟨h.1.trans (congrArg (fun x => Ending.returned (.int .i64 x)) (hJ)), h.2⟩)
  clear HAT
  have hkk : ((k : Int) == 2) = false := by simp; omega
  rw [HZ.out, HO.out] at HT
  rw [show ref d ⟨k, s, t, n, b⟩ = 0 from hr] at HREF
  have HRR := Lib.hid hr
  clear hr ht hK0 hP0
  go_enter Try.func40, Try.ntmps40
  go_wp2
  go_loopg [13, 14, 15, 16] tn (fun g va vb idx _ wr => ∃ (j : Nat) (K P y : Int), va = .int .i64 K ∧ vb = .int .i64 P ∧ idx = .int .i64 y ∧ y + 1 = (j : Int) ∧ g = j ∧ j ≤ tn ∧ kp (d.tr.drop j) o = (K, P) ∧ Below w1.heap.size w1 wr)
  case atStart => exact ⟨tn, 0, 0, (tn : Int) - 1, rfl, rfl, rfl, by omega, rfl, Nat.le_refl _, by rw [← HTRN.out]; exact kp_end, Below.refl _ _⟩
  case round =>
    obtain ⟨j, K, P, y, rfl, rfl, rfl, hy, hg, hjn, hkp, hbr⟩ := hrel
    have HKP := Lib.hid hkp
    have HBR := Lib.hid hbr
    have HG := Lib.hid hg
    have hszr := hbr.size
    clear hkp hbr hg
    by_cases hj : j = 0
    · subst hj
      obtain rfl : y = -1 := by omega
      have HKP2 : Hid (kp d.tr o = (K, P)) := HKP
      clear HKP hy hjn
      obtain ⟨rfl, rfl⟩ : K0 = K ∧ P0 = P := by
        have := HKP2.out
        rw [show kp d.tr o = (K0, P0) from HT.out] at this
        simpa using this
      have hK : K0 = 1 ∨ K0 = 2 ∨ K0 = 3 := by omega
      clear hth
      rcases hK with rfl | rfl | rfl
      · go_wp2_with fail
        with_reducible refine (HREF.out _ (HU1.out.below HBR.out)).mono ?_
        rintro e w3 ⟨rfl, q, rfl⟩
        have HB3 := Lib.hid (below_then HBR.out (below_drewN wr q))
        obtain ⟨w3, hw3⟩ : ∃ w3, wr.drewN q = w3 := ⟨_, rfl⟩
        rw [hw3] at HB3
        try simp only [hw3]
        clear hw3 HKP2
        have HR3 := Lib.hid (HU1.out.below HB3.out)
        have HK3 : Hid (Keeps S w w3) := Lib.hid (HKS.out.trans (keeps_below HB3.out S) (fresh_refl _ _))
        clear HU1 HBR HTRO HBLK HREF hszr
        go_wp2_with fail
        with_reducible refine (HAT2.out _ HR3.out).mono ?_
        rintro e w4 ⟨rfl, rfl⟩
        have HF : Hid (RTurns w S B { d with ops := d.ops + 1, L := part ⟨k, s, t, n, b⟩ P0 d.L, down := decide ((1 : Int) = 3) } w3) := Lib.hid (by
          rw [HPART.out]
          have e : ({ d with ops := d.ops + 1, L := d.L, down := decide ((1 : Int) = 3) } : Dsk) = { d with ops := d.ops + 1 } := by rw [show decide ((1 : Int) = 3) = d.down from by rw [HDOWN.out]; rfl]
          rw [e]
          exact RTurns.after HK3.out ⟨S, HR3.out, fresh_refl _ _, Keeps.refl _ _⟩)
        go_wp2
        go_ret
        exact ⟨rfl, HF.out⟩
      · go_wp2_with fail
        with_reducible refine (HREF.out _ (HU1.out.below HBR.out)).mono ?_
        rintro e w3 ⟨rfl, q, rfl⟩
        have HB3 := Lib.hid (below_then HBR.out (below_drewN wr q))
        obtain ⟨w3, hw3⟩ : ∃ w3, wr.drewN q = w3 := ⟨_, rfl⟩
        rw [hw3] at HB3
        try simp only [hw3]
        clear hw3 HKP2
        have HR3 := Lib.hid (HU1.out.below HB3.out)
        have HK3 : Hid (Keeps S w w3) := Lib.hid (HKS.out.trans (keeps_below HB3.out S) (fresh_refl _ _))
        clear HU1 HBR HTRO HBLK HREF hszr
        go_wp2_with fail
        with_reducible refine (HAT2.out _ HR3.out).mono ?_
        rintro e w4 ⟨rfl, rfl⟩
        have HF : Hid (RTurns w S B { d with ops := d.ops + 1, L := part ⟨k, s, t, n, b⟩ P0 d.L, down := decide ((2 : Int) = 3) } w3) := Lib.hid (by
          rw [HPART.out]
          have e : ({ d with ops := d.ops + 1, L := d.L, down := decide ((2 : Int) = 3) } : Dsk) = { d with ops := d.ops + 1 } := by rw [show decide ((2 : Int) = 3) = d.down from by rw [HDOWN.out]; rfl]
          rw [e]
          exact RTurns.after HK3.out ⟨S, HR3.out, fresh_refl _ _, Keeps.refl _ _⟩)
        go_wp2
        go_ret
        exact ⟨rfl, HF.out⟩
      · go_wp2_with fail
        with_reducible refine (HREF.out _ (HU1.out.below HBR.out)).mono ?_
        rintro e w3 ⟨rfl, q, rfl⟩
        have HB3 := Lib.hid (below_then HBR.out (below_drewN wr q))
        obtain ⟨w3, hw3⟩ : ∃ w3, wr.drewN q = w3 := ⟨_, rfl⟩
        rw [hw3] at HB3
        try simp only [hw3]
        clear hw3 HKP2
        have HR3 := Lib.hid (HU1.out.below HB3.out)
        have HK3 : Hid (Keeps S w w3) := Lib.hid (HKS.out.trans (keeps_below HB3.out S) (fresh_refl _ _))
        clear HU1 HBR HTRO HBLK HREF hszr
        go_wp2_with fail
        with_reducible refine (HAT2.out _ HR3.out).mono ?_
        rintro e w4 ⟨rfl, rfl⟩
        have hb4 : w3.cell? ⟨B, 4, none⟩ = some (.bool d.down) ∧ w3.frozen? ⟨B, 4, none⟩ = false := by
          obtain ⟨_, _, lv3, ta3, tn3, tc3, Sd3, St3, h3⟩ := HR3.out
          exact ⟨(cell_of_block h3.blk 4).trans rfl, unfrozen_of_block h3.blk 4⟩
        obtain ⟨hb4, hk4⟩ := hb4
        have HF : Hid (RTurns w S B { d with ops := d.ops + 1, L := part ⟨k, s, t, n, b⟩ P0 d.L, down := decide ((3 : Int) = 3) } (w3.setCell ⟨B, 4, none⟩ (.bool true))) := Lib.hid (by
          rw [HPART.out]
          have hBS : S B := by
            obtain ⟨_, _, lv3, ta3, tn3, tc3, Sd3, St3, h3⟩ := HR3.out
            exact h3.sB
          exact RTurns.after HK3.out ⟨S, HR3.out.downs true, fresh_refl _ _, (Keeps.refl S w3).setCell (p := ⟨B, 4, none⟩) (.inl hBS) _⟩)
        go_wp2
        go_ret
        exact ⟨rfl, HF.out⟩
    · obtain ⟨g', rfl⟩ : ∃ g', gk = g' + 1 := ⟨gk - 1, by have := HG.out; omega⟩
      obtain rfl : j = g' + 1 := HG.out.symm
      obtain rfl : y = (g' : Int) := by omega
      have hjt : (g' : Int) < (tn : Int) := by omega
      have hj0 : (0 : Int) ≤ (g' : Int) := by omega
      obtain ⟨tt, htt⟩ : ∃ tt, d.tr[g']? = some tt := ⟨d.tr[g']'(by rw [HTRN.out]; omega), List.getElem?_eq_getElem _⟩
      have hkd := kp_drop (o := o) htt
      rw [HKP.out] at hkd
      have hrowt := (HTRO.out.keep (keeps_below HBR.out Non) (fun _ _ h => h))
      obtain ⟨bt, ot, rfl, r0, r1, r2⟩ := rowT_at hrowt htt
      have hblkr := block_below HBR.out HBLK.out
      have e2 : wr.cell? ⟨B, 2, none⟩ = some (.slice (some ⟨bt, ot, none⟩) tn tc) := (cell_of_block hblkr 2).trans rfl
      obtain ⟨x1, hx1⟩ : ∃ x, tt.at_ = x := ⟨_, rfl⟩
      obtain ⟨x2, hx2⟩ : ∃ x, tt.kind = x := ⟨_, rfl⟩
      obtain ⟨x3, hx3⟩ : ∃ x, tt.part = x := ⟨_, rfl⟩
      have hhit : hits o tt = (decide (x1 = o) && decide (1 ≤ x2) && decide (x2 ≤ 3)) := by unfold hits; rw [hx1, hx2]
      rw [hx1] at r0
      rw [hx2] at r1
      rw [hx3] at r2
      rw [hhit, hx2, hx3] at hkd
      have e3 : (wr.alloc (.cells #[.int .i64 x1, .int .i64 x2, .int .i64 x3] 92)).cell? ⟨B, 3, none⟩ = some (.int .i64 o) := by
        have := (cell_of_block ((Below.heap_alloc wr (.cells #[.int .i64 x1, .int .i64 x2, .int .i64 x3] 92) B (lt_of_block hblkr)).trans hblkr) 3).trans (rfl : _ = some (Value.int .i64 (z + 1)))
        rw [HO.out] at this
        exact this
      have HB2 : Hid (∀ q, Below w1.heap.size w1 ((wr.alloc (.cells #[.int .i64 x1, .int .i64 x2, .int .i64 x3] 92)).drewN q)) := Lib.hid (fun q => by
        have h1 := HBR.out.alloc hszr (.cells #[.int .i64 x1, .int .i64 x2, .int .i64 x3] 92)
        exact ⟨h1.os, h1.tape, h1.output, h1.size, h1.block⟩)
      have HKD := Lib.hid hkd
      clear hkd hrowt hblkr hhit hx1 hx2 hx3 htt hy hj HKP hszr
      by_cases k1 : x1 = o
      case neg =>
        have d1 : (x1 == o) = false := by simpa using k1
        have HKN : Hid (kp (d.tr.drop g') o = (K, P)) := Lib.hid (by rw [HKD.out]; rw [decide_eq_false k1]; rfl)
        clear HKD
        go_wp2
        go_quiet (fail)
        go_wp2
        go_roundg g'
        case measure => omega
        case rel => exact ⟨g', K, P, (g' : Int) - 1, rfl, rfl, rfl, by omega, rfl, by omega, HKN.out, HB2.out _⟩
      have d1 : (x1 == o) = true := by simpa using k1
      have HK1 := Lib.hid k1
      clear k1
      by_cases k2 : 1 ≤ x2
      case neg =>
        have d2 : decide (1 ≤ x2) = false := by simpa using k2
        have HKN : Hid (kp (d.tr.drop g') o = (K, P)) := Lib.hid (by rw [HKD.out]; rw [decide_eq_true HK1.out, d2]; rfl)
        clear HKD
        go_wp2
        go_quiet (fail)
        go_wp2
        go_roundg g'
        case measure => omega
        case rel => exact ⟨g', K, P, (g' : Int) - 1, rfl, rfl, rfl, by omega, rfl, by omega, HKN.out, HB2.out _⟩
      have d2 : decide (1 ≤ x2) = true := by simpa using k2
      by_cases k3 : x2 ≤ 3
      case neg =>
        have d3 : decide (x2 ≤ 3) = false := by simpa using k3
        have HKN : Hid (kp (d.tr.drop g') o = (K, P)) := Lib.hid (by rw [HKD.out]; rw [decide_eq_true HK1.out, d2, d3]; rfl)
        clear HKD
        go_wp2
        go_quiet (fail)
        go_wp2
        go_roundg g'
        case measure => omega
        case rel => exact ⟨g', K, P, (g' : Int) - 1, rfl, rfl, rfl, by omega, rfl, by omega, HKN.out, HB2.out _⟩
      have d3 : decide (x2 ≤ 3) = true := by simpa using k3
      have HKN : Hid (kp (d.tr.drop g') o = (x2, x3)) := Lib.hid (by rw [HKD.out]; rw [decide_eq_true HK1.out, d2, d3]; rfl)
      clear HKD
      go_wp2
      go_quiet (fail)
      go_wp2
      go_roundg g'
      case measure => omega
      case rel => exact ⟨g', x2, x3, (g' : Int) - 1, rfl, rfl, rfl, by omega, rfl, by omega, HKN.out, HB2.out _⟩

set_option maxRecDepth 100000 in
set_option maxHeartbeats 16000000 in
theorem rdo_t2n (s t : ByteArray) (n : Int) (a : Option Addr) (b : List Nat) (m c : Nat) (w : World) {S O : Nat → Prop} {B : Nat} {d : Dsk} (hh : DoHyp w S O B d s t a b m c) {tt0 : Tro} (hdown : d.down = false) (hr : ref d ⟨2, s, t, n, b⟩ = 0) (ht : tro d.tr (d.ops + 1) = some tt0) (hpart : tt0.part ≤ 0) :
    Calls Try.prog 40 #[.pointer (some ⟨B, 0, none⟩), .int .i64 2, .string s, .string t, .int .i64 n, .slice a m c] w (RDoes w S B (.int .i64 (step d ⟨2, s, t, n, b⟩).1) (step d ⟨2, s, t, n, b⟩).2) := by
  rw [step_some hdown hr ht]
  dsimp only
  obtain ⟨hd, hs, hns, hnt, hrow, hoff, hnul, hlen, hcap, hcmost, hfew, htl⟩ := hh
  have ho0 := hs.ops0
  have ho1 := hs.ops1
  have hus := hs.used
  have hu1 := hd.opsUp (d.ops + 1)
  have hi := hd.1
  have hmost := hi.most
  obtain ⟨hi0, hSlt, lv, ta, tn, tc, Sd, St, h⟩ := hd
  have c3 : w.cell? ⟨B, 3, none⟩ = some (.int .i64 d.ops) := (cell_of_block h.blk 3).trans rfl
  have c4 : w.cell? ⟨B, 4, none⟩ = some (.bool d.down) := (cell_of_block h.blk 4).trans rfl
  have k3 := unfrozen_of_block h.blk 3
  rw [hdown] at c4
  have hblk1 := block_setCell (i := 3) h.blk (.int .i64 (d.ops + 1))
  have hk1 : Keeps (One B) w (w.setCell ⟨B, 3, none⟩ (.int .i64 (d.ops + 1))) := (Keeps.refl (One B) w).setCell (p := ⟨B, 3, none⟩) (.inl rfl) _
  have htro1 := h.tro.keep hk1 (fun k e hkB => (h.sT k e).2.1 hkB)
  have hrow1 := hrow.keep hk1 (fun k e hkB => hoff k e (by rw [show k = B from hkB]; exact h.sB))
  obtain ⟨w1, hw1⟩ : ∃ w1, w.setCell ⟨B, 3, none⟩ (.int .i64 (d.ops + 1)) = w1 := ⟨_, rfl⟩
  rw [hw1] at hu1 hblk1 hk1 htro1 hrow1
  have t2 : w1.cell? ⟨B, 2, none⟩ = some (.slice ta tn tc) := (cell_of_block hblk1 2).trans rfl
  have hkS : Keeps S w w1 := hk1.mono (fun k _ e => by rw [show k = B from e]; exact h.sB)
  have HBLK := Lib.hid hblk1
  have HTRO := Lib.hid htro1
  have HTRN := Lib.hid h.trn
  have HROW := Lib.hid hrow1
  have HU1 := Lib.hid hu1
  have HKS := Lib.hid hkS
  have HUS := Lib.hid hus
  have htn : tn ≤ 1048576 := by rw [← h.trn]; exact htl
  have HOFF := Lib.hid hoff
  have HLEN := Lib.hid hlen
  have HNUL := Lib.hid hnul
  have HAT := Lib.hid (fun W (hW : RefD W S B { d with ops := d.ops + 1 }) => rat_calls s W hW)
  have HREF : Hid (∀ W, RefD W S B { d with ops := d.ops + 1 } → Calls Try.prog 60 #[.pointer (some ⟨B, 0, none⟩), .int .i64 2, .string s, .string t, .int .i64 (m : Int)] W (Tells (.int .i64 (ref { d with ops := d.ops + 1 } ⟨2, s, t, (m : Int), b⟩)) W)) := Lib.hid (fun W hW => rref_calls 2 (by decide) s t (m : Int) b W hW hus hns hnt (by intro _; rw [hlen]))
  have hrr : ref { d with ops := d.ops + 1 } ⟨2, s, t, (m : Int), b⟩ = ref d ⟨2, s, t, n, b⟩ := by rfl
  rw [hrr] at HREF
  obtain ⟨z, hz⟩ : ∃ z, d.ops = z := ⟨_, rfl⟩
  obtain ⟨o, ho⟩ : ∃ o, z + 1 = o := ⟨_, rfl⟩
  rw [hz] at c3 ho0 ho1 hw1 HBLK
  have HZ := Lib.hid hz
  have HO := Lib.hid ho
  have HI := Lib.hid hi
  clear hi hi0 hSlt h hblk1 hk1 htro1 hrow1 hu1 hkS hus hoff hlen hnul hrow hs htl hrr hz ho
  have HT : Hid (kp d.tr (d.ops + 1) = (tt0.kind, tt0.part)) := Lib.hid (by unfold kp; rw [ht])
  have hth := tro_hits ht
  obtain ⟨K0, hK0⟩ : ∃ K0, tt0.kind = K0 := ⟨_, rfl⟩
  obtain ⟨P0, hP0⟩ : ∃ P0, tt0.part = P0 := ⟨_, rfl⟩
  rw [hK0, hP0] at HT
  rw [hK0] at hth ⊢
  rw [hP0] at hpart ⊢
  have HPART : Hid (part ⟨2, s, t, n, b⟩ P0 d.L = d.L) := Lib.hid (by
    show upd s (addB (b.take (wth P0 b.length))) d.L = d.L
    have e : wth P0 b.length = 0 := by unfold wth; omega
    rw [e]
    have e2 : addB (b.take 0) = id := by funext x; unfold addB; simp
    rw [e2]
    unfold upd
    refine (List.map_congr_left (fun x _ => ?_)).trans (List.map_id d.L)
    split <;> rfl)
  have HDOWN := Lib.hid hdown
  obtain ⟨J, hJ⟩ : ∃ J, ixF s d.L 0 = J := ⟨_, rfl⟩
  have HAT2 : Hid (∀ W, RefD W S B { d with ops := d.ops + 1 } → Calls Try.prog 35 #[.pointer (some ⟨B, 0, none⟩), .string s] W fun e w' => e = .returned (.int .i64 J) ∧ W = w') := Lib.hid (fun W hW => (HAT.out W hW).mono fun e w' h => ⟨h.1.trans (congrArg (fun x => Ending.returned (.int .i64 x)) (hJ)), h.2⟩)
  clear HAT
  have hp0 : decide ((0 : Int) < P0) = false := by simp; omega
  clear hpart
  rw [HZ.out, HO.out] at HT
  rw [show ref d ⟨2, s, t, n, b⟩ = 0 from hr] at HREF
  have HRR := Lib.hid hr
  clear hr ht hK0 hP0
  go_enter Try.func40, Try.ntmps40
  go_wp2
  go_loopg [13, 14, 15, 16] tn (fun g va vb idx _ wr => ∃ (j : Nat) (K P y : Int), va = .int .i64 K ∧ vb = .int .i64 P ∧ idx = .int .i64 y ∧ y + 1 = (j : Int) ∧ g = j ∧ j ≤ tn ∧ kp (d.tr.drop j) o = (K, P) ∧ Below w1.heap.size w1 wr)
  case atStart => exact ⟨tn, 0, 0, (tn : Int) - 1, rfl, rfl, rfl, by omega, rfl, Nat.le_refl _, by rw [← HTRN.out]; exact kp_end, Below.refl _ _⟩
  case round =>
    obtain ⟨j, K, P, y, rfl, rfl, rfl, hy, hg, hjn, hkp, hbr⟩ := hrel
    have HKP := Lib.hid hkp
    have HBR := Lib.hid hbr
    have HG := Lib.hid hg
    have hszr := hbr.size
    clear hkp hbr hg
    by_cases hj : j = 0
    · subst hj
      obtain rfl : y = -1 := by omega
      have HKP2 : Hid (kp d.tr o = (K, P)) := HKP
      clear HKP hy hjn
      obtain ⟨rfl, rfl⟩ : K0 = K ∧ P0 = P := by
        have := HKP2.out
        rw [show kp d.tr o = (K0, P0) from HT.out] at this
        simpa using this
      have hK : K0 = 1 ∨ K0 = 2 ∨ K0 = 3 := by omega
      clear hth
      rcases hK with rfl | rfl | rfl
      · go_wp2_with fail
        with_reducible refine (HREF.out _ (HU1.out.below HBR.out)).mono ?_
        rintro e w3 ⟨rfl, q, rfl⟩
        have HB3 := Lib.hid (below_then HBR.out (below_drewN wr q))
        obtain ⟨w3, hw3⟩ : ∃ w3, wr.drewN q = w3 := ⟨_, rfl⟩
        rw [hw3] at HB3
        try simp only [hw3]
        clear hw3 HKP2
        have HR3 := Lib.hid (HU1.out.below HB3.out)
        have HK3 : Hid (Keeps S w w3) := Lib.hid (HKS.out.trans (keeps_below HB3.out S) (fresh_refl _ _))
        clear HU1 HBR HTRO HBLK HREF hszr
        go_wp2_with fail
        with_reducible refine (HAT2.out _ HR3.out).mono ?_
        rintro e w4 ⟨rfl, rfl⟩
        have HF : Hid (RTurns w S B { d with ops := d.ops + 1, L := part ⟨2, s, t, n, b⟩ P0 d.L, down := decide ((1 : Int) = 3) } w3) := Lib.hid (by
          rw [HPART.out]
          have e : ({ d with ops := d.ops + 1, L := d.L, down := decide ((1 : Int) = 3) } : Dsk) = { d with ops := d.ops + 1 } := by rw [show decide ((1 : Int) = 3) = d.down from by rw [HDOWN.out]; rfl]
          rw [e]
          exact RTurns.after HK3.out ⟨S, HR3.out, fresh_refl _ _, Keeps.refl _ _⟩)
        go_wp2
        go_ret
        exact ⟨rfl, HF.out⟩
      · go_wp2_with fail
        with_reducible refine (HREF.out _ (HU1.out.below HBR.out)).mono ?_
        rintro e w3 ⟨rfl, q, rfl⟩
        have HB3 := Lib.hid (below_then HBR.out (below_drewN wr q))
        obtain ⟨w3, hw3⟩ : ∃ w3, wr.drewN q = w3 := ⟨_, rfl⟩
        rw [hw3] at HB3
        try simp only [hw3]
        clear hw3 HKP2
        have HR3 := Lib.hid (HU1.out.below HB3.out)
        have HK3 : Hid (Keeps S w w3) := Lib.hid (HKS.out.trans (keeps_below HB3.out S) (fresh_refl _ _))
        clear HU1 HBR HTRO HBLK HREF hszr
        go_wp2_with fail
        with_reducible refine (HAT2.out _ HR3.out).mono ?_
        rintro e w4 ⟨rfl, rfl⟩
        have HF : Hid (RTurns w S B { d with ops := d.ops + 1, L := part ⟨2, s, t, n, b⟩ P0 d.L, down := decide ((2 : Int) = 3) } w3) := Lib.hid (by
          rw [HPART.out]
          have e : ({ d with ops := d.ops + 1, L := d.L, down := decide ((2 : Int) = 3) } : Dsk) = { d with ops := d.ops + 1 } := by rw [show decide ((2 : Int) = 3) = d.down from by rw [HDOWN.out]; rfl]
          rw [e]
          exact RTurns.after HK3.out ⟨S, HR3.out, fresh_refl _ _, Keeps.refl _ _⟩)
        go_wp2
        go_ret
        exact ⟨rfl, HF.out⟩
      · go_wp2_with fail
        with_reducible refine (HREF.out _ (HU1.out.below HBR.out)).mono ?_
        rintro e w3 ⟨rfl, q, rfl⟩
        have HB3 := Lib.hid (below_then HBR.out (below_drewN wr q))
        obtain ⟨w3, hw3⟩ : ∃ w3, wr.drewN q = w3 := ⟨_, rfl⟩
        rw [hw3] at HB3
        try simp only [hw3]
        clear hw3 HKP2
        have HR3 := Lib.hid (HU1.out.below HB3.out)
        have HK3 : Hid (Keeps S w w3) := Lib.hid (HKS.out.trans (keeps_below HB3.out S) (fresh_refl _ _))
        clear HU1 HBR HTRO HBLK HREF hszr
        go_wp2_with fail
        with_reducible refine (HAT2.out _ HR3.out).mono ?_
        rintro e w4 ⟨rfl, rfl⟩
        have hb4 : w3.cell? ⟨B, 4, none⟩ = some (.bool d.down) ∧ w3.frozen? ⟨B, 4, none⟩ = false := by
          obtain ⟨_, _, lv3, ta3, tn3, tc3, Sd3, St3, h3⟩ := HR3.out
          exact ⟨(cell_of_block h3.blk 4).trans rfl, unfrozen_of_block h3.blk 4⟩
        obtain ⟨hb4, hk4⟩ := hb4
        have HF : Hid (RTurns w S B { d with ops := d.ops + 1, L := part ⟨2, s, t, n, b⟩ P0 d.L, down := decide ((3 : Int) = 3) } (w3.setCell ⟨B, 4, none⟩ (.bool true))) := Lib.hid (by
          rw [HPART.out]
          have hBS : S B := by
            obtain ⟨_, _, lv3, ta3, tn3, tc3, Sd3, St3, h3⟩ := HR3.out
            exact h3.sB
          exact RTurns.after HK3.out ⟨S, HR3.out.downs true, fresh_refl _ _, (Keeps.refl S w3).setCell (p := ⟨B, 4, none⟩) (.inl hBS) _⟩)
        go_wp2
        go_ret
        exact ⟨rfl, HF.out⟩
    · obtain ⟨g', rfl⟩ : ∃ g', gk = g' + 1 := ⟨gk - 1, by have := HG.out; omega⟩
      obtain rfl : j = g' + 1 := HG.out.symm
      obtain rfl : y = (g' : Int) := by omega
      have hjt : (g' : Int) < (tn : Int) := by omega
      have hj0 : (0 : Int) ≤ (g' : Int) := by omega
      obtain ⟨tt, htt⟩ : ∃ tt, d.tr[g']? = some tt := ⟨d.tr[g']'(by rw [HTRN.out]; omega), List.getElem?_eq_getElem _⟩
      have hkd := kp_drop (o := o) htt
      rw [HKP.out] at hkd
      have hrowt := (HTRO.out.keep (keeps_below HBR.out Non) (fun _ _ h => h))
      obtain ⟨bt, ot, rfl, r0, r1, r2⟩ := rowT_at hrowt htt
      have hblkr := block_below HBR.out HBLK.out
      have e2 : wr.cell? ⟨B, 2, none⟩ = some (.slice (some ⟨bt, ot, none⟩) tn tc) := (cell_of_block hblkr 2).trans rfl
      obtain ⟨x1, hx1⟩ : ∃ x, tt.at_ = x := ⟨_, rfl⟩
      obtain ⟨x2, hx2⟩ : ∃ x, tt.kind = x := ⟨_, rfl⟩
      obtain ⟨x3, hx3⟩ : ∃ x, tt.part = x := ⟨_, rfl⟩
      have hhit : hits o tt = (decide (x1 = o) && decide (1 ≤ x2) && decide (x2 ≤ 3)) := by unfold hits; rw [hx1, hx2]
      rw [hx1] at r0
      rw [hx2] at r1
      rw [hx3] at r2
      rw [hhit, hx2, hx3] at hkd
      have e3 : (wr.alloc (.cells #[.int .i64 x1, .int .i64 x2, .int .i64 x3] 92)).cell? ⟨B, 3, none⟩ = some (.int .i64 o) := by
        have := (cell_of_block ((Below.heap_alloc wr (.cells #[.int .i64 x1, .int .i64 x2, .int .i64 x3] 92) B (lt_of_block hblkr)).trans hblkr) 3).trans (rfl : _ = some (Value.int .i64 (z + 1)))
        rw [HO.out] at this
        exact this
      have HB2 : Hid (∀ q, Below w1.heap.size w1 ((wr.alloc (.cells #[.int .i64 x1, .int .i64 x2, .int .i64 x3] 92)).drewN q)) := Lib.hid (fun q => by
        have h1 := HBR.out.alloc hszr (.cells #[.int .i64 x1, .int .i64 x2, .int .i64 x3] 92)
        exact ⟨h1.os, h1.tape, h1.output, h1.size, h1.block⟩)
      have HKD := Lib.hid hkd
      clear hkd hrowt hblkr hhit hx1 hx2 hx3 htt hy hj HKP hszr
      by_cases k1 : x1 = o
      case neg =>
        have d1 : (x1 == o) = false := by simpa using k1
        have HKN : Hid (kp (d.tr.drop g') o = (K, P)) := Lib.hid (by rw [HKD.out]; rw [decide_eq_false k1]; rfl)
        clear HKD
        go_wp2
        go_quiet (fail)
        go_wp2
        go_roundg g'
        case measure => omega
        case rel => exact ⟨g', K, P, (g' : Int) - 1, rfl, rfl, rfl, by omega, rfl, by omega, HKN.out, HB2.out _⟩
      have d1 : (x1 == o) = true := by simpa using k1
      have HK1 := Lib.hid k1
      clear k1
      by_cases k2 : 1 ≤ x2
      case neg =>
        have d2 : decide (1 ≤ x2) = false := by simpa using k2
        have HKN : Hid (kp (d.tr.drop g') o = (K, P)) := Lib.hid (by rw [HKD.out]; rw [decide_eq_true HK1.out, d2]; rfl)
        clear HKD
        go_wp2
        go_quiet (fail)
        go_wp2
        go_roundg g'
        case measure => omega
        case rel => exact ⟨g', K, P, (g' : Int) - 1, rfl, rfl, rfl, by omega, rfl, by omega, HKN.out, HB2.out _⟩
      have d2 : decide (1 ≤ x2) = true := by simpa using k2
      by_cases k3 : x2 ≤ 3
      case neg =>
        have d3 : decide (x2 ≤ 3) = false := by simpa using k3
        have HKN : Hid (kp (d.tr.drop g') o = (K, P)) := Lib.hid (by rw [HKD.out]; rw [decide_eq_true HK1.out, d2, d3]; rfl)
        clear HKD
        go_wp2
        go_quiet (fail)
        go_wp2
        go_roundg g'
        case measure => omega
        case rel => exact ⟨g', K, P, (g' : Int) - 1, rfl, rfl, rfl, by omega, rfl, by omega, HKN.out, HB2.out _⟩
      have d3 : decide (x2 ≤ 3) = true := by simpa using k3
      have HKN : Hid (kp (d.tr.drop g') o = (x2, x3)) := Lib.hid (by rw [HKD.out]; rw [decide_eq_true HK1.out, d2, d3]; rfl)
      clear HKD
      go_wp2
      go_quiet (fail)
      go_wp2
      go_roundg g'
      case measure => omega
      case rel => exact ⟨g', x2, x3, (g' : Int) - 1, rfl, rfl, rfl, by omega, rfl, by omega, HKN.out, HB2.out _⟩

end Go.Proofs.Ytfiacojgddpphaa
