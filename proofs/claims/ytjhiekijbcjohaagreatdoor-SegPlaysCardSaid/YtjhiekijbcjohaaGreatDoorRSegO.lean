/-
  The reference's Open of a segment, the last one. Conditions: the disk lies in memory; it is small; its troubles are few.
-/
import Derived.Test.YtjhiekijbcjohaaGreatDoorRSeg
import Derived.Test.YtjhiekijbcjohaaGreatDoorSRScan
namespace Go.Proofs.YtjhiekijbcjohaaGreatDoor
open Go.RowKit Go.Lib Go.Joins

def RRead7 (o : Option Fil) (w : World) (e : Ending) (w' : World) : Prop :=
  ∃ a c S', e = .returned (.tuple #[.slice a (dataO o).length c, .int .i64 (codeO o)]) ∧ Row w' S' a (dataO o) ∧ (∀ k, S' k → w.heap.size ≤ k ∧ k < w'.heap.size) ∧ Below w.heap.size w w' ∧ (a = none → c = 0) ∧ (dataO o).length ≤ c ∧ c ≤ maxLen
set_option maxRecDepth 100000 in
set_option maxHeartbeats 4000000 in
theorem rread7_calls (s : ByteArray) (w : World) {S : Nat → Prop} {B : Nat} {d : Dsk} (hd : RefD w S B d) (hu : used d.L ≤ 1073741824) : Calls Tryz.prog 59 #[.pointer (some ⟨B, 0, none⟩), .string s] w (RRead7 (fnd s d.L) w) := by
  have HAT := Lib.hid (rat_calls s w hd)
  obtain ⟨hi, _, lv, ta, tn, tc, Sd, St, h⟩ := hd
  obtain ⟨la, lc, rfl, hf, _, _, _⟩ := h.fils
  have hmost := hi.most
  cases hfn : fnd s d.L with
  | none =>
    rw [ixF_none hfn] at HAT
    clear h hi hf hmost
    go_enter Tryz.func59, Tryz.ntmps59
    go_wp2_with fail
    with_reducible refine HAT.out.mono ?_
    rintro e w1 ⟨rfl, rfl⟩
    go_wp2
    go_ret2
    exact ⟨none, 0, Non, rfl, ⟨(fun c hc => by cases hc), Or.inl rfl⟩, fun k hk => hk.elim, Below.refl _ _, fun _ => rfl, Nat.le_refl _, Nat.zero_le _⟩
  | some f =>
    obtain ⟨j, hj, hfj⟩ := ixF_some (i := 0) hfn
    rw [hj, Nat.zero_add] at HAT
    have hjl : j < d.L.length := (List.getElem?_eq_some_iff.1 hfj).1
    have hfi : (d.L.map toI)[j]? = some (toI f) := by rw [List.getElem?_map, hfj]; rfl
    obtain ⟨b, o, da, dc, rfl, _, _, r1, _, hrow, hn0, _, _⟩ := fils_at hf hfi
    have hlen : f.data.length ≤ 1073741824 := Nat.le_trans (used_mem (fnd_some hfn).1) hu
    have hrow' : Row w S da f.data := hrow
    obtain ⟨W1, hW1⟩ : ∃ W1, w.alloc (.cells #[] 5) = W1 := ⟨_, rfl⟩
    have hbW : Below w.heap.size w W1 := by rw [← hW1]; exact (Below.refl _ w).alloc (Nat.le_refl _) _
    obtain ⟨v', w', hrun, hown, hnew, hbel⟩ := copy_row hrow' hn0 hlen (N := w.heap.size) rfl
    rw [hW1] at hrun
    have b1 : w.cell? ⟨B, 1, none⟩ = some (.slice (some ⟨b, o, none⟩) d.L.length lc) := (cell_of_block h.blk 1).trans rfl
    have b2 : W1.cell? ⟨B, 1, none⟩ = some (.slice (some ⟨b, o, none⟩) d.L.length lc) := (cell_of_block (block_below hbW h.blk) 1).trans rfl
    have r1' : w.cell? ⟨b, o + j * 3 + 1, none⟩ = some (.slice da f.data.length dc) := r1
    have r2 : W1.cell? ⟨b, o + j * 3 + 1, none⟩ = some (.slice da f.data.length dc) := (World.cell?_of_block (a := ⟨b, o + j * 3 + 1, none⟩) (hbW.block b (lt_of_cell r1'))).trans r1'
    obtain ⟨a2, c2, hv2, hrow2, h5, h6, h7⟩ := (row_of_own (hi.byte f (fnd_some hfn).1) rfl hown).is
    have hlt2 : ∀ k, v'.ownBlock = some k → w.heap.size ≤ k ∧ k < w'.heap.size := fun k e => ⟨hnew k e, (hown.lt k e).2⟩
    have HOUT : Hid (RRead7 (some f) w (.returned (.tuple #[v', .int .i64 0])) w') := Lib.hid ⟨a2, c2, _, by rw [hv2]; rfl, hrow2, hlt2, hbel, h5, h6, h7⟩
    subst hv2
    have HRUN := Lib.hid hrun
    obtain ⟨n, hn⟩ : ∃ n, d.L.length = n := ⟨_, rfl⟩
    obtain ⟨fl, hfl⟩ : ∃ fl, f.data.length = fl := ⟨_, rfl⟩
    rw [hn] at b1 b2 hmost hjl
    rw [hfl] at r1' r2 HRUN HOUT
    clear h hi hf hfn hfj hfi hrow hrow' hown hnew hbel hrow2 hlt2 hrun hbW hlen r1 hj h5 h6 h7
    go_enter Tryz.func59, Tryz.ntmps59
    go_wp2_with fail
    with_reducible refine HAT.out.mono ?_
    rintro e w1 ⟨rfl, rfl⟩
    go_wp2_with (at_builtin; refine wpList_step (fun K hK => step_append rfl _ _ 27 rfl _ _ _ rfl rfl HRUN.out (hK _ _ ?_)))
    go_ret2
    exact HOUT.out

/-- What the reference's Open leaves. -/
def ROOut (w : World) (S : Nat → Prop) (B : Nat) (n c : Int) (L : List (List Nat)) (d : Dsk) (o : Option Sg) (e : Ending) (w' : World) : Prop :=
  ∃ v a cc SR, e = .returned (.tuple #[v, .slice a L.length cc, .int .i64 c]) ∧ RSSt w w' S B n d v o ∧ Recs w' SR a L ∧ (∀ k, SR k → w.heap.size ≤ k ∧ k < w'.heap.size) ∧ (a = none → cc = 0) ∧ L.length ≤ cc ∧ cc ≤ maxLen

set_option maxRecDepth 100000 in
set_option maxHeartbeats 8000000 in
theorem ropen_calls {w : World} {S : Nat → Prop} {B : Nat} {n : Int} {d : Dsk} {M K : Nat} (h : RefD w S B d) (hfew : Few d M K) (hM : M ≤ 1073741824) (hK : K ≤ 1073740000) (htr : d.tr.length ≤ 1048576) :
    Calls Tryz.prog 33 #[.pointer (some ⟨B, 0, none⟩), .int .i64 n, .bool true] w (ROOut w S B n (openB d n).1 (openB d n).2.2.1 (openB d n).2.2.2 (if (openB d n).1 = 0 then some ⟨(openB d n).2.1, false⟩ else none)) := by
  have HNM := Lib.hid (fun W => rname_calls n W)
  have HRD := Lib.hid (fun W (hb : Below w.heap.size w W) => rread7_calls (nameB n) W (h.below hb) (Nat.le_trans hfew.used hM))
  have HH := Lib.hid h
  have HF0 := Lib.hid hfew
  have HTR0 := Lib.hid htr
  have HMK : Hid (M ≤ 1073741824 ∧ K ≤ 1073740000) := Lib.hid ⟨hM, hK⟩
  cases hf : fnd (nameB n) d.L with
  | none =>
    rw [hf] at HRD
    have he : openB d n = (42, 0, [], d) := by unfold openB; rw [hf]
    rw [he]
    dsimp only
    rw [if_neg (show ¬ ((42 : Int) = 0) by decide)]
    have HT0 : Hid (RTurns w S B d w) := Lib.hid (RTurns.start h)
    clear he hf h hfew htr
    go_enter Tryz.func33, Tryz.ntmps33
    go_wp2_with fail
    with_reducible refine (HNM.out _).mono ?_
    rintro e wa ⟨rfl, hba⟩
    have HBA := Lib.hid hba
    clear hba
    go_wp2_with fail
    with_reducible refine (HRD.out _ HBA.out).mono ?_
    rintro e wb ⟨ab, cb, Sb, rfl, -, -, hbb, -⟩
    have HBB := Lib.hid (below_then HBA.out hbb)
    clear hbb
    dsimp only [dataO, codeO, List.length_nil]
    go_wp2
    go_ret3
    exact ⟨_, none, 0, Non, rfl, RSSt.of_none (HT0.out.quiet HBB.out), ⟨[], RCells.nil _ _, .inl rfl⟩, fun k e => e.elim, fun _ => rfl, Nat.le_refl _, Nat.zero_le _⟩
  | some fl =>
    rw [hf] at HRD
    have he : openB d n = if (beginB d n (scanB n fl.data).2.1 (scanB n fl.data).2.2).1 = 0 then (0, (scanB n fl.data).2.1, (scanB n fl.data).1, (beginB d n (scanB n fl.data).2.1 (scanB n fl.data).2.2).2)
        else ((beginB d n (scanB n fl.data).2.1 (scanB n fl.data).2.2).1, 0, [], (beginB d n (scanB n fl.data).2.1 (scanB n fl.data).2.2).2) := by unfold openB; rw [hf]
    have HLE : Hid (fl.data.length ≤ 1073741824) := Lib.hid (Nat.le_trans (used_mem (fnd_some hf).1) (Nat.le_trans hfew.used hM))
    have hst := scanB_state n fl.data
    obtain ⟨⟨R, g, t⟩, hq⟩ : ∃ q, scanB n fl.data = q := ⟨_, rfl⟩
    have HQ := Lib.hid hq
    rw [hq] at hst he
    dsimp only at hst he
    have hf4 : ∀ d', Few d' M (K + 1) → Few (step d' (opS n)).2 M (K + 2) := fun d' h => h.step (opS n) byts_nil (Nat.le_refl _)
    clear hf hq h htr
    rcases hst with rfl | rfl | rfl
    · -- what stands there ends with a whole record
      have hb : beginB d n g 2 = step d (opS n) := if_pos rfl
      rw [hb] at he
      have hF4 : Few (step d (opS n)).2 M (K + 2) := hf4 d (hfew.mono (Nat.le_refl _) (by omega))
      obtain ⟨⟨c4, d4⟩, hq4⟩ : ∃ q, step d (opS n) = q := ⟨_, rfl⟩
      have HQ4 := Lib.hid hq4
      rw [hq4] at he
      dsimp only at he
      clear hb hF4 hf4 hq4 hfew
      by_cases e4 : c4 = 0
      · subst e4
        rw [if_pos rfl] at he
        rw [he]
        dsimp only
        rw [if_pos rfl]
        clear he
        go_enter Tryz.func33, Tryz.ntmps33
        go_wp2_with fail
        with_reducible refine (HNM.out _).mono ?_
        rintro e wa ⟨rfl, hba⟩
        have HBA := Lib.hid hba
        clear hba
        go_wp2_with fail
        with_reducible refine (HRD.out _ HBA.out).mono ?_
        rintro e wb ⟨ab, cb, Sb, rfl, hrb, -, hbb, hnb, hlb, hmb⟩
        have HBB := Lib.hid (below_then HBA.out hbb)
        have HSC := Lib.hid (rscan_calls n ab fl.data fl.data.length cb wb hrb rfl HLE.out hlb hmb hnb)
        unfold ScanOut at HSC
        rw [HQ.out] at HSC
        dsimp only at HSC
        clear hrb hbb hnb hlb hmb HRD
        dsimp only [dataO, codeO]
        go_wp2_with fail
        with_reducible refine HSC.out.mono ?_
        rintro e w0 ⟨v0, rfl, hown0⟩
        obtain ⟨a0, r0, S0, rfl, hr0, hn0, hl0, hm0, hS0⟩ := hown0.form2
        have HB0 := Lib.hid (below_then HBB.out hown0.bel)
        have HT0 : Hid (RTurns w0 S B d w0) := Lib.hid (RTurns.start (HH.out.below HB0.out))
        have HRC : Hid (Recs w0 S0 a0 R ∧ (∀ k, S0 k → w.heap.size ≤ k ∧ k < w0.heap.size) ∧ (a0 = none → r0 = 0) ∧ R.length ≤ r0 ∧ r0 ≤ maxLen) := Lib.hid ⟨hr0, fun k e => ⟨Nat.le_trans HBB.out.size (hS0 k e).1, (hS0 k e).2⟩, hn0, hl0, hm0⟩
        clear hown0 hr0 hn0 hl0 hm0 hS0 HSC HBA HBB
        obtain ⟨S4, hr4, hco4⟩ := HT0.out.own
        have HR4 := Lib.hid hr4
        have HCO4 := Lib.hid hco4
        clear hr4 hco4
        go_wp2_with fail
        with_reducible refine (HNM.out _).mono ?_
        rintro e wn4 ⟨rfl, hbn4⟩
        have HBN4 := Lib.hid hbn4
        clear hbn4
        have hdo4 : Calls Tryz.prog 46 #[.pointer (some ⟨B, 0, none⟩), .int .i64 4, .string (nameB n), .string ⟨#[]⟩, .int .i64 0, .slice none 0 0] wn4 (RDoes wn4 S4 B (.int .i64 (step d (opS n)).1) (step d (opS n)).2) := rop_calls 4 n 0 (by decide) (HR4.out.below HBN4.out) HF0.out (by have := HMK.out; omega) (by have := HMK.out; omega) HTR0.out
        rw [HQ4.out] at hdo4
        have HDO4 := Lib.hid hdo4
        clear hdo4
        go_wp2_with fail
        with_reducible refine HDO4.out.mono ?_
        rintro e w4 ⟨rfl, ht4⟩
        have HT4 : Hid (RTurns w0 S B d4 w4) := Lib.hid (HCO4.out _ _ (ht4.from_ HBN4.out))
        clear ht4 HDO4 HCO4
        have hst := RSSt.of_some (n := n) (z := g) (HT4.out.from_ HB0.out)
        have hrk : Recs w4 S0 a0 R := by
          obtain ⟨S9, _, _, hk9⟩ := HT4.out
          exact HRC.out.1.keep hk9 (fun k e1 e2 => by have h1 := (HRC.out.2.1 k e1).1; have h2 := HH.out.2.1 k e2; omega)
        have hsz : w0.heap.size ≤ w4.heap.size := by
          obtain ⟨S9, _, _, hk9⟩ := HT4.out
          exact hk9.size
        have HST := Lib.hid hst
        have HRK := Lib.hid hrk
        clear hst hrk
        go_wp2
        go_ret3
        exact ⟨_, a0, r0, S0, rfl, HST.out, HRK.out.below ((Below.refl _ _).alloc (Nat.le_refl _) _), fun k e => ⟨(HRC.out.2.1 k e).1, by have := (HRC.out.2.1 k e).2; rw [World.size_alloc]; omega⟩, HRC.out.2.2⟩

      · rw [if_neg e4] at he
        rw [he]
        dsimp only
        rw [if_neg e4]
        clear he
        have q4 : (c4 == 0) = false := by simpa using e4
        have q4' : (c4 != 0) = true := by simpa using e4
        go_enter Tryz.func33, Tryz.ntmps33
        go_wp2_with fail
        with_reducible refine (HNM.out _).mono ?_
        rintro e wa ⟨rfl, hba⟩
        have HBA := Lib.hid hba
        clear hba
        go_wp2_with fail
        with_reducible refine (HRD.out _ HBA.out).mono ?_
        rintro e wb ⟨ab, cb, Sb, rfl, hrb, -, hbb, hnb, hlb, hmb⟩
        have HBB := Lib.hid (below_then HBA.out hbb)
        have HSC := Lib.hid (rscan_calls n ab fl.data fl.data.length cb wb hrb rfl HLE.out hlb hmb hnb)
        unfold ScanOut at HSC
        rw [HQ.out] at HSC
        dsimp only at HSC
        clear hrb hbb hnb hlb hmb HRD
        dsimp only [dataO, codeO]
        go_wp2_with fail
        with_reducible refine HSC.out.mono ?_
        rintro e w0 ⟨v0, rfl, hown0⟩
        obtain ⟨a0, r0, S0, rfl, hr0, hn0, hl0, hm0, hS0⟩ := hown0.form2
        have HB0 := Lib.hid (below_then HBB.out hown0.bel)
        have HT0 : Hid (RTurns w0 S B d w0) := Lib.hid (RTurns.start (HH.out.below HB0.out))
        have HRC : Hid (Recs w0 S0 a0 R ∧ (∀ k, S0 k → w.heap.size ≤ k ∧ k < w0.heap.size) ∧ (a0 = none → r0 = 0) ∧ R.length ≤ r0 ∧ r0 ≤ maxLen) := Lib.hid ⟨hr0, fun k e => ⟨Nat.le_trans HBB.out.size (hS0 k e).1, (hS0 k e).2⟩, hn0, hl0, hm0⟩
        clear hown0 hr0 hn0 hl0 hm0 hS0 HSC HBA HBB
        obtain ⟨S4, hr4, hco4⟩ := HT0.out.own
        have HR4 := Lib.hid hr4
        have HCO4 := Lib.hid hco4
        clear hr4 hco4
        go_wp2_with fail
        with_reducible refine (HNM.out _).mono ?_
        rintro e wn4 ⟨rfl, hbn4⟩
        have HBN4 := Lib.hid hbn4
        clear hbn4
        have hdo4 : Calls Tryz.prog 46 #[.pointer (some ⟨B, 0, none⟩), .int .i64 4, .string (nameB n), .string ⟨#[]⟩, .int .i64 0, .slice none 0 0] wn4 (RDoes wn4 S4 B (.int .i64 (step d (opS n)).1) (step d (opS n)).2) := rop_calls 4 n 0 (by decide) (HR4.out.below HBN4.out) HF0.out (by have := HMK.out; omega) (by have := HMK.out; omega) HTR0.out
        rw [HQ4.out] at hdo4
        have HDO4 := Lib.hid hdo4
        clear hdo4
        go_wp2_with fail
        with_reducible refine HDO4.out.mono ?_
        rintro e w4 ⟨rfl, ht4⟩
        have HT4 : Hid (RTurns w0 S B d4 w4) := Lib.hid (HCO4.out _ _ (ht4.from_ HBN4.out))
        clear ht4 HDO4 HCO4
        go_wp2
        go_ret3
        exact ⟨_, none, 0, Non, rfl, RSSt.of_none (HT4.out.from_ HB0.out), ⟨[], RCells.nil _ _, .inl rfl⟩, fun k e => e.elim, fun _ => rfl, Nat.le_refl _, Nat.zero_le _⟩

    · by_cases hg : g = 0
      · -- no head
        subst hg
        have hb : beginB d n 0 3 = (50, d) := by unfold beginB; rw [if_neg (by decide), if_neg (by decide)]
        rw [hb] at he
        dsimp only at he
        rw [if_neg (show ¬ ((50 : Int) = 0) by decide)] at he
        rw [he]
        dsimp only
        rw [if_neg (show ¬ ((50 : Int) = 0) by decide)]
        clear he hb hf4 hfew
        go_enter Tryz.func33, Tryz.ntmps33
        go_wp2_with fail
        with_reducible refine (HNM.out _).mono ?_
        rintro e wa ⟨rfl, hba⟩
        have HBA := Lib.hid hba
        clear hba
        go_wp2_with fail
        with_reducible refine (HRD.out _ HBA.out).mono ?_
        rintro e wb ⟨ab, cb, Sb, rfl, hrb, -, hbb, hnb, hlb, hmb⟩
        have HBB := Lib.hid (below_then HBA.out hbb)
        have HSC := Lib.hid (rscan_calls n ab fl.data fl.data.length cb wb hrb rfl HLE.out hlb hmb hnb)
        unfold ScanOut at HSC
        rw [HQ.out] at HSC
        dsimp only at HSC
        clear hrb hbb hnb hlb hmb HRD
        dsimp only [dataO, codeO]
        go_wp2_with fail
        with_reducible refine HSC.out.mono ?_
        rintro e w0 ⟨v0, rfl, hown0⟩
        obtain ⟨a0, r0, S0, rfl, hr0, hn0, hl0, hm0, hS0⟩ := hown0.form2
        have HB0 := Lib.hid (below_then HBB.out hown0.bel)
        have HT0 : Hid (RTurns w0 S B d w0) := Lib.hid (RTurns.start (HH.out.below HB0.out))
        have HRC : Hid (Recs w0 S0 a0 R ∧ (∀ k, S0 k → w.heap.size ≤ k ∧ k < w0.heap.size) ∧ (a0 = none → r0 = 0) ∧ R.length ≤ r0 ∧ r0 ≤ maxLen) := Lib.hid ⟨hr0, fun k e => ⟨Nat.le_trans HBB.out.size (hS0 k e).1, (hS0 k e).2⟩, hn0, hl0, hm0⟩
        clear hown0 hr0 hn0 hl0 hm0 hS0 HSC HBA HBB
        go_wp2
        go_ret3
        exact ⟨_, none, 0, Non, rfl, RSSt.of_none (HT0.out.from_ HB0.out), ⟨[], RCells.nil _ _, .inl rfl⟩, fun k e => e.elim, fun _ => rfl, Nat.le_refl _, Nat.zero_le _⟩

      · have hb : beginB d n g 3 = if (step d (opK n g)).1 = 0 then step (step d (opK n g)).2 (opS n) else step d (opK n g) := by unfold beginB; rw [if_neg (by decide), if_pos ⟨rfl, by omega⟩]
        rw [hb] at he
        have hF3 : Few (step d (opK n g)).2 M (K + 1) := hfew.step (opK n g) byts_nil (Nat.le_refl _)
        have ht3 : (step d (opK n g)).2.tr.length ≤ 1048576 := by rw [tr_step]; exact HTR0.out
        obtain ⟨⟨c3, d3⟩, hq3⟩ : ∃ q, step d (opK n g) = q := ⟨_, rfl⟩
        have HQ3 := Lib.hid hq3
        rw [hq3] at he hF3 ht3
        dsimp only at he hF3 ht3
        have HF3 := Lib.hid hF3
        have HTR3 := Lib.hid ht3
        have hg0 : ((g : Int) == 0) = false := by simpa using (show ¬ ((g : Int) = 0) by omega)
        clear hb hq3 hF3 ht3 hf4 hfew
        by_cases e3 : c3 = 0
        case neg =>
          rw [if_neg e3] at he
          dsimp only at he
          rw [if_neg e3] at he
          rw [he]
          dsimp only
          rw [if_neg e3]
          clear he
          have q3 : (c3 == 0) = false := by simpa using e3
          have q3' : (c3 != 0) = true := by simpa using e3
          go_enter Tryz.func33, Tryz.ntmps33
          go_wp2_with fail
          with_reducible refine (HNM.out _).mono ?_
          rintro e wa ⟨rfl, hba⟩
          have HBA := Lib.hid hba
          clear hba
          go_wp2_with fail
          with_reducible refine (HRD.out _ HBA.out).mono ?_
          rintro e wb ⟨ab, cb, Sb, rfl, hrb, -, hbb, hnb, hlb, hmb⟩
          have HBB := Lib.hid (below_then HBA.out hbb)
          have HSC := Lib.hid (rscan_calls n ab fl.data fl.data.length cb wb hrb rfl HLE.out hlb hmb hnb)
          unfold ScanOut at HSC
          rw [HQ.out] at HSC
          dsimp only at HSC
          clear hrb hbb hnb hlb hmb HRD
          dsimp only [dataO, codeO]
          go_wp2_with fail
          with_reducible refine HSC.out.mono ?_
          rintro e w0 ⟨v0, rfl, hown0⟩
          obtain ⟨a0, r0, S0, rfl, hr0, hn0, hl0, hm0, hS0⟩ := hown0.form2
          have HB0 := Lib.hid (below_then HBB.out hown0.bel)
          have HT0 : Hid (RTurns w0 S B d w0) := Lib.hid (RTurns.start (HH.out.below HB0.out))
          have HRC : Hid (Recs w0 S0 a0 R ∧ (∀ k, S0 k → w.heap.size ≤ k ∧ k < w0.heap.size) ∧ (a0 = none → r0 = 0) ∧ R.length ≤ r0 ∧ r0 ≤ maxLen) := Lib.hid ⟨hr0, fun k e => ⟨Nat.le_trans HBB.out.size (hS0 k e).1, (hS0 k e).2⟩, hn0, hl0, hm0⟩
          clear hown0 hr0 hn0 hl0 hm0 hS0 HSC HBA HBB
          obtain ⟨S3, hr3, hco3⟩ := HT0.out.own
          have HR3 := Lib.hid hr3
          have HCO3 := Lib.hid hco3
          clear hr3 hco3
          go_wp2_with fail
          with_reducible refine (HNM.out _).mono ?_
          rintro e wn3 ⟨rfl, hbn3⟩
          have HBN3 := Lib.hid hbn3
          clear hbn3
          have hdo3 : Calls Tryz.prog 46 #[.pointer (some ⟨B, 0, none⟩), .int .i64 3, .string (nameB n), .string ⟨#[]⟩, .int .i64 (g : Int), .slice none 0 0] wn3 (RDoes wn3 S3 B (.int .i64 (step d (opK n g)).1) (step d (opK n g)).2) := rop_calls 3 n (g : Int) (by decide) (HR3.out.below HBN3.out) HF0.out (by have := HMK.out; omega) (by have := HMK.out; omega) HTR0.out
          rw [HQ3.out] at hdo3
          have HDO3 := Lib.hid hdo3
          clear hdo3
          go_wp2_with fail
          with_reducible refine HDO3.out.mono ?_
          rintro e w3 ⟨rfl, ht3⟩
          have HT3 : Hid (RTurns w0 S B d3 w3) := Lib.hid (HCO3.out _ _ (ht3.from_ HBN3.out))
          clear ht3 HDO3 HCO3
          go_wp2
          go_ret3
          exact ⟨_, none, 0, Non, rfl, RSSt.of_none (HT3.out.from_ HB0.out), ⟨[], RCells.nil _ _, .inl rfl⟩, fun k e => e.elim, fun _ => rfl, Nat.le_refl _, Nat.zero_le _⟩

        subst e3
        rw [if_pos rfl] at he
        obtain ⟨⟨c4, d4⟩, hq4⟩ : ∃ q, step d3 (opS n) = q := ⟨_, rfl⟩
        have HQ4 := Lib.hid hq4
        rw [hq4] at he
        dsimp only at he
        clear hq4
        by_cases e4 : c4 = 0
        · subst e4
          rw [if_pos rfl] at he
          rw [he]
          dsimp only
          rw [if_pos rfl]
          clear he
          go_enter Tryz.func33, Tryz.ntmps33
          go_wp2_with fail
          with_reducible refine (HNM.out _).mono ?_
          rintro e wa ⟨rfl, hba⟩
          have HBA := Lib.hid hba
          clear hba
          go_wp2_with fail
          with_reducible refine (HRD.out _ HBA.out).mono ?_
          rintro e wb ⟨ab, cb, Sb, rfl, hrb, -, hbb, hnb, hlb, hmb⟩
          have HBB := Lib.hid (below_then HBA.out hbb)
          have HSC := Lib.hid (rscan_calls n ab fl.data fl.data.length cb wb hrb rfl HLE.out hlb hmb hnb)
          unfold ScanOut at HSC
          rw [HQ.out] at HSC
          dsimp only at HSC
          clear hrb hbb hnb hlb hmb HRD
          dsimp only [dataO, codeO]
          go_wp2_with fail
          with_reducible refine HSC.out.mono ?_
          rintro e w0 ⟨v0, rfl, hown0⟩
          obtain ⟨a0, r0, S0, rfl, hr0, hn0, hl0, hm0, hS0⟩ := hown0.form2
          have HB0 := Lib.hid (below_then HBB.out hown0.bel)
          have HT0 : Hid (RTurns w0 S B d w0) := Lib.hid (RTurns.start (HH.out.below HB0.out))
          have HRC : Hid (Recs w0 S0 a0 R ∧ (∀ k, S0 k → w.heap.size ≤ k ∧ k < w0.heap.size) ∧ (a0 = none → r0 = 0) ∧ R.length ≤ r0 ∧ r0 ≤ maxLen) := Lib.hid ⟨hr0, fun k e => ⟨Nat.le_trans HBB.out.size (hS0 k e).1, (hS0 k e).2⟩, hn0, hl0, hm0⟩
          clear hown0 hr0 hn0 hl0 hm0 hS0 HSC HBA HBB
          obtain ⟨S3, hr3, hco3⟩ := HT0.out.own
          have HR3 := Lib.hid hr3
          have HCO3 := Lib.hid hco3
          clear hr3 hco3
          go_wp2_with fail
          with_reducible refine (HNM.out _).mono ?_
          rintro e wn3 ⟨rfl, hbn3⟩
          have HBN3 := Lib.hid hbn3
          clear hbn3
          have hdo3 : Calls Tryz.prog 46 #[.pointer (some ⟨B, 0, none⟩), .int .i64 3, .string (nameB n), .string ⟨#[]⟩, .int .i64 (g : Int), .slice none 0 0] wn3 (RDoes wn3 S3 B (.int .i64 (step d (opK n g)).1) (step d (opK n g)).2) := rop_calls 3 n (g : Int) (by decide) (HR3.out.below HBN3.out) HF0.out (by have := HMK.out; omega) (by have := HMK.out; omega) HTR0.out
          rw [HQ3.out] at hdo3
          have HDO3 := Lib.hid hdo3
          clear hdo3
          go_wp2_with fail
          with_reducible refine HDO3.out.mono ?_
          rintro e w3 ⟨rfl, ht3⟩
          have HT3 : Hid (RTurns w0 S B d3 w3) := Lib.hid (HCO3.out _ _ (ht3.from_ HBN3.out))
          clear ht3 HDO3 HCO3
          obtain ⟨S4, hr4, hco4⟩ := HT3.out.own
          have HR4 := Lib.hid hr4
          have HCO4 := Lib.hid hco4
          clear hr4 hco4
          go_wp2_with fail
          with_reducible refine (HNM.out _).mono ?_
          rintro e wn4 ⟨rfl, hbn4⟩
          have HBN4 := Lib.hid hbn4
          clear hbn4
          have hdo4 : Calls Tryz.prog 46 #[.pointer (some ⟨B, 0, none⟩), .int .i64 4, .string (nameB n), .string ⟨#[]⟩, .int .i64 0, .slice none 0 0] wn4 (RDoes wn4 S4 B (.int .i64 (step d3 (opS n)).1) (step d3 (opS n)).2) := rop_calls 4 n 0 (by decide) (HR4.out.below HBN4.out) HF3.out (by have := HMK.out; omega) (by have := HMK.out; omega) HTR3.out
          rw [HQ4.out] at hdo4
          have HDO4 := Lib.hid hdo4
          clear hdo4
          go_wp2_with fail
          with_reducible refine HDO4.out.mono ?_
          rintro e w4 ⟨rfl, ht4⟩
          have HT4 : Hid (RTurns w0 S B d4 w4) := Lib.hid (HCO4.out _ _ (ht4.from_ HBN4.out))
          clear ht4 HDO4 HCO4
          have hst := RSSt.of_some (n := n) (z := g) (HT4.out.from_ HB0.out)
          have hrk : Recs w4 S0 a0 R := by
            obtain ⟨S9, _, _, hk9⟩ := HT4.out
            exact HRC.out.1.keep hk9 (fun k e1 e2 => by have h1 := (HRC.out.2.1 k e1).1; have h2 := HH.out.2.1 k e2; omega)
          have hsz : w0.heap.size ≤ w4.heap.size := by
            obtain ⟨S9, _, _, hk9⟩ := HT4.out
            exact hk9.size
          have HST := Lib.hid hst
          have HRK := Lib.hid hrk
          clear hst hrk
          go_wp2
          go_ret3
          exact ⟨_, a0, r0, S0, rfl, HST.out, HRK.out.below ((Below.refl _ _).alloc (Nat.le_refl _) _), fun k e => ⟨(HRC.out.2.1 k e).1, by have := (HRC.out.2.1 k e).2; rw [World.size_alloc]; omega⟩, HRC.out.2.2⟩

        · rw [if_neg e4] at he
          rw [he]
          dsimp only
          rw [if_neg e4]
          clear he
          have q4 : (c4 == 0) = false := by simpa using e4
          have q4' : (c4 != 0) = true := by simpa using e4
          go_enter Tryz.func33, Tryz.ntmps33
          go_wp2_with fail
          with_reducible refine (HNM.out _).mono ?_
          rintro e wa ⟨rfl, hba⟩
          have HBA := Lib.hid hba
          clear hba
          go_wp2_with fail
          with_reducible refine (HRD.out _ HBA.out).mono ?_
          rintro e wb ⟨ab, cb, Sb, rfl, hrb, -, hbb, hnb, hlb, hmb⟩
          have HBB := Lib.hid (below_then HBA.out hbb)
          have HSC := Lib.hid (rscan_calls n ab fl.data fl.data.length cb wb hrb rfl HLE.out hlb hmb hnb)
          unfold ScanOut at HSC
          rw [HQ.out] at HSC
          dsimp only at HSC
          clear hrb hbb hnb hlb hmb HRD
          dsimp only [dataO, codeO]
          go_wp2_with fail
          with_reducible refine HSC.out.mono ?_
          rintro e w0 ⟨v0, rfl, hown0⟩
          obtain ⟨a0, r0, S0, rfl, hr0, hn0, hl0, hm0, hS0⟩ := hown0.form2
          have HB0 := Lib.hid (below_then HBB.out hown0.bel)
          have HT0 : Hid (RTurns w0 S B d w0) := Lib.hid (RTurns.start (HH.out.below HB0.out))
          have HRC : Hid (Recs w0 S0 a0 R ∧ (∀ k, S0 k → w.heap.size ≤ k ∧ k < w0.heap.size) ∧ (a0 = none → r0 = 0) ∧ R.length ≤ r0 ∧ r0 ≤ maxLen) := Lib.hid ⟨hr0, fun k e => ⟨Nat.le_trans HBB.out.size (hS0 k e).1, (hS0 k e).2⟩, hn0, hl0, hm0⟩
          clear hown0 hr0 hn0 hl0 hm0 hS0 HSC HBA HBB
          obtain ⟨S3, hr3, hco3⟩ := HT0.out.own
          have HR3 := Lib.hid hr3
          have HCO3 := Lib.hid hco3
          clear hr3 hco3
          go_wp2_with fail
          with_reducible refine (HNM.out _).mono ?_
          rintro e wn3 ⟨rfl, hbn3⟩
          have HBN3 := Lib.hid hbn3
          clear hbn3
          have hdo3 : Calls Tryz.prog 46 #[.pointer (some ⟨B, 0, none⟩), .int .i64 3, .string (nameB n), .string ⟨#[]⟩, .int .i64 (g : Int), .slice none 0 0] wn3 (RDoes wn3 S3 B (.int .i64 (step d (opK n g)).1) (step d (opK n g)).2) := rop_calls 3 n (g : Int) (by decide) (HR3.out.below HBN3.out) HF0.out (by have := HMK.out; omega) (by have := HMK.out; omega) HTR0.out
          rw [HQ3.out] at hdo3
          have HDO3 := Lib.hid hdo3
          clear hdo3
          go_wp2_with fail
          with_reducible refine HDO3.out.mono ?_
          rintro e w3 ⟨rfl, ht3⟩
          have HT3 : Hid (RTurns w0 S B d3 w3) := Lib.hid (HCO3.out _ _ (ht3.from_ HBN3.out))
          clear ht3 HDO3 HCO3
          obtain ⟨S4, hr4, hco4⟩ := HT3.out.own
          have HR4 := Lib.hid hr4
          have HCO4 := Lib.hid hco4
          clear hr4 hco4
          go_wp2_with fail
          with_reducible refine (HNM.out _).mono ?_
          rintro e wn4 ⟨rfl, hbn4⟩
          have HBN4 := Lib.hid hbn4
          clear hbn4
          have hdo4 : Calls Tryz.prog 46 #[.pointer (some ⟨B, 0, none⟩), .int .i64 4, .string (nameB n), .string ⟨#[]⟩, .int .i64 0, .slice none 0 0] wn4 (RDoes wn4 S4 B (.int .i64 (step d3 (opS n)).1) (step d3 (opS n)).2) := rop_calls 4 n 0 (by decide) (HR4.out.below HBN4.out) HF3.out (by have := HMK.out; omega) (by have := HMK.out; omega) HTR3.out
          rw [HQ4.out] at hdo4
          have HDO4 := Lib.hid hdo4
          clear hdo4
          go_wp2_with fail
          with_reducible refine HDO4.out.mono ?_
          rintro e w4 ⟨rfl, ht4⟩
          have HT4 : Hid (RTurns w0 S B d4 w4) := Lib.hid (HCO4.out _ _ (ht4.from_ HBN4.out))
          clear ht4 HDO4 HCO4
          go_wp2
          go_ret3
          exact ⟨_, none, 0, Non, rfl, RSSt.of_none (HT4.out.from_ HB0.out), ⟨[], RCells.nil _ _, .inl rfl⟩, fun k e => e.elim, fun _ => rfl, Nat.le_refl _, Nat.zero_le _⟩

    · -- it is broken
      have hb : beginB d n g 4 = (50, d) := by unfold beginB; rw [if_neg (by decide), if_neg (by omega)]
      rw [hb] at he
      dsimp only at he
      rw [if_neg (show ¬ ((50 : Int) = 0) by decide)] at he
      rw [he]
      dsimp only
      rw [if_neg (show ¬ ((50 : Int) = 0) by decide)]
      clear he hb hf4 hfew
      go_enter Tryz.func33, Tryz.ntmps33
      go_wp2_with fail
      with_reducible refine (HNM.out _).mono ?_
      rintro e wa ⟨rfl, hba⟩
      have HBA := Lib.hid hba
      clear hba
      go_wp2_with fail
      with_reducible refine (HRD.out _ HBA.out).mono ?_
      rintro e wb ⟨ab, cb, Sb, rfl, hrb, -, hbb, hnb, hlb, hmb⟩
      have HBB := Lib.hid (below_then HBA.out hbb)
      have HSC := Lib.hid (rscan_calls n ab fl.data fl.data.length cb wb hrb rfl HLE.out hlb hmb hnb)
      unfold ScanOut at HSC
      rw [HQ.out] at HSC
      dsimp only at HSC
      clear hrb hbb hnb hlb hmb HRD
      dsimp only [dataO, codeO]
      go_wp2_with fail
      with_reducible refine HSC.out.mono ?_
      rintro e w0 ⟨v0, rfl, hown0⟩
      obtain ⟨a0, r0, S0, rfl, hr0, hn0, hl0, hm0, hS0⟩ := hown0.form2
      have HB0 := Lib.hid (below_then HBB.out hown0.bel)
      have HT0 : Hid (RTurns w0 S B d w0) := Lib.hid (RTurns.start (HH.out.below HB0.out))
      have HRC : Hid (Recs w0 S0 a0 R ∧ (∀ k, S0 k → w.heap.size ≤ k ∧ k < w0.heap.size) ∧ (a0 = none → r0 = 0) ∧ R.length ≤ r0 ∧ r0 ≤ maxLen) := Lib.hid ⟨hr0, fun k e => ⟨Nat.le_trans HBB.out.size (hS0 k e).1, (hS0 k e).2⟩, hn0, hl0, hm0⟩
      clear hown0 hr0 hn0 hl0 hm0 hS0 HSC HBA HBB
      go_wp2
      go_ret3
      exact ⟨_, none, 0, Non, rfl, RSSt.of_none (HT0.out.from_ HB0.out), ⟨[], RCells.nil _ _, .inl rfl⟩, fun k e => e.elim, fun _ => rfl, Nat.le_refl _, Nat.zero_le _⟩

end Go.Proofs.YtjhiekijbcjohaaGreatDoor
