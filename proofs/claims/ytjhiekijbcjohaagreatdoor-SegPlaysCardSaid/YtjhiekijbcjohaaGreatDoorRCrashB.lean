/-
  What the walk of the reference's Crash needs: a file is cut and is safe. Conditions: the disk lies in memory; few bytes.
  The reference's Crash. Conditions: the disk lies in memory; the numbers lie in memory that isn't the disk's; few bytes.
-/
import Derived.Test.YtjhiekijbcjohaaGreatDoorRPuts
namespace Go.Proofs.YtjhiekijbcjohaaGreatDoor
open Go.RowKit Go.Lib Go.Joins

/-- The stores of Crash in one file. -/
structure Recut (w3 : World) (S : Nat → Prop) (B : Nat) (d : Dsk) (j : Nat) (f : Fil) (nn : Nat) (g lc : Nat) (da : Option Addr) (dc : Nat) (a1 : Option Addr) (e1 : Nat) (W1 : World) : Prop where
  b1 : ∀ W, Below w3.heap.size w3 W → W.cell? ⟨B, 1, none⟩ = some (.slice (some ⟨g, 0, none⟩) d.L.length lc) ∧ W.cell? ⟨g, j * 3 + 1, none⟩ = some (.slice da f.data.length dc) ∧ W.cell? ⟨g, j * 3 + 2, none⟩ = some (.int .i64 (f.safe : Int))
  run : ∀ ty, (Builtin.append_ #[27, 27] ty #[.slice (some ⟨w3.heap.size, 0, none⟩) 0 0, .slice da nn dc]).run Tryz.prog (w3.drew.alloc (.cells #[] 5)) = .ok (.slice a1 nn e1) W1
  bel : Below w3.heap.size w3 W1
  fr1 : W1.frozen? ⟨g, j * 3 + 1, none⟩ = false
  q1 : (W1.setCell ⟨g, j * 3 + 1, none⟩ (.slice a1 nn e1)).cell? ⟨B, 1, none⟩ = some (.slice (some ⟨g, 0, none⟩) d.L.length lc)
  q2 : (W1.setCell ⟨g, j * 3 + 1, none⟩ (.slice a1 nn e1)).cell? ⟨g, j * 3 + 1, none⟩ = some (.slice a1 nn e1)
  q3 : (W1.setCell ⟨g, j * 3 + 1, none⟩ (.slice a1 nn e1)).cell? ⟨g, j * 3 + 2, none⟩ = some (.int .i64 (f.safe : Int))
  fr2 : (W1.setCell ⟨g, j * 3 + 1, none⟩ (.slice a1 nn e1)).frozen? ⟨g, j * 3 + 2, none⟩ = false
  mv : RMoves w3 S B { d with L := d.L.set j ⟨f.name, f.data.take nn, nn⟩ } ((W1.setCell ⟨g, j * 3 + 1, none⟩ (.slice a1 nn e1)).drew.setCell ⟨g, j * 3 + 2, none⟩ (.int .i64 (nn : Int)))
  fit : f.data.length ≤ dc
  lcl : d.L.length ≤ lc

theorem RHas.recut {w3 : World} {S : Nat → Prop} {B : Nat} {d : Dsk} (h : RHas w3 S B d) {j : Nat} {f : Fil} (hj : d.L[j]? = some f) {nn : Nat} (hn : nn ≤ f.data.length) (hl : f.data.length ≤ 1073741824) (hby : ∀ c ∈ f.data, c < 256) :
    ∃ g lc da dc a1 e1 W1, Recut w3 S B d j f nn g lc da dc a1 e1 W1 := by
  obtain ⟨g, lc, ta3, tn3, tc3, Sd3, St3, da, dc, h3, hfa⟩ := h.file hj
  have hS := h.1
  have hjl : j < d.L.length := (List.getElem?_eq_some_iff.1 hj).1
  obtain ⟨v1', W1', r1', ho1, hn1, hbl1⟩ := copy_row (W := w3.drew) (hfa.row.take nn) hfa.nul (by rw [List.length_take]; omega) (N := w3.heap.size) rfl
  have hlt : (f.data.take nn).length = nn := by rw [List.length_take]; omega
  rw [hlt] at r1' ho1
  obtain ⟨a1, e1, rfl⟩ := dv_form2 ho1
  have hblw : Below w3.heap.size w3 W1' := ⟨hbl1.os, hbl1.tape, hbl1.output, hbl1.size, hbl1.block⟩
  have hmv := h3.data (w2 := W1') hS hblw hj (l := f.data.take nn) (fun c hc => hby c (List.mem_of_mem_take hc)) hlt ho1 hn1
  have hkg : Keeps (One g) w3 (W1'.setCell ⟨g, j * 3 + 1, none⟩ (.slice a1 nn e1)) := (keeps_below hblw (One g)).setCell (p := ⟨g, j * 3 + 1, none⟩) (.inl rfl) _
  have q1 : (W1'.setCell ⟨g, j * 3 + 1, none⟩ (.slice a1 nn e1)).cell? ⟨B, 1, none⟩ = some (.slice (some ⟨g, 0, none⟩) d.L.length lc) := (World.cell?_of_block (a := ⟨B, 1, none⟩) (hkg.block B hfa.bl (fun e => hfa.ne e))).trans hfa.b1
  have q3 : (W1'.setCell ⟨g, j * 3 + 1, none⟩ (.slice a1 nn e1)).cell? ⟨g, j * 3 + 2, none⟩ = some (.int .i64 (f.safe : Int)) := (World.cell?_setCell_other W1' ⟨g, j * 3 + 1, none⟩ ⟨g, j * 3 + 2, none⟩ _ (by intro e; have := congrArg Addr.off e; simp at this)).trans (hfa.below hblw).r2
  obtain ⟨S5, ⟨hS5, lv5, ta5, tn5, tc5, Sd5, St5, h5⟩, hf5, hk5⟩ := hmv
  have hle : d.L.length = (d.L.set j { f with data := f.data.take nn }).length := (List.length_set ..).symm
  have hlv : lv5 = .slice (some ⟨g, 0, none⟩) (d.L.set j { f with data := f.data.take nn }).length lc := by
    have e := ((cell_of_block h5.blk 1).trans (rfl : _ = some lv5)).symm.trans q1
    rw [← hle]
    exact Option.some.inj e
  subst hlv
  obtain ⟨cells5, ho5, hfc5⟩ := h5.row
  have hi5 : (d.L.set j { f with data := f.data.take nn })[j]? = some { f with data := f.data.take nn } := List.getElem?_set_self hjl
  have q2 : (W1'.setCell ⟨g, j * 3 + 1, none⟩ (.slice a1 nn e1)).cell? ⟨g, j * 3 + 1, none⟩ = some (.slice a1 nn e1) := by
    obtain ⟨cells, ho, _⟩ := h3.row
    have ho2 := ((ownsRow_keep ho (keeps_below hblw Non) (fun _ _ h => h)).stored (g := g) (j * 3 + 1) (.slice a1 nn e1)).1
    have hcl := ho.1
    exact (ho2.cellAt (j * 3 + 1) (by omega)).trans (List.getElem?_set_self (by omega))
  have hsafe := h5.safe (w2 := (W1'.setCell ⟨g, j * 3 + 1, none⟩ (.slice a1 nn e1)).drew) hS5 ⟨rfl, rfl, rfl, Nat.le_refl _, fun _ _ => rfl⟩ hi5 nn
  refine ⟨g, lc, da, dc, a1, e1, W1', fun W hb => ⟨(hfa.below hb).b1, (hfa.below hb).r1, (hfa.below hb).r2⟩, r1', hblw, (hfa.below hblw).free _, q1, q2, q3, ho5.frozenAt _, RMoves.trans hf5 hk5 ?_, hfa.fit, hfa.lc⟩
  have e : (d.L.set j { f with data := f.data.take nn }).set j { f with data := f.data.take nn, safe := nn } = d.L.set j ⟨f.name, f.data.take nn, nn⟩ := List.set_set ..
  rw [← e]
  exact hsafe

/-- Its troubles are gone. -/
theorem RHas.cleared {w : World} {S : Nat → Prop} {B : Nat} {d : Dsk} (h : RHas w S B d) :
    RHas ((w.setCell ⟨B, 4, none⟩ (.bool false)).setCell ⟨B, 2, none⟩ (.slice none 0 0)) S B { d with tr := [], down := false } ∧ Keeps (One B) w ((w.setCell ⟨B, 4, none⟩ (.bool false)).setCell ⟨B, 2, none⟩ (.slice none 0 0)) ∧ S B := by
  obtain ⟨hS, lv, ta, tn, tc, Sd, St, h⟩ := h
  have hk : Keeps (One B) w ((w.setCell ⟨B, 4, none⟩ (.bool false)).setCell ⟨B, 2, none⟩ (.slice none 0 0)) := ((Keeps.refl (One B) w).setCell (p := ⟨B, 4, none⟩) (.inl rfl) _).setCell (p := ⟨B, 2, none⟩) (.inl rfl) _
  obtain ⟨cells, ho, hfc⟩ := h.row
  refine ⟨⟨fun k e => Nat.lt_of_lt_of_le (hS k e) hk.size, lv, none, 0, 0, Sd, Non, ?_⟩, hk, h.sB⟩
  exact {
    blk := block_setCell (i := 2) (block_setCell (i := 4) h.blk (.bool false)) (.slice none 0 0)
    row := ⟨cells, ownsRow_keep ho hk (fun k e hkB => h.own k e hkB), hfc.keep hk (fun k e hkB => (h.sD k e).2.1 hkB)⟩
    tro := .inl rfl
    trn := rfl
    sB := h.sB
    sR := h.sR
    sD := h.sD
    sT := fun k e => e.elim }

end Go.Proofs.YtjhiekijbcjohaaGreatDoor
namespace Go.Proofs.YtjhiekijbcjohaaGreatDoor
open Go.RowKit Go.Lib Go.Joins

def RCrashOut (w : World) (S : Nat → Prop) (B : Nat) (d' : Dsk) (e : Ending) (w' : World) : Prop := e = .returned (.tuple #[]) ∧ RTurns w S B d' w'

set_option maxRecDepth 100000 in
set_option maxHeartbeats 16000000 in
theorem rcrash_calls (a0 : Option Addr) (ts : List Int) (cap0 m : Nat) (w : World) {S S0 : Nat → Prop} {B : Nat} {d : Dsk} (hd : RefD w S B d) (hu : used d.L ≤ 1073741824) (hr : RowI w S0 a0 ts) (hm : ts.length = m) (hS0 : ∀ k, S0 k → ¬ S k) (_hlc : m ≤ cap0) (hcm : m ≤ 1073741824) :
    Calls Tryz.prog 31 #[.pointer (some ⟨B, 0, none⟩), .slice a0 m cap0] w (RCrashOut w S B (crash ts d)) := by
  obtain ⟨hi, hhas⟩ := hd
  obtain ⟨h1, hk1, hSB⟩ := hhas.cleared
  have hkS : Keeps S w ((w.setCell ⟨B, 4, none⟩ (.bool false)).setCell ⟨B, 2, none⟩ (.slice none 0 0)) := hk1.mono (fun k _ e => by rw [show k = B from e]; exact hSB)
  have hmost := hi.most
  obtain ⟨hSlt, lv, ta, tn, tc, Sd, St, h⟩ := hhas
  have c4 : w.cell? ⟨B, 4, none⟩ = some (.bool d.down) := (cell_of_block h.blk 4).trans rfl
  have k4 := unfrozen_of_block h.blk 4
  have c2 : (w.setCell ⟨B, 4, none⟩ (.bool false)).cell? ⟨B, 2, none⟩ = some (.slice ta tn tc) := (cell_of_block (block_setCell (i := 4) h.blk (.bool false)) 2).trans rfl
  have k2 := unfrozen_of_block (block_setCell (i := 4) h.blk (.bool false)) 2
  obtain ⟨w1, hw1⟩ : ∃ w1, (w.setCell ⟨B, 4, none⟩ (.bool false)).setCell ⟨B, 2, none⟩ (.slice none 0 0) = w1 := ⟨_, rfl⟩
  rw [hw1] at h1 hk1 hkS
  obtain ⟨N, hN⟩ : ∃ N, d.L.length = N := ⟨_, rfl⟩
  rw [hN] at hmost
  have HN := Lib.hid hN
  have HI := Lib.hid hi
  have HU := Lib.hid hu
  have HR := Lib.hid hr
  have HM := Lib.hid hm
  have HS0 := Lib.hid hS0
  have HKS := Lib.hid hkS
  have HH1 := Lib.hid h1
  have HSLT := Lib.hid hSlt
  clear h hi h1 hk1 hkS hN hu hr hm hS0 hSlt hSB
  go_enter Tryz.func31, Tryz.ntmps31
  go_wp2
  try simp only [hw1]
  go_loopg [4, 5] N (fun g idx _ wr => ∃ (i : Nat) (Si : Nat → Prop), idx = .int .i64 (i : Int) ∧ g + i = N ∧ RHas wr Si B { d with tr := [], down := false, L := hlf ts 0 i d.L } ∧ Fresh S w.heap.size Si ∧ Keeps S w wr)
  case atStart => exact ⟨0, S, rfl, rfl, by rw [show hlf ts 0 0 d.L = d.L by unfold hlf; rfl]; exact HH1.out, fresh_refl _ _, HKS.out⟩
  case round =>
    obtain ⟨i, Si, rfl, hg, hD, hF, hK⟩ := hrel
    have HG := Lib.hid hg
    have HHASA := Lib.hid hD
    have HF := Lib.hid hF
    have HK := Lib.hid hK
    clear hg hD hF hK HH1 HKS
    have hlenh : (hlf ts 0 i d.L).length = N := by
      have := congrArg List.length (hlf_names ts d.L 0 i)
      rw [List.length_map, List.length_map] at this
      rw [this]; exact HN.out
    have HLH := Lib.hid hlenh
    clear hlenh
    by_cases hlt : i < N
    · obtain ⟨g', rfl⟩ : ∃ g', gk = g' + 1 := ⟨gk - 1, by have := HG.out; omega⟩
      have hdd : decide ((i : Int) < (N : Int)) = true := by simp; omega
      have hiN : (i : Int) < (N : Int) := by omega
      have hi0 : (0 : Int) ≤ (i : Int) := by omega
      obtain ⟨f, hfi⟩ : ∃ f, d.L[i]? = some f := ⟨d.L[i]'(by rw [HN.out]; omega), List.getElem?_eq_getElem _⟩
      have hfm := List.mem_of_getElem? hfi
      have HFI : Hid ((hlf ts 0 i d.L)[i]? = some f) := Lib.hid ((hlf_at ts d.L 0 i).trans hfi)
      have HFL : Hid (f.data.length ≤ 1073741824) := Lib.hid (Nat.le_trans (used_mem hfm) HU.out)
      have hlnb := HFL.out
      have HBY := Lib.hid (HI.out.byte f hfm)
      have hsafe := HI.out.safe f hfm
      have hSRT : Srt (hlf ts 0 i d.L) := srt_map (hlf_names ts d.L 0 i) HI.out.srt
      have HSTEP : Hid (∀ n, n = crN ts i f → (hlf ts 0 i d.L).set i ⟨f.name, f.data.take n, n⟩ = hlf ts 0 (i + 1) d.L) := Lib.hid (fun n hn => by
        subst hn
        have e := hlf_step ts d.L 0 i f HI.out.srt hfi
        rw [Nat.zero_add, upd_set hSRT HFI.out rfl] at e
        exact e)
      have hcn : crN ts i f = f.safe + (match ts[i]? with | some t => wth t (f.data.length - f.safe) | none => 0) := rfl
      -- how many bytes stay
      have hcases : (∃ t, ts[i]? = some t ∧ 0 < t ∧ i < m) ∨ ((match ts[i]? with | some t => wth t (f.data.length - f.safe) | none => 0) = 0 ∧ (¬ i < m ∨ ∃ t, ts[i]? = some t ∧ t ≤ 0 ∧ i < m)) := by
        by_cases him : i < m
        · have hil : i < ts.length := by rw [HM.out]; exact him
          have ht : ts[i]? = some ts[i] := List.getElem?_eq_getElem hil
          rcases Int.lt_or_le 0 ts[i] with h | h
          · exact .inl ⟨_, ht, h, him⟩
          · refine .inr ⟨?_, .inr ⟨_, ht, h, him⟩⟩
            rw [ht]
            show wth ts[i] _ = 0
            unfold wth; omega
        · refine .inr ⟨?_, .inl him⟩
          rw [List.getElem?_eq_none (by rw [HM.out]; omega)]
      have HROW : Hid (RowI wr S0 a0 ts) := Lib.hid (HR.out.keep HK.out HS0.out)
      obtain ⟨g, lc, ta3, tn3, tc3, Sd3, St3, da, dc, h3, hfa⟩ := HHASA.out.file HFI.out
      have b1 := hfa.b1
      have r1 := hfa.r1
      have r2 := hfa.r2
      have hlcN := hfa.lc
      have hfit := hfa.fit
      have hb1 : wr.cell? ⟨B, 1, none⟩ = some (.slice (some ⟨g, 0, none⟩) (hlf ts 0 i d.L).length lc) := b1
      rw [HLH.out] at hb1
      have hlcN' : (hlf ts 0 i d.L).length ≤ lc := hlcN
      rw [HLH.out] at hlcN'
      obtain ⟨ln, hln⟩ : ∃ x, f.data.length = x := ⟨_, rfl⟩
      obtain ⟨sf, hsf⟩ : ∃ x, f.safe = x := ⟨_, rfl⟩
      rw [hln] at r1 hfit hlnb
      rw [hsf] at r2
      rw [hln, hsf] at hsafe hcn hcases
      have HLN := Lib.hid hln
      have HSF := Lib.hid hsf
      have HCN := Lib.hid hcn
      -- what is left of the round, wherever it stands
      have HREST : Hid (∀ nn, nn = crN ts i f → nn ≤ ln → ∀ wq q, wq = wr.drewN q → ∃ a1 e1 W1 w9 S9', (∀ W, Below wq.drew.heap.size wq.drew W → W.cell? ⟨B, 1, none⟩ = some (.slice (some ⟨g, 0, none⟩) N lc) ∧ W.cell? ⟨g, i * 3 + 1, none⟩ = some (.slice da ln dc) ∧ W.cell? ⟨g, i * 3 + 2, none⟩ = some (.int .i64 (sf : Int))) ∧
          (∀ ty, (Builtin.append_ #[27, 27] ty #[.slice (some ⟨wq.heap.size, 0, none⟩) 0 0, .slice da nn dc]).run Tryz.prog (wq.drew.alloc (.cells #[] 5)) = .ok (.slice a1 nn e1) W1) ∧ Below wq.drew.heap.size wq.drew W1 ∧ W1.frozen? ⟨g, i * 3 + 1, none⟩ = false ∧ W1.setCell ⟨g, i * 3 + 1, none⟩ (.slice a1 nn e1) = w9 ∧
          w9.cell? ⟨B, 1, none⟩ = some (.slice (some ⟨g, 0, none⟩) N lc) ∧ w9.cell? ⟨g, i * 3 + 1, none⟩ = some (.slice a1 nn e1) ∧ w9.cell? ⟨g, i * 3 + 2, none⟩ = some (.int .i64 (sf : Int)) ∧ w9.frozen? ⟨g, i * 3 + 2, none⟩ = false ∧
          (RHas (w9.drew.setCell ⟨g, i * 3 + 2, none⟩ (.int .i64 (nn : Int))) S9' B { d with tr := [], down := false, L := hlf ts 0 (i + 1) d.L } ∧ Fresh S w.heap.size S9' ∧ Keeps S w (w9.drew.setCell ⟨g, i * 3 + 2, none⟩ (.int .i64 (nn : Int))))) := Lib.hid (fun nn hnn hnl wq q hq => by
        subst hq
        have hhq : RHas (wr.drewN q) Si B { d with tr := [], down := false, L := hlf ts 0 i d.L } := HHASA.out.keep ((Keeps.refl Non wr).drewN q) (fun _ _ h => h)
        obtain ⟨g2, lc2, da2, dc2, a1, e1, W1, hrc⟩ := hhq.recut HFI.out (nn := nn) (by rw [HLN.out]; exact hnl) HFL.out HBY.out
        have hq1 := hrc.b1 _ (Below.refl _ _)
        have hq2 : (wr.drewN q).cell? ⟨B, 1, none⟩ = some (.slice (some ⟨g, 0, none⟩) N lc) := hb1
        have e0 := hq1.1.symm.trans hq2
        simp only [Option.some.injEq, Value.slice.injEq, Addr.mk.injEq] at e0
        obtain ⟨⟨rfl, _⟩, _, rfl⟩ := e0
        have hq3 : (wr.drewN q).cell? ⟨g2, i * 3 + 1, none⟩ = some (.slice da ln dc) := r1
        have e3 := hq1.2.1.symm.trans hq3
        simp only [Option.some.injEq, Value.slice.injEq] at e3
        obtain ⟨rfl, _, rfl⟩ := e3
        obtain ⟨S9', m1, m2, m3⟩ := hrc.mv
        have hll := HLH.out
        refine ⟨a1, e1, W1, _, S9', fun W hb => ?_, hrc.run, ⟨hrc.bel.os, hrc.bel.tape, hrc.bel.output, hrc.bel.size, hrc.bel.block⟩, hrc.fr1, rfl, ?_, hrc.q2, ?_, hrc.fr2, ?_, ?_, ?_⟩
        · have := hrc.b1 W ⟨hb.os, hb.tape, hb.output, hb.size, hb.block⟩
          have h11 := this.1
          have h12 := this.2.1
          have h13 := this.2.2
          rw [HLN.out] at h12
          rw [HSF.out] at h13
          have h11' : W.cell? ⟨B, 1, none⟩ = some (.slice (some ⟨g2, 0, none⟩) (hlf ts 0 i d.L).length lc2) := h11
          rw [hll] at h11'
          exact ⟨h11', h12, h13⟩
        · have h11' : (W1.setCell ⟨g2, i * 3 + 1, none⟩ (.slice a1 nn e1)).cell? ⟨B, 1, none⟩ = some (.slice (some ⟨g2, 0, none⟩) (hlf ts 0 i d.L).length lc2) := hrc.q1
          rw [hll] at h11'
          exact h11'
        · have h13 := hrc.q3
          rw [HSF.out] at h13
          exact h13
        · rw [← HSTEP.out nn hnn]
          exact m1
        · exact fresh_trans HF.out m2 (by have := HK.out.size; exact this)
        · exact (HK.out.drewN q).trans m3 HF.out)
      clear hfi hfm hsafe hSRT hcn h3 hfa b1 hlcN hln hsf
      rcases hcases with ⟨t, ht, ht0, him⟩ | ⟨hz, hcase⟩
      · have hdm : decide ((i : Int) < (m : Int)) = true := by simp; omega
        have him' : (i : Int) < (m : Int) := by omega
        obtain ⟨bt, ot, rfl, hct⟩ : ∃ b o, a0 = some ⟨b, o, none⟩ ∧ wr.cell? ⟨b, o + i, none⟩ = some (.int .i64 t) := by
          rcases HROW.out with h0 | ⟨b, o, ha, _, hc⟩
          · rw [h0] at ht; simp at ht
          · exact ⟨b, o, ha, hc i t ht⟩
        obtain ⟨tp, rfl⟩ : ∃ tp : Nat, t = (tp : Int) := Int.eq_ofNat_of_zero_le (by omega)
        have hd0 : decide (0 < tp) = true := by simp; omega
        have hd1 : decide ((0 : Int) < (tp : Int)) = true := by simp; omega
        have hsl : sf ≤ ln := by have := HCN.out; have := HI.out; rw [← HLN.out, ← HSF.out]; exact HI.out.safe f (by have := HFI.out; rw [hlf_at] at this; exact List.mem_of_getElem? this)
        obtain ⟨M, hM⟩ : ∃ M, ln - sf = M := ⟨_, rfl⟩
        have hwr : IntKind.i64.wrap ((ln : Int) - (sf : Int)) = (M : Int) := by rw [IntWalk.i64_in _ (by omega)]; omega
        obtain ⟨tl, htl⟩ : ∃ tl, min tp M = tl := ⟨_, rfl⟩
        have hmin : min (tp : Int) (M : Int) = (tl : Int) := by omega
        obtain ⟨nn, hnn⟩ : ∃ nn, sf + tl = nn := ⟨_, rfl⟩
        have hnc : nn = crN ts i f := by
          have := HCN.out
          rw [ht] at this
          dsimp only at this
          have e : wth (tp : Int) M = tl := by
            unfold wth
            rw [Int.toNat_natCast, htl]
          rw [this, hM, e, hnn]
        have hnl : nn ≤ ln := by omega
        have hws : IntKind.i64.wrap ((sf : Int) + (tl : Int)) = (nn : Int) := by rw [IntWalk.i64_in _ (by omega)]; omega
        clear ht ht0 hM htl hnn
        have HNC := Lib.hid hnc
        clear hnc
        go_wp2
        go_quiet (fail)
        obtain ⟨a1, e1, W1, w9, S9', q1, q2, q3, q4, q5, q6, q7, q8, q9, q10⟩ := HREST.out nn HNC.out hnl (wr.drewN nq) nq rfl
        have HQ := Lib.hid q1
        have HR1 := Lib.hid q2
        have HB := Lib.hid q3
        have HW5 := q5
        have HZ : Hid (Below (wr.drewN nq).drew.heap.size (wr.drewN nq).drew (wr.drewN nq).drew) := Lib.hid (Below.refl _ _)
        have HA : Hid (Below (wr.drewN nq).drew.heap.size (wr.drewN nq).drew ((wr.drewN nq).drew.alloc (.cells #[] 5))) := Lib.hid ((Below.refl _ _).alloc (Nat.le_refl _) _)
        have HS9 : Hid (w9.drew.cell? ⟨B, 1, none⟩ = some (.slice (some ⟨g, 0, none⟩) N lc) ∧ w9.drew.cell? ⟨g, i * 3 + 1, none⟩ = some (.slice a1 nn e1)) := Lib.hid ⟨q6, q7⟩
        have HEND := Lib.hid q10
        have hn0 : (0 : Int) ≤ (nn : Int) := by omega
        have hnd : (nn : Int) ≤ (dc : Int) := by omega
        clear q1 q2 q3 q5 q6 q7 q10 hlt
        go_wp2
        refine wp_region_z (S := fun W => W.cell? ⟨B, 1, none⟩ = some (.slice (some ⟨g, 0, none⟩) N lc) ∧ W.cell? ⟨g, i * 3 + 1, none⟩ = some (.slice da ln dc) ∧ W.cell? ⟨g, i * 3 + 2, none⟩ = some (.int .i64 (sf : Int))) 28 (by kernel_rfl) (HQ.out _ HZ.out) (fun hHeld => ?_)
        refine wpAnyZ_take (i := 0) (f := 29) (v := ?_) rfl (by kernel_rfl) (by kernel_rfl) (by kernel_rfl) (by kernel_rfl) (by kernel_rfl) (fun _ _ _ h => h) (Or.inl ⟨by rfl, ?_⟩) (by assumption) ?_
        rotate_left
        · intro W hS
          try dsimp only at hS
          try obtain ⟨hs0, hs1⟩ := hS
          go_simp
          try with_reducible rfl
        simp only [Act.put, List.setIfInBounds_toArray]
        refine wpAnyZ_take (i := 1) (f := 29) (v := ?_) rfl (by kernel_rfl) (by kernel_rfl) (by kernel_rfl) (by kernel_rfl) (by kernel_rfl) (fun _ _ _ h => h) (Or.inl ⟨by rfl, ?_⟩) (by assumption) ?_
        rotate_left
        · intro W hS
          try dsimp only at hS
          try obtain ⟨hs0, hs1⟩ := hS
          go_simp
          try with_reducible rfl
        simp only [Act.put]
        refine wpAnyZ_take (i := 2) (f := 29) (v := ?_) rfl (by kernel_rfl) (by kernel_rfl) (by kernel_rfl) (by kernel_rfl) (by kernel_rfl) (fun _ _ _ h => h) (Or.inl ⟨by rfl, ?_⟩) (by assumption) ?_
        rotate_left
        · intro W hS
          try dsimp only at hS
          try obtain ⟨hs0, hs1⟩ := hS
          go_simp
          try with_reducible rfl
        simp only [Act.put]
        refine wpAnyZ_take (i := 3) (f := 29) (v := ?_) rfl (by kernel_rfl) (by kernel_rfl) (by kernel_rfl) (by kernel_rfl) (by kernel_rfl) (fun _ _ _ h => h) (Or.inl ⟨by rfl, ?_⟩) (by assumption) ?_
        rotate_left
        · intro W hS
          try dsimp only at hS
          try obtain ⟨hs0, hs1⟩ := hS
          go_simp
          try with_reducible rfl
        simp only [Act.put]
        refine wpAnyZ_take (i := 4) (f := 29) (v := ?_) rfl (by kernel_rfl) (by kernel_rfl) (by kernel_rfl) (by kernel_rfl) (by kernel_rfl) (fun _ _ _ h => h) (Or.inl ⟨by rfl, ?_⟩) (by assumption) ?_
        rotate_left
        · intro W hS
          try dsimp only at hS
          try obtain ⟨hs0, hs1⟩ := hS
          go_simp
          try with_reducible rfl
        simp only [Act.put]
        refine wpAnyZ_take (i := 6) (f := 29) (v := ?_) rfl (by kernel_rfl) (by kernel_rfl) (by kernel_rfl) (by kernel_rfl) (by kernel_rfl) (fun _ _ _ h => h) (Or.inl ⟨by rfl, ?_⟩) (by assumption) ?_
        rotate_left
        · intro W hS
          try dsimp only at hS
          try obtain ⟨hs0, hs1⟩ := hS
          go_simp
          try with_reducible rfl
        simp only [Act.put]
        refine wpAnyZ_take (i := 7) (f := 29) (v := ?_) rfl (by kernel_rfl) (by kernel_rfl) (by kernel_rfl) (by kernel_rfl) (by kernel_rfl) (fun _ _ _ h => h) (Or.inl ⟨by rfl, ?_⟩) (by assumption) ?_
        rotate_left
        · intro W hS
          try dsimp only at hS
          try obtain ⟨hs0, hs1⟩ := hS
          go_simp
          try with_reducible rfl
        simp only [Act.put]
        refine wpAnyZ_take (i := 8) (f := 29) (v := ?_) rfl (by kernel_rfl) (by kernel_rfl) (by kernel_rfl) (by kernel_rfl) (by kernel_rfl) (fun _ _ _ h => h) (Or.inl ⟨by rfl, ?_⟩) (by assumption) ?_
        rotate_left
        · intro W hS
          try dsimp only at hS
          try obtain ⟨hs0, hs1⟩ := hS
          go_simp
          try with_reducible rfl
        simp only [Act.put]
        refine wpAnyZ_take (i := 9) (f := 29) (v := ?_) rfl (by kernel_rfl) (by kernel_rfl) (by kernel_rfl) (by kernel_rfl) (by kernel_rfl) (fun _ _ _ h => h) (Or.inl ⟨by rfl, ?_⟩) (by assumption) ?_
        rotate_left
        · intro W hS
          try dsimp only at hS
          try obtain ⟨hs0, hs1⟩ := hS
          go_simp
          try with_reducible rfl
        simp only [Act.put]
        refine wpAnyZ_take (i := 10) (f := 29) (v := ?_) rfl (by kernel_rfl) (by kernel_rfl) (by kernel_rfl) (by kernel_rfl) (by kernel_rfl) (fun _ _ _ h => h) (Or.inl ⟨by rfl, ?_⟩) (by assumption) ?_
        rotate_left
        · intro W hS
          try dsimp only at hS
          try obtain ⟨hs0, hs1⟩ := hS
          go_simp
          try with_reducible rfl
        simp only [Act.put]
        refine wpAnyZ_take (i := 11) (f := 29) (v := ?_) rfl (by kernel_rfl) (by kernel_rfl) (by kernel_rfl) (by kernel_rfl) (by kernel_rfl) (fun _ _ _ h => h) (Or.inl ⟨by rfl, ?_⟩) (by assumption) ?_
        rotate_left
        · intro W hS
          try dsimp only at hS
          try obtain ⟨hs0, hs1⟩ := hS
          go_simp
          try with_reducible rfl
        simp only [Act.put]
        refine wpAnyZ_take (i := 12) (f := 29) (v := ?_) rfl (by kernel_rfl) (by kernel_rfl) (by kernel_rfl) (by kernel_rfl) (by kernel_rfl) (fun _ _ _ h => h) (Or.inl ⟨by rfl, ?_⟩) (by assumption) ?_
        rotate_left
        · intro W hS
          try dsimp only at hS
          try obtain ⟨hs0, hs1⟩ := hS
          go_simp
          try with_reducible rfl
        simp only [Act.put]
        refine wpAnyZ_take (i := 13) (f := 29) (v := ?_) rfl (by kernel_rfl) (by kernel_rfl) (by kernel_rfl) (by kernel_rfl) (by kernel_rfl) (fun _ _ _ h => h) (Or.inl ⟨by rfl, ?_⟩) (by assumption) ?_
        rotate_left
        · intro W hS
          try dsimp only at hS
          try obtain ⟨hs0, hs1⟩ := hS
          go_simp
          try with_reducible rfl
        simp only [Act.put]
        refine wpAnyZ_take (i := 14) (f := 29) (v := ?_) rfl (by kernel_rfl) (by kernel_rfl) (by kernel_rfl) (by kernel_rfl) (by kernel_rfl) (fun _ _ _ h => h) (Or.inl ⟨by rfl, ?_⟩) (by assumption) ?_
        rotate_left
        · intro W hS
          try dsimp only at hS
          try obtain ⟨hs0, hs1⟩ := hS
          go_simp
          try with_reducible rfl
        simp only [Act.put]
        refine wpAnyZ_take (i := 15) (f := 29) (v := ?_) rfl (by kernel_rfl) (by kernel_rfl) (by kernel_rfl) (by kernel_rfl) (by kernel_rfl) (fun _ _ _ h => h) (Or.inl ⟨by rfl, ?_⟩) (by assumption) ?_
        rotate_left
        · intro W hS
          try dsimp only at hS
          try obtain ⟨hs0, hs1⟩ := hS
          go_simp
          try with_reducible rfl
        simp only [Act.put]
        refine wpAnyZ_take (i := 16) (f := 29) (v := ?_) rfl (by kernel_rfl) (by kernel_rfl) (by kernel_rfl) (by kernel_rfl) (by kernel_rfl) (fun _ _ _ h => h) (Or.inl ⟨by rfl, ?_⟩) (by assumption) ?_
        rotate_left
        · intro W hS
          try dsimp only at hS
          try obtain ⟨hs0, hs1⟩ := hS
          go_simp
          try with_reducible rfl
        simp only [Act.put]
        refine wpAnyZ_take (i := 17) (f := 29) (v := ?_) rfl (by kernel_rfl) (by kernel_rfl) (by kernel_rfl) (by kernel_rfl) (by kernel_rfl) (fun _ _ _ h => h) (Or.inl ⟨by rfl, ?_⟩) (by assumption) ?_
        rotate_left
        · intro W hS
          try dsimp only at hS
          try obtain ⟨hs0, hs1⟩ := hS
          go_simp
          try with_reducible rfl
        simp only [Act.put]
        refine wpAnyZ_take (i := 18) (f := 29) (v := ?_) rfl (by kernel_rfl) (by kernel_rfl) (by kernel_rfl) (by kernel_rfl) (by kernel_rfl) (fun _ _ _ h => h) (Or.inl ⟨by rfl, ?_⟩) (by assumption) ?_
        rotate_left
        · intro W hS
          try dsimp only at hS
          try obtain ⟨hs0, hs1⟩ := hS
          go_simp
          try with_reducible rfl
        simp only [Act.put]
        refine wpAnyZ_take (i := 19) (f := 29) (v := ?_) rfl (by kernel_rfl) (by kernel_rfl) (by kernel_rfl) (by kernel_rfl) (by kernel_rfl) (fun _ _ _ h => h) (Or.inl ⟨by rfl, ?_⟩) (by assumption) ?_
        rotate_left
        · intro W hS
          try dsimp only at hS
          try obtain ⟨hs0, hs1⟩ := hS
          go_simp
          try with_reducible rfl
        simp only [Act.put]
        refine wpAnyZ_take (i := 20) (f := 29) (v := ?_) rfl (by kernel_rfl) (by kernel_rfl) (by kernel_rfl) (by kernel_rfl) (by kernel_rfl) (fun _ _ _ h => h) (Or.inl ⟨by rfl, ?_⟩) (by assumption) ?_
        rotate_left
        · intro W hS
          try dsimp only at hS
          try obtain ⟨hs0, hs1⟩ := hS
          go_simp
          try with_reducible rfl
        simp only [Act.put]
        refine wpAnyZ_take (i := 21) (f := 29) (v := ?_) rfl (by kernel_rfl) (by kernel_rfl) (by kernel_rfl) (by kernel_rfl) (by kernel_rfl) (fun _ _ _ h => h) (Or.inl ⟨by rfl, ?_⟩) (by assumption) ?_
        rotate_left
        · intro W hS
          try dsimp only at hS
          try obtain ⟨hs0, hs1⟩ := hS
          go_simp
          try with_reducible rfl
        simp only [Act.put]
        refine wpAnyZ_take (i := 22) (f := 29) (v := ?_) rfl (by kernel_rfl) (by kernel_rfl) (by kernel_rfl) (by kernel_rfl) (by kernel_rfl) (fun _ _ _ h => h) (Or.inl ⟨by rfl, ?_⟩) (by assumption) ?_
        rotate_left
        · intro W hS
          try dsimp only at hS
          try obtain ⟨hs0, hs1⟩ := hS
          go_simp
          try with_reducible rfl
        simp only [Act.put]
        refine wpAnyZ_take (i := 23) (f := 29) (v := ?_) rfl (by kernel_rfl) (by kernel_rfl) (by kernel_rfl) (by kernel_rfl) (by kernel_rfl) (fun _ _ _ h => h) (Or.inl ⟨by rfl, ?_⟩) (by assumption) ?_
        rotate_left
        · intro W hS
          try dsimp only at hS
          try obtain ⟨hs0, hs1⟩ := hS
          go_simp
          try with_reducible rfl
        simp only [Act.put]
        refine wpAnyZ_take (i := 24) (f := 29) (v := ?_) rfl (by kernel_rfl) (by kernel_rfl) (by kernel_rfl) (by kernel_rfl) (by kernel_rfl) (fun _ _ _ h => h) (Or.inl ⟨by rfl, ?_⟩) (by assumption) ?_
        rotate_left
        · intro W hS
          try dsimp only at hS
          try obtain ⟨hs0, hs1⟩ := hS
          go_simp
          try with_reducible rfl
        simp only [Act.put]
        refine wpAnyZ_one (i := 5) (by kernel_rfl) rfl (fun K hK => ?_)
        go_simp
        refine hK.out _ _ (HQ.out _ HA.out) (fun hHeld => ?_)
        clear hK K
        try simp only [Act.put, List.setIfInBounds_toArray, List.set_cons_zero, List.set_cons_succ]
        refine wpAnyZ_one (i := 25) (by kernel_rfl) rfl (fun K hK => ?_)
        refine step_append rfl _ _ 27 rfl _ _ _ rfl rfl HR1.out ?_
        refine hK.out _ _ (HQ.out _ HB.out) (fun hHeld => ?_)
        clear hK K
        try simp only [Act.put, List.setIfInBounds_toArray]
        refine wpAnyZ_take (i := 26) (f := 29) (v := ?_) rfl (by kernel_rfl) (by kernel_rfl) (by kernel_rfl) (by kernel_rfl) (by kernel_rfl) (fun _ _ _ h => h) (Or.inl ⟨by rfl, ?_⟩) (by assumption) ?_
        rotate_left
        · intro W hS
          try dsimp only at hS
          try obtain ⟨hs0, hs1⟩ := hS
          go_simp
          try with_reducible rfl
        simp only [Act.put]
        refine wpAnyZ_take (i := 27) (f := 29) (v := ?_) rfl (by kernel_rfl) (by kernel_rfl) (by kernel_rfl) (by kernel_rfl) (by kernel_rfl) (fun _ _ _ h => h) (Or.inl ⟨by rfl, ?_⟩) (by assumption) ?_
        rotate_left
        · intro W hS
          try dsimp only at hS
          try obtain ⟨hs0, hs1⟩ := hS
          go_simp
          try with_reducible rfl
        simp only [Act.put]
        refine wpAnyZ_last (by kernel_rfl) rfl (by kernel_rfl) (fun K hK => ?_)
        go_simp
        refine hK.out _ _ ?_
        clear hK K
        try simp only [Act.put, List.setIfInBounds_toArray, List.set_cons_zero, List.set_cons_succ]
        try simp only [HW5]
        clear HW5
        go_wp2
        refine wp_region_z (S := fun W => W.cell? ⟨B, 1, none⟩ = some (.slice (some ⟨g, 0, none⟩) N lc) ∧ W.cell? ⟨g, i * 3 + 1, none⟩ = some (.slice a1 nn e1)) 16 (by kernel_rfl) HS9.out (fun hHeld => ?_)
        refine wpAnyZ_take (i := 0) (f := 17) (v := ?_) rfl (by kernel_rfl) (by kernel_rfl) (by kernel_rfl) (by kernel_rfl) (by kernel_rfl) (fun _ _ _ h => h) (Or.inl ⟨by rfl, ?_⟩) (by assumption) ?_
        rotate_left
        · intro W hS
          try dsimp only at hS
          try obtain ⟨hs0, hs1⟩ := hS
          go_simp
          try with_reducible rfl
        simp only [Act.put, List.setIfInBounds_toArray]
        refine wpAnyZ_take (i := 1) (f := 17) (v := ?_) rfl (by kernel_rfl) (by kernel_rfl) (by kernel_rfl) (by kernel_rfl) (by kernel_rfl) (fun _ _ _ h => h) (Or.inl ⟨by rfl, ?_⟩) (by assumption) ?_
        rotate_left
        · intro W hS
          try dsimp only at hS
          try obtain ⟨hs0, hs1⟩ := hS
          go_simp
          try with_reducible rfl
        simp only [Act.put]
        refine wpAnyZ_take (i := 2) (f := 17) (v := ?_) rfl (by kernel_rfl) (by kernel_rfl) (by kernel_rfl) (by kernel_rfl) (by kernel_rfl) (fun _ _ _ h => h) (Or.inl ⟨by rfl, ?_⟩) (by assumption) ?_
        rotate_left
        · intro W hS
          try dsimp only at hS
          try obtain ⟨hs0, hs1⟩ := hS
          go_simp
          try with_reducible rfl
        simp only [Act.put]
        refine wpAnyZ_take (i := 3) (f := 17) (v := ?_) rfl (by kernel_rfl) (by kernel_rfl) (by kernel_rfl) (by kernel_rfl) (by kernel_rfl) (fun _ _ _ h => h) (Or.inl ⟨by rfl, ?_⟩) (by assumption) ?_
        rotate_left
        · intro W hS
          try dsimp only at hS
          try obtain ⟨hs0, hs1⟩ := hS
          go_simp
          try with_reducible rfl
        simp only [Act.put]
        refine wpAnyZ_take (i := 4) (f := 17) (v := ?_) rfl (by kernel_rfl) (by kernel_rfl) (by kernel_rfl) (by kernel_rfl) (by kernel_rfl) (fun _ _ _ h => h) (Or.inl ⟨by rfl, ?_⟩) (by assumption) ?_
        rotate_left
        · intro W hS
          try dsimp only at hS
          try obtain ⟨hs0, hs1⟩ := hS
          go_simp
          try with_reducible rfl
        simp only [Act.put]
        refine wpAnyZ_take (i := 5) (f := 17) (v := ?_) rfl (by kernel_rfl) (by kernel_rfl) (by kernel_rfl) (by kernel_rfl) (by kernel_rfl) (fun _ _ _ h => h) (Or.inl ⟨by rfl, ?_⟩) (by assumption) ?_
        rotate_left
        · intro W hS
          try dsimp only at hS
          try obtain ⟨hs0, hs1⟩ := hS
          go_simp
          try with_reducible rfl
        simp only [Act.put]
        refine wpAnyZ_take (i := 6) (f := 17) (v := ?_) rfl (by kernel_rfl) (by kernel_rfl) (by kernel_rfl) (by kernel_rfl) (by kernel_rfl) (fun _ _ _ h => h) (Or.inl ⟨by rfl, ?_⟩) (by assumption) ?_
        rotate_left
        · intro W hS
          try dsimp only at hS
          try obtain ⟨hs0, hs1⟩ := hS
          go_simp
          try with_reducible rfl
        simp only [Act.put]
        refine wpAnyZ_take (i := 7) (f := 17) (v := ?_) rfl (by kernel_rfl) (by kernel_rfl) (by kernel_rfl) (by kernel_rfl) (by kernel_rfl) (fun _ _ _ h => h) (Or.inl ⟨by rfl, ?_⟩) (by assumption) ?_
        rotate_left
        · intro W hS
          try dsimp only at hS
          try obtain ⟨hs0, hs1⟩ := hS
          go_simp
          try with_reducible rfl
        simp only [Act.put]
        refine wpAnyZ_take (i := 8) (f := 17) (v := ?_) rfl (by kernel_rfl) (by kernel_rfl) (by kernel_rfl) (by kernel_rfl) (by kernel_rfl) (fun _ _ _ h => h) (Or.inl ⟨by rfl, ?_⟩) (by assumption) ?_
        rotate_left
        · intro W hS
          try dsimp only at hS
          try obtain ⟨hs0, hs1⟩ := hS
          go_simp
          try with_reducible rfl
        simp only [Act.put]
        refine wpAnyZ_take (i := 9) (f := 17) (v := ?_) rfl (by kernel_rfl) (by kernel_rfl) (by kernel_rfl) (by kernel_rfl) (by kernel_rfl) (fun _ _ _ h => h) (Or.inl ⟨by rfl, ?_⟩) (by assumption) ?_
        rotate_left
        · intro W hS
          try dsimp only at hS
          try obtain ⟨hs0, hs1⟩ := hS
          go_simp
          try with_reducible rfl
        simp only [Act.put]
        refine wpAnyZ_take (i := 10) (f := 17) (v := ?_) rfl (by kernel_rfl) (by kernel_rfl) (by kernel_rfl) (by kernel_rfl) (by kernel_rfl) (fun _ _ _ h => h) (Or.inl ⟨by rfl, ?_⟩) (by assumption) ?_
        rotate_left
        · intro W hS
          try dsimp only at hS
          try obtain ⟨hs0, hs1⟩ := hS
          go_simp
          try with_reducible rfl
        simp only [Act.put]
        refine wpAnyZ_take (i := 11) (f := 17) (v := ?_) rfl (by kernel_rfl) (by kernel_rfl) (by kernel_rfl) (by kernel_rfl) (by kernel_rfl) (fun _ _ _ h => h) (Or.inl ⟨by rfl, ?_⟩) (by assumption) ?_
        rotate_left
        · intro W hS
          try dsimp only at hS
          try obtain ⟨hs0, hs1⟩ := hS
          go_simp
          try with_reducible rfl
        simp only [Act.put]
        refine wpAnyZ_take (i := 12) (f := 17) (v := ?_) rfl (by kernel_rfl) (by kernel_rfl) (by kernel_rfl) (by kernel_rfl) (by kernel_rfl) (fun _ _ _ h => h) (Or.inl ⟨by rfl, ?_⟩) (by assumption) ?_
        rotate_left
        · intro W hS
          try dsimp only at hS
          try obtain ⟨hs0, hs1⟩ := hS
          go_simp
          try with_reducible rfl
        simp only [Act.put]
        refine wpAnyZ_take (i := 13) (f := 17) (v := ?_) rfl (by kernel_rfl) (by kernel_rfl) (by kernel_rfl) (by kernel_rfl) (by kernel_rfl) (fun _ _ _ h => h) (Or.inl ⟨by rfl, ?_⟩) (by assumption) ?_
        rotate_left
        · intro W hS
          try dsimp only at hS
          try obtain ⟨hs0, hs1⟩ := hS
          go_simp
          try with_reducible rfl
        simp only [Act.put]
        refine wpAnyZ_take (i := 14) (f := 17) (v := ?_) rfl (by kernel_rfl) (by kernel_rfl) (by kernel_rfl) (by kernel_rfl) (by kernel_rfl) (fun _ _ _ h => h) (Or.inl ⟨by rfl, ?_⟩) (by assumption) ?_
        rotate_left
        · intro W hS
          try dsimp only at hS
          try obtain ⟨hs0, hs1⟩ := hS
          go_simp
          try with_reducible rfl
        simp only [Act.put]
        refine wpAnyZ_take (i := 15) (f := 17) (v := ?_) rfl (by kernel_rfl) (by kernel_rfl) (by kernel_rfl) (by kernel_rfl) (by kernel_rfl) (fun _ _ _ h => h) (Or.inl ⟨by rfl, ?_⟩) (by assumption) ?_
        rotate_left
        · intro W hS
          try dsimp only at hS
          try obtain ⟨hs0, hs1⟩ := hS
          go_simp
          try with_reducible rfl
        simp only [Act.put]
        refine wpAnyZ_last (by kernel_rfl) rfl (by kernel_rfl) (fun K hK => ?_)
        go_simp
        refine hK.out _ _ ?_
        clear hK K
        try simp only [Act.put, List.setIfInBounds_toArray, List.set_cons_zero, List.set_cons_succ]
        go_wp2
        go_roundg g'
        case measure => omega
        case rel => exact ⟨i + 1, S9', by go_num, by have := HG.out; omega, HEND.out.1, HEND.out.2.1, HEND.out.2.2⟩
      · have hsl : sf ≤ ln := by rw [← HLN.out, ← HSF.out]; exact HI.out.safe f (by have := HFI.out; rw [hlf_at] at this; exact List.mem_of_getElem? this)
        have hwq : IntKind.i64.wrap (sf : Int) = (sf : Int) := IntWalk.i64_in _ (by omega)
        have hnc : sf = crN ts i f := by have := HCN.out; rw [hz] at this; omega
        obtain ⟨a1, e1, W1, w9, S9', q1, q2, q3, q4, q5, q6, q7, q8, q9, q10⟩ := HREST.out sf hnc hsl wr 0 rfl
        rcases hcase with him | ⟨t, ht, ht0, him⟩
        · have hdm : decide ((i : Int) < (m : Int)) = false := by simp; omega
          have HQ := Lib.hid q1
          have HR1 := Lib.hid q2
          have HB := Lib.hid q3
          have HW5 := q5
          have HZ : Hid (Below wr.drew.heap.size wr.drew wr.drew) := Lib.hid (Below.refl _ _)
          have HA : Hid (Below wr.drew.heap.size wr.drew (wr.drew.alloc (.cells #[] 5))) := Lib.hid ((Below.refl _ _).alloc (Nat.le_refl _) _)
          have HS9 : Hid (w9.drew.cell? ⟨B, 1, none⟩ = some (.slice (some ⟨g, 0, none⟩) N lc) ∧ w9.drew.cell? ⟨g, i * 3 + 1, none⟩ = some (.slice a1 sf e1)) := Lib.hid ⟨q6, q7⟩
          have HEND := Lib.hid q10
          have hn0 : (0 : Int) ≤ (sf : Int) := by omega
          have hnd : (sf : Int) ≤ (dc : Int) := by omega
          clear q1 q2 q3 q5 q6 q7 q10 hlt
          clear hnc hz
          go_wp2
          refine wp_region_z (S := fun W => W.cell? ⟨B, 1, none⟩ = some (.slice (some ⟨g, 0, none⟩) N lc) ∧ W.cell? ⟨g, i * 3 + 1, none⟩ = some (.slice da ln dc) ∧ W.cell? ⟨g, i * 3 + 2, none⟩ = some (.int .i64 (sf : Int))) 28 (by kernel_rfl) (HQ.out _ HZ.out) (fun hHeld => ?_)
          refine wpAnyZ_take (i := 0) (f := 29) (v := ?_) rfl (by kernel_rfl) (by kernel_rfl) (by kernel_rfl) (by kernel_rfl) (by kernel_rfl) (fun _ _ _ h => h) (Or.inl ⟨by rfl, ?_⟩) (by assumption) ?_
          rotate_left
          · intro W hS
            try dsimp only at hS
            try obtain ⟨hs0, hs1⟩ := hS
            go_simp
            try with_reducible rfl
          simp only [Act.put, List.setIfInBounds_toArray]
          refine wpAnyZ_take (i := 1) (f := 29) (v := ?_) rfl (by kernel_rfl) (by kernel_rfl) (by kernel_rfl) (by kernel_rfl) (by kernel_rfl) (fun _ _ _ h => h) (Or.inl ⟨by rfl, ?_⟩) (by assumption) ?_
          rotate_left
          · intro W hS
            try dsimp only at hS
            try obtain ⟨hs0, hs1⟩ := hS
            go_simp
            try with_reducible rfl
          simp only [Act.put]
          refine wpAnyZ_take (i := 2) (f := 29) (v := ?_) rfl (by kernel_rfl) (by kernel_rfl) (by kernel_rfl) (by kernel_rfl) (by kernel_rfl) (fun _ _ _ h => h) (Or.inl ⟨by rfl, ?_⟩) (by assumption) ?_
          rotate_left
          · intro W hS
            try dsimp only at hS
            try obtain ⟨hs0, hs1⟩ := hS
            go_simp
            try with_reducible rfl
          simp only [Act.put]
          refine wpAnyZ_take (i := 3) (f := 29) (v := ?_) rfl (by kernel_rfl) (by kernel_rfl) (by kernel_rfl) (by kernel_rfl) (by kernel_rfl) (fun _ _ _ h => h) (Or.inl ⟨by rfl, ?_⟩) (by assumption) ?_
          rotate_left
          · intro W hS
            try dsimp only at hS
            try obtain ⟨hs0, hs1⟩ := hS
            go_simp
            try with_reducible rfl
          simp only [Act.put]
          refine wpAnyZ_take (i := 4) (f := 29) (v := ?_) rfl (by kernel_rfl) (by kernel_rfl) (by kernel_rfl) (by kernel_rfl) (by kernel_rfl) (fun _ _ _ h => h) (Or.inl ⟨by rfl, ?_⟩) (by assumption) ?_
          rotate_left
          · intro W hS
            try dsimp only at hS
            try obtain ⟨hs0, hs1⟩ := hS
            go_simp
            try with_reducible rfl
          simp only [Act.put]
          refine wpAnyZ_take (i := 6) (f := 29) (v := ?_) rfl (by kernel_rfl) (by kernel_rfl) (by kernel_rfl) (by kernel_rfl) (by kernel_rfl) (fun _ _ _ h => h) (Or.inl ⟨by rfl, ?_⟩) (by assumption) ?_
          rotate_left
          · intro W hS
            try dsimp only at hS
            try obtain ⟨hs0, hs1⟩ := hS
            go_simp
            try with_reducible rfl
          simp only [Act.put]
          refine wpAnyZ_take (i := 7) (f := 29) (v := ?_) rfl (by kernel_rfl) (by kernel_rfl) (by kernel_rfl) (by kernel_rfl) (by kernel_rfl) (fun _ _ _ h => h) (Or.inl ⟨by rfl, ?_⟩) (by assumption) ?_
          rotate_left
          · intro W hS
            try dsimp only at hS
            try obtain ⟨hs0, hs1⟩ := hS
            go_simp
            try with_reducible rfl
          simp only [Act.put]
          refine wpAnyZ_take (i := 8) (f := 29) (v := ?_) rfl (by kernel_rfl) (by kernel_rfl) (by kernel_rfl) (by kernel_rfl) (by kernel_rfl) (fun _ _ _ h => h) (Or.inl ⟨by rfl, ?_⟩) (by assumption) ?_
          rotate_left
          · intro W hS
            try dsimp only at hS
            try obtain ⟨hs0, hs1⟩ := hS
            go_simp
            try with_reducible rfl
          simp only [Act.put]
          refine wpAnyZ_take (i := 9) (f := 29) (v := ?_) rfl (by kernel_rfl) (by kernel_rfl) (by kernel_rfl) (by kernel_rfl) (by kernel_rfl) (fun _ _ _ h => h) (Or.inl ⟨by rfl, ?_⟩) (by assumption) ?_
          rotate_left
          · intro W hS
            try dsimp only at hS
            try obtain ⟨hs0, hs1⟩ := hS
            go_simp
            try with_reducible rfl
          simp only [Act.put]
          refine wpAnyZ_take (i := 10) (f := 29) (v := ?_) rfl (by kernel_rfl) (by kernel_rfl) (by kernel_rfl) (by kernel_rfl) (by kernel_rfl) (fun _ _ _ h => h) (Or.inl ⟨by rfl, ?_⟩) (by assumption) ?_
          rotate_left
          · intro W hS
            try dsimp only at hS
            try obtain ⟨hs0, hs1⟩ := hS
            go_simp
            try with_reducible rfl
          simp only [Act.put]
          refine wpAnyZ_take (i := 11) (f := 29) (v := ?_) rfl (by kernel_rfl) (by kernel_rfl) (by kernel_rfl) (by kernel_rfl) (by kernel_rfl) (fun _ _ _ h => h) (Or.inl ⟨by rfl, ?_⟩) (by assumption) ?_
          rotate_left
          · intro W hS
            try dsimp only at hS
            try obtain ⟨hs0, hs1⟩ := hS
            go_simp
            try with_reducible rfl
          simp only [Act.put]
          refine wpAnyZ_take (i := 12) (f := 29) (v := ?_) rfl (by kernel_rfl) (by kernel_rfl) (by kernel_rfl) (by kernel_rfl) (by kernel_rfl) (fun _ _ _ h => h) (Or.inl ⟨by rfl, ?_⟩) (by assumption) ?_
          rotate_left
          · intro W hS
            try dsimp only at hS
            try obtain ⟨hs0, hs1⟩ := hS
            go_simp
            try with_reducible rfl
          simp only [Act.put]
          refine wpAnyZ_take (i := 13) (f := 29) (v := ?_) rfl (by kernel_rfl) (by kernel_rfl) (by kernel_rfl) (by kernel_rfl) (by kernel_rfl) (fun _ _ _ h => h) (Or.inl ⟨by rfl, ?_⟩) (by assumption) ?_
          rotate_left
          · intro W hS
            try dsimp only at hS
            try obtain ⟨hs0, hs1⟩ := hS
            go_simp
            try with_reducible rfl
          simp only [Act.put]
          refine wpAnyZ_take (i := 14) (f := 29) (v := ?_) rfl (by kernel_rfl) (by kernel_rfl) (by kernel_rfl) (by kernel_rfl) (by kernel_rfl) (fun _ _ _ h => h) (Or.inl ⟨by rfl, ?_⟩) (by assumption) ?_
          rotate_left
          · intro W hS
            try dsimp only at hS
            try obtain ⟨hs0, hs1⟩ := hS
            go_simp
            try with_reducible rfl
          simp only [Act.put]
          refine wpAnyZ_take (i := 15) (f := 29) (v := ?_) rfl (by kernel_rfl) (by kernel_rfl) (by kernel_rfl) (by kernel_rfl) (by kernel_rfl) (fun _ _ _ h => h) (Or.inl ⟨by rfl, ?_⟩) (by assumption) ?_
          rotate_left
          · intro W hS
            try dsimp only at hS
            try obtain ⟨hs0, hs1⟩ := hS
            go_simp
            try with_reducible rfl
          simp only [Act.put]
          refine wpAnyZ_take (i := 16) (f := 29) (v := ?_) rfl (by kernel_rfl) (by kernel_rfl) (by kernel_rfl) (by kernel_rfl) (by kernel_rfl) (fun _ _ _ h => h) (Or.inl ⟨by rfl, ?_⟩) (by assumption) ?_
          rotate_left
          · intro W hS
            try dsimp only at hS
            try obtain ⟨hs0, hs1⟩ := hS
            go_simp
            try with_reducible rfl
          simp only [Act.put]
          refine wpAnyZ_take (i := 17) (f := 29) (v := ?_) rfl (by kernel_rfl) (by kernel_rfl) (by kernel_rfl) (by kernel_rfl) (by kernel_rfl) (fun _ _ _ h => h) (Or.inl ⟨by rfl, ?_⟩) (by assumption) ?_
          rotate_left
          · intro W hS
            try dsimp only at hS
            try obtain ⟨hs0, hs1⟩ := hS
            go_simp
            try with_reducible rfl
          simp only [Act.put]
          refine wpAnyZ_take (i := 18) (f := 29) (v := ?_) rfl (by kernel_rfl) (by kernel_rfl) (by kernel_rfl) (by kernel_rfl) (by kernel_rfl) (fun _ _ _ h => h) (Or.inl ⟨by rfl, ?_⟩) (by assumption) ?_
          rotate_left
          · intro W hS
            try dsimp only at hS
            try obtain ⟨hs0, hs1⟩ := hS
            go_simp
            try with_reducible rfl
          simp only [Act.put]
          refine wpAnyZ_take (i := 19) (f := 29) (v := ?_) rfl (by kernel_rfl) (by kernel_rfl) (by kernel_rfl) (by kernel_rfl) (by kernel_rfl) (fun _ _ _ h => h) (Or.inl ⟨by rfl, ?_⟩) (by assumption) ?_
          rotate_left
          · intro W hS
            try dsimp only at hS
            try obtain ⟨hs0, hs1⟩ := hS
            go_simp
            try with_reducible rfl
          simp only [Act.put]
          refine wpAnyZ_take (i := 20) (f := 29) (v := ?_) rfl (by kernel_rfl) (by kernel_rfl) (by kernel_rfl) (by kernel_rfl) (by kernel_rfl) (fun _ _ _ h => h) (Or.inl ⟨by rfl, ?_⟩) (by assumption) ?_
          rotate_left
          · intro W hS
            try dsimp only at hS
            try obtain ⟨hs0, hs1⟩ := hS
            go_simp
            try with_reducible rfl
          simp only [Act.put]
          refine wpAnyZ_take (i := 21) (f := 29) (v := ?_) rfl (by kernel_rfl) (by kernel_rfl) (by kernel_rfl) (by kernel_rfl) (by kernel_rfl) (fun _ _ _ h => h) (Or.inl ⟨by rfl, ?_⟩) (by assumption) ?_
          rotate_left
          · intro W hS
            try dsimp only at hS
            try obtain ⟨hs0, hs1⟩ := hS
            go_simp
            try with_reducible rfl
          simp only [Act.put]
          refine wpAnyZ_take (i := 22) (f := 29) (v := ?_) rfl (by kernel_rfl) (by kernel_rfl) (by kernel_rfl) (by kernel_rfl) (by kernel_rfl) (fun _ _ _ h => h) (Or.inl ⟨by rfl, ?_⟩) (by assumption) ?_
          rotate_left
          · intro W hS
            try dsimp only at hS
            try obtain ⟨hs0, hs1⟩ := hS
            go_simp
            try with_reducible rfl
          simp only [Act.put]
          refine wpAnyZ_take (i := 23) (f := 29) (v := ?_) rfl (by kernel_rfl) (by kernel_rfl) (by kernel_rfl) (by kernel_rfl) (by kernel_rfl) (fun _ _ _ h => h) (Or.inl ⟨by rfl, ?_⟩) (by assumption) ?_
          rotate_left
          · intro W hS
            try dsimp only at hS
            try obtain ⟨hs0, hs1⟩ := hS
            go_simp
            try with_reducible rfl
          simp only [Act.put]
          refine wpAnyZ_take (i := 24) (f := 29) (v := ?_) rfl (by kernel_rfl) (by kernel_rfl) (by kernel_rfl) (by kernel_rfl) (by kernel_rfl) (fun _ _ _ h => h) (Or.inl ⟨by rfl, ?_⟩) (by assumption) ?_
          rotate_left
          · intro W hS
            try dsimp only at hS
            try obtain ⟨hs0, hs1⟩ := hS
            go_simp
            try with_reducible rfl
          simp only [Act.put]
          refine wpAnyZ_one (i := 5) (by kernel_rfl) rfl (fun K hK => ?_)
          go_simp
          refine hK.out _ _ (HQ.out _ HA.out) (fun hHeld => ?_)
          clear hK K
          try simp only [Act.put, List.setIfInBounds_toArray, List.set_cons_zero, List.set_cons_succ]
          refine wpAnyZ_one (i := 25) (by kernel_rfl) rfl (fun K hK => ?_)
          refine step_append rfl _ _ 27 rfl _ _ _ rfl rfl HR1.out ?_
          refine hK.out _ _ (HQ.out _ HB.out) (fun hHeld => ?_)
          clear hK K
          try simp only [Act.put, List.setIfInBounds_toArray]
          refine wpAnyZ_take (i := 26) (f := 29) (v := ?_) rfl (by kernel_rfl) (by kernel_rfl) (by kernel_rfl) (by kernel_rfl) (by kernel_rfl) (fun _ _ _ h => h) (Or.inl ⟨by rfl, ?_⟩) (by assumption) ?_
          rotate_left
          · intro W hS
            try dsimp only at hS
            try obtain ⟨hs0, hs1⟩ := hS
            go_simp
            try with_reducible rfl
          simp only [Act.put]
          refine wpAnyZ_take (i := 27) (f := 29) (v := ?_) rfl (by kernel_rfl) (by kernel_rfl) (by kernel_rfl) (by kernel_rfl) (by kernel_rfl) (fun _ _ _ h => h) (Or.inl ⟨by rfl, ?_⟩) (by assumption) ?_
          rotate_left
          · intro W hS
            try dsimp only at hS
            try obtain ⟨hs0, hs1⟩ := hS
            go_simp
            try with_reducible rfl
          simp only [Act.put]
          refine wpAnyZ_last (by kernel_rfl) rfl (by kernel_rfl) (fun K hK => ?_)
          go_simp
          refine hK.out _ _ ?_
          clear hK K
          try simp only [Act.put, List.setIfInBounds_toArray, List.set_cons_zero, List.set_cons_succ]
          try simp only [HW5]
          clear HW5
          go_wp2
          refine wp_region_z (S := fun W => W.cell? ⟨B, 1, none⟩ = some (.slice (some ⟨g, 0, none⟩) N lc) ∧ W.cell? ⟨g, i * 3 + 1, none⟩ = some (.slice a1 sf e1)) 16 (by kernel_rfl) HS9.out (fun hHeld => ?_)
          refine wpAnyZ_take (i := 0) (f := 17) (v := ?_) rfl (by kernel_rfl) (by kernel_rfl) (by kernel_rfl) (by kernel_rfl) (by kernel_rfl) (fun _ _ _ h => h) (Or.inl ⟨by rfl, ?_⟩) (by assumption) ?_
          rotate_left
          · intro W hS
            try dsimp only at hS
            try obtain ⟨hs0, hs1⟩ := hS
            go_simp
            try with_reducible rfl
          simp only [Act.put, List.setIfInBounds_toArray]
          refine wpAnyZ_take (i := 1) (f := 17) (v := ?_) rfl (by kernel_rfl) (by kernel_rfl) (by kernel_rfl) (by kernel_rfl) (by kernel_rfl) (fun _ _ _ h => h) (Or.inl ⟨by rfl, ?_⟩) (by assumption) ?_
          rotate_left
          · intro W hS
            try dsimp only at hS
            try obtain ⟨hs0, hs1⟩ := hS
            go_simp
            try with_reducible rfl
          simp only [Act.put]
          refine wpAnyZ_take (i := 2) (f := 17) (v := ?_) rfl (by kernel_rfl) (by kernel_rfl) (by kernel_rfl) (by kernel_rfl) (by kernel_rfl) (fun _ _ _ h => h) (Or.inl ⟨by rfl, ?_⟩) (by assumption) ?_
          rotate_left
          · intro W hS
            try dsimp only at hS
            try obtain ⟨hs0, hs1⟩ := hS
            go_simp
            try with_reducible rfl
          simp only [Act.put]
          refine wpAnyZ_take (i := 3) (f := 17) (v := ?_) rfl (by kernel_rfl) (by kernel_rfl) (by kernel_rfl) (by kernel_rfl) (by kernel_rfl) (fun _ _ _ h => h) (Or.inl ⟨by rfl, ?_⟩) (by assumption) ?_
          rotate_left
          · intro W hS
            try dsimp only at hS
            try obtain ⟨hs0, hs1⟩ := hS
            go_simp
            try with_reducible rfl
          simp only [Act.put]
          refine wpAnyZ_take (i := 4) (f := 17) (v := ?_) rfl (by kernel_rfl) (by kernel_rfl) (by kernel_rfl) (by kernel_rfl) (by kernel_rfl) (fun _ _ _ h => h) (Or.inl ⟨by rfl, ?_⟩) (by assumption) ?_
          rotate_left
          · intro W hS
            try dsimp only at hS
            try obtain ⟨hs0, hs1⟩ := hS
            go_simp
            try with_reducible rfl
          simp only [Act.put]
          refine wpAnyZ_take (i := 5) (f := 17) (v := ?_) rfl (by kernel_rfl) (by kernel_rfl) (by kernel_rfl) (by kernel_rfl) (by kernel_rfl) (fun _ _ _ h => h) (Or.inl ⟨by rfl, ?_⟩) (by assumption) ?_
          rotate_left
          · intro W hS
            try dsimp only at hS
            try obtain ⟨hs0, hs1⟩ := hS
            go_simp
            try with_reducible rfl
          simp only [Act.put]
          refine wpAnyZ_take (i := 6) (f := 17) (v := ?_) rfl (by kernel_rfl) (by kernel_rfl) (by kernel_rfl) (by kernel_rfl) (by kernel_rfl) (fun _ _ _ h => h) (Or.inl ⟨by rfl, ?_⟩) (by assumption) ?_
          rotate_left
          · intro W hS
            try dsimp only at hS
            try obtain ⟨hs0, hs1⟩ := hS
            go_simp
            try with_reducible rfl
          simp only [Act.put]
          refine wpAnyZ_take (i := 7) (f := 17) (v := ?_) rfl (by kernel_rfl) (by kernel_rfl) (by kernel_rfl) (by kernel_rfl) (by kernel_rfl) (fun _ _ _ h => h) (Or.inl ⟨by rfl, ?_⟩) (by assumption) ?_
          rotate_left
          · intro W hS
            try dsimp only at hS
            try obtain ⟨hs0, hs1⟩ := hS
            go_simp
            try with_reducible rfl
          simp only [Act.put]
          refine wpAnyZ_take (i := 8) (f := 17) (v := ?_) rfl (by kernel_rfl) (by kernel_rfl) (by kernel_rfl) (by kernel_rfl) (by kernel_rfl) (fun _ _ _ h => h) (Or.inl ⟨by rfl, ?_⟩) (by assumption) ?_
          rotate_left
          · intro W hS
            try dsimp only at hS
            try obtain ⟨hs0, hs1⟩ := hS
            go_simp
            try with_reducible rfl
          simp only [Act.put]
          refine wpAnyZ_take (i := 9) (f := 17) (v := ?_) rfl (by kernel_rfl) (by kernel_rfl) (by kernel_rfl) (by kernel_rfl) (by kernel_rfl) (fun _ _ _ h => h) (Or.inl ⟨by rfl, ?_⟩) (by assumption) ?_
          rotate_left
          · intro W hS
            try dsimp only at hS
            try obtain ⟨hs0, hs1⟩ := hS
            go_simp
            try with_reducible rfl
          simp only [Act.put]
          refine wpAnyZ_take (i := 10) (f := 17) (v := ?_) rfl (by kernel_rfl) (by kernel_rfl) (by kernel_rfl) (by kernel_rfl) (by kernel_rfl) (fun _ _ _ h => h) (Or.inl ⟨by rfl, ?_⟩) (by assumption) ?_
          rotate_left
          · intro W hS
            try dsimp only at hS
            try obtain ⟨hs0, hs1⟩ := hS
            go_simp
            try with_reducible rfl
          simp only [Act.put]
          refine wpAnyZ_take (i := 11) (f := 17) (v := ?_) rfl (by kernel_rfl) (by kernel_rfl) (by kernel_rfl) (by kernel_rfl) (by kernel_rfl) (fun _ _ _ h => h) (Or.inl ⟨by rfl, ?_⟩) (by assumption) ?_
          rotate_left
          · intro W hS
            try dsimp only at hS
            try obtain ⟨hs0, hs1⟩ := hS
            go_simp
            try with_reducible rfl
          simp only [Act.put]
          refine wpAnyZ_take (i := 12) (f := 17) (v := ?_) rfl (by kernel_rfl) (by kernel_rfl) (by kernel_rfl) (by kernel_rfl) (by kernel_rfl) (fun _ _ _ h => h) (Or.inl ⟨by rfl, ?_⟩) (by assumption) ?_
          rotate_left
          · intro W hS
            try dsimp only at hS
            try obtain ⟨hs0, hs1⟩ := hS
            go_simp
            try with_reducible rfl
          simp only [Act.put]
          refine wpAnyZ_take (i := 13) (f := 17) (v := ?_) rfl (by kernel_rfl) (by kernel_rfl) (by kernel_rfl) (by kernel_rfl) (by kernel_rfl) (fun _ _ _ h => h) (Or.inl ⟨by rfl, ?_⟩) (by assumption) ?_
          rotate_left
          · intro W hS
            try dsimp only at hS
            try obtain ⟨hs0, hs1⟩ := hS
            go_simp
            try with_reducible rfl
          simp only [Act.put]
          refine wpAnyZ_take (i := 14) (f := 17) (v := ?_) rfl (by kernel_rfl) (by kernel_rfl) (by kernel_rfl) (by kernel_rfl) (by kernel_rfl) (fun _ _ _ h => h) (Or.inl ⟨by rfl, ?_⟩) (by assumption) ?_
          rotate_left
          · intro W hS
            try dsimp only at hS
            try obtain ⟨hs0, hs1⟩ := hS
            go_simp
            try with_reducible rfl
          simp only [Act.put]
          refine wpAnyZ_take (i := 15) (f := 17) (v := ?_) rfl (by kernel_rfl) (by kernel_rfl) (by kernel_rfl) (by kernel_rfl) (by kernel_rfl) (fun _ _ _ h => h) (Or.inl ⟨by rfl, ?_⟩) (by assumption) ?_
          rotate_left
          · intro W hS
            try dsimp only at hS
            try obtain ⟨hs0, hs1⟩ := hS
            go_simp
            try with_reducible rfl
          simp only [Act.put]
          refine wpAnyZ_last (by kernel_rfl) rfl (by kernel_rfl) (fun K hK => ?_)
          go_simp
          refine hK.out _ _ ?_
          clear hK K
          try simp only [Act.put, List.setIfInBounds_toArray, List.set_cons_zero, List.set_cons_succ]
          go_wp2
          go_roundg g'
          case measure => omega
          case rel => exact ⟨i + 1, S9', by go_num, by have := HG.out; omega, HEND.out.1, HEND.out.2.1, HEND.out.2.2⟩
        · have hdm : decide ((i : Int) < (m : Int)) = true := by simp; omega
          have him' : (i : Int) < (m : Int) := by omega
          obtain ⟨bt, ot, rfl, hct⟩ : ∃ b o, a0 = some ⟨b, o, none⟩ ∧ wr.cell? ⟨b, o + i, none⟩ = some (.int .i64 t) := by
            rcases HROW.out with h0 | ⟨b, o, ha, _, hc⟩
            · rw [h0] at ht; simp at ht
            · exact ⟨b, o, ha, hc i t ht⟩
          have hd0 : decide (0 < t) = false := by simp; omega
          have HQ := Lib.hid q1
          have HR1 := Lib.hid q2
          have HB := Lib.hid q3
          have HW5 := q5
          have HZ : Hid (Below wr.drew.heap.size wr.drew wr.drew) := Lib.hid (Below.refl _ _)
          have HA : Hid (Below wr.drew.heap.size wr.drew (wr.drew.alloc (.cells #[] 5))) := Lib.hid ((Below.refl _ _).alloc (Nat.le_refl _) _)
          have HS9 : Hid (w9.drew.cell? ⟨B, 1, none⟩ = some (.slice (some ⟨g, 0, none⟩) N lc) ∧ w9.drew.cell? ⟨g, i * 3 + 1, none⟩ = some (.slice a1 sf e1)) := Lib.hid ⟨q6, q7⟩
          have HEND := Lib.hid q10
          have hn0 : (0 : Int) ≤ (sf : Int) := by omega
          have hnd : (sf : Int) ≤ (dc : Int) := by omega
          clear q1 q2 q3 q5 q6 q7 q10 hlt
          clear hnc hz ht ht0
          go_wp2
          refine wp_region_z (S := fun W => W.cell? ⟨B, 1, none⟩ = some (.slice (some ⟨g, 0, none⟩) N lc) ∧ W.cell? ⟨g, i * 3 + 1, none⟩ = some (.slice da ln dc) ∧ W.cell? ⟨g, i * 3 + 2, none⟩ = some (.int .i64 (sf : Int))) 28 (by kernel_rfl) (HQ.out _ HZ.out) (fun hHeld => ?_)
          refine wpAnyZ_take (i := 0) (f := 29) (v := ?_) rfl (by kernel_rfl) (by kernel_rfl) (by kernel_rfl) (by kernel_rfl) (by kernel_rfl) (fun _ _ _ h => h) (Or.inl ⟨by rfl, ?_⟩) (by assumption) ?_
          rotate_left
          · intro W hS
            try dsimp only at hS
            try obtain ⟨hs0, hs1⟩ := hS
            go_simp
            try with_reducible rfl
          simp only [Act.put, List.setIfInBounds_toArray]
          refine wpAnyZ_take (i := 1) (f := 29) (v := ?_) rfl (by kernel_rfl) (by kernel_rfl) (by kernel_rfl) (by kernel_rfl) (by kernel_rfl) (fun _ _ _ h => h) (Or.inl ⟨by rfl, ?_⟩) (by assumption) ?_
          rotate_left
          · intro W hS
            try dsimp only at hS
            try obtain ⟨hs0, hs1⟩ := hS
            go_simp
            try with_reducible rfl
          simp only [Act.put]
          refine wpAnyZ_take (i := 2) (f := 29) (v := ?_) rfl (by kernel_rfl) (by kernel_rfl) (by kernel_rfl) (by kernel_rfl) (by kernel_rfl) (fun _ _ _ h => h) (Or.inl ⟨by rfl, ?_⟩) (by assumption) ?_
          rotate_left
          · intro W hS
            try dsimp only at hS
            try obtain ⟨hs0, hs1⟩ := hS
            go_simp
            try with_reducible rfl
          simp only [Act.put]
          refine wpAnyZ_take (i := 3) (f := 29) (v := ?_) rfl (by kernel_rfl) (by kernel_rfl) (by kernel_rfl) (by kernel_rfl) (by kernel_rfl) (fun _ _ _ h => h) (Or.inl ⟨by rfl, ?_⟩) (by assumption) ?_
          rotate_left
          · intro W hS
            try dsimp only at hS
            try obtain ⟨hs0, hs1⟩ := hS
            go_simp
            try with_reducible rfl
          simp only [Act.put]
          refine wpAnyZ_take (i := 4) (f := 29) (v := ?_) rfl (by kernel_rfl) (by kernel_rfl) (by kernel_rfl) (by kernel_rfl) (by kernel_rfl) (fun _ _ _ h => h) (Or.inl ⟨by rfl, ?_⟩) (by assumption) ?_
          rotate_left
          · intro W hS
            try dsimp only at hS
            try obtain ⟨hs0, hs1⟩ := hS
            go_simp
            try with_reducible rfl
          simp only [Act.put]
          refine wpAnyZ_take (i := 6) (f := 29) (v := ?_) rfl (by kernel_rfl) (by kernel_rfl) (by kernel_rfl) (by kernel_rfl) (by kernel_rfl) (fun _ _ _ h => h) (Or.inl ⟨by rfl, ?_⟩) (by assumption) ?_
          rotate_left
          · intro W hS
            try dsimp only at hS
            try obtain ⟨hs0, hs1⟩ := hS
            go_simp
            try with_reducible rfl
          simp only [Act.put]
          refine wpAnyZ_take (i := 7) (f := 29) (v := ?_) rfl (by kernel_rfl) (by kernel_rfl) (by kernel_rfl) (by kernel_rfl) (by kernel_rfl) (fun _ _ _ h => h) (Or.inl ⟨by rfl, ?_⟩) (by assumption) ?_
          rotate_left
          · intro W hS
            try dsimp only at hS
            try obtain ⟨hs0, hs1⟩ := hS
            go_simp
            try with_reducible rfl
          simp only [Act.put]
          refine wpAnyZ_take (i := 8) (f := 29) (v := ?_) rfl (by kernel_rfl) (by kernel_rfl) (by kernel_rfl) (by kernel_rfl) (by kernel_rfl) (fun _ _ _ h => h) (Or.inl ⟨by rfl, ?_⟩) (by assumption) ?_
          rotate_left
          · intro W hS
            try dsimp only at hS
            try obtain ⟨hs0, hs1⟩ := hS
            go_simp
            try with_reducible rfl
          simp only [Act.put]
          refine wpAnyZ_take (i := 9) (f := 29) (v := ?_) rfl (by kernel_rfl) (by kernel_rfl) (by kernel_rfl) (by kernel_rfl) (by kernel_rfl) (fun _ _ _ h => h) (Or.inl ⟨by rfl, ?_⟩) (by assumption) ?_
          rotate_left
          · intro W hS
            try dsimp only at hS
            try obtain ⟨hs0, hs1⟩ := hS
            go_simp
            try with_reducible rfl
          simp only [Act.put]
          refine wpAnyZ_take (i := 10) (f := 29) (v := ?_) rfl (by kernel_rfl) (by kernel_rfl) (by kernel_rfl) (by kernel_rfl) (by kernel_rfl) (fun _ _ _ h => h) (Or.inl ⟨by rfl, ?_⟩) (by assumption) ?_
          rotate_left
          · intro W hS
            try dsimp only at hS
            try obtain ⟨hs0, hs1⟩ := hS
            go_simp
            try with_reducible rfl
          simp only [Act.put]
          refine wpAnyZ_take (i := 11) (f := 29) (v := ?_) rfl (by kernel_rfl) (by kernel_rfl) (by kernel_rfl) (by kernel_rfl) (by kernel_rfl) (fun _ _ _ h => h) (Or.inl ⟨by rfl, ?_⟩) (by assumption) ?_
          rotate_left
          · intro W hS
            try dsimp only at hS
            try obtain ⟨hs0, hs1⟩ := hS
            go_simp
            try with_reducible rfl
          simp only [Act.put]
          refine wpAnyZ_take (i := 12) (f := 29) (v := ?_) rfl (by kernel_rfl) (by kernel_rfl) (by kernel_rfl) (by kernel_rfl) (by kernel_rfl) (fun _ _ _ h => h) (Or.inl ⟨by rfl, ?_⟩) (by assumption) ?_
          rotate_left
          · intro W hS
            try dsimp only at hS
            try obtain ⟨hs0, hs1⟩ := hS
            go_simp
            try with_reducible rfl
          simp only [Act.put]
          refine wpAnyZ_take (i := 13) (f := 29) (v := ?_) rfl (by kernel_rfl) (by kernel_rfl) (by kernel_rfl) (by kernel_rfl) (by kernel_rfl) (fun _ _ _ h => h) (Or.inl ⟨by rfl, ?_⟩) (by assumption) ?_
          rotate_left
          · intro W hS
            try dsimp only at hS
            try obtain ⟨hs0, hs1⟩ := hS
            go_simp
            try with_reducible rfl
          simp only [Act.put]
          refine wpAnyZ_take (i := 14) (f := 29) (v := ?_) rfl (by kernel_rfl) (by kernel_rfl) (by kernel_rfl) (by kernel_rfl) (by kernel_rfl) (fun _ _ _ h => h) (Or.inl ⟨by rfl, ?_⟩) (by assumption) ?_
          rotate_left
          · intro W hS
            try dsimp only at hS
            try obtain ⟨hs0, hs1⟩ := hS
            go_simp
            try with_reducible rfl
          simp only [Act.put]
          refine wpAnyZ_take (i := 15) (f := 29) (v := ?_) rfl (by kernel_rfl) (by kernel_rfl) (by kernel_rfl) (by kernel_rfl) (by kernel_rfl) (fun _ _ _ h => h) (Or.inl ⟨by rfl, ?_⟩) (by assumption) ?_
          rotate_left
          · intro W hS
            try dsimp only at hS
            try obtain ⟨hs0, hs1⟩ := hS
            go_simp
            try with_reducible rfl
          simp only [Act.put]
          refine wpAnyZ_take (i := 16) (f := 29) (v := ?_) rfl (by kernel_rfl) (by kernel_rfl) (by kernel_rfl) (by kernel_rfl) (by kernel_rfl) (fun _ _ _ h => h) (Or.inl ⟨by rfl, ?_⟩) (by assumption) ?_
          rotate_left
          · intro W hS
            try dsimp only at hS
            try obtain ⟨hs0, hs1⟩ := hS
            go_simp
            try with_reducible rfl
          simp only [Act.put]
          refine wpAnyZ_take (i := 17) (f := 29) (v := ?_) rfl (by kernel_rfl) (by kernel_rfl) (by kernel_rfl) (by kernel_rfl) (by kernel_rfl) (fun _ _ _ h => h) (Or.inl ⟨by rfl, ?_⟩) (by assumption) ?_
          rotate_left
          · intro W hS
            try dsimp only at hS
            try obtain ⟨hs0, hs1⟩ := hS
            go_simp
            try with_reducible rfl
          simp only [Act.put]
          refine wpAnyZ_take (i := 18) (f := 29) (v := ?_) rfl (by kernel_rfl) (by kernel_rfl) (by kernel_rfl) (by kernel_rfl) (by kernel_rfl) (fun _ _ _ h => h) (Or.inl ⟨by rfl, ?_⟩) (by assumption) ?_
          rotate_left
          · intro W hS
            try dsimp only at hS
            try obtain ⟨hs0, hs1⟩ := hS
            go_simp
            try with_reducible rfl
          simp only [Act.put]
          refine wpAnyZ_take (i := 19) (f := 29) (v := ?_) rfl (by kernel_rfl) (by kernel_rfl) (by kernel_rfl) (by kernel_rfl) (by kernel_rfl) (fun _ _ _ h => h) (Or.inl ⟨by rfl, ?_⟩) (by assumption) ?_
          rotate_left
          · intro W hS
            try dsimp only at hS
            try obtain ⟨hs0, hs1⟩ := hS
            go_simp
            try with_reducible rfl
          simp only [Act.put]
          refine wpAnyZ_take (i := 20) (f := 29) (v := ?_) rfl (by kernel_rfl) (by kernel_rfl) (by kernel_rfl) (by kernel_rfl) (by kernel_rfl) (fun _ _ _ h => h) (Or.inl ⟨by rfl, ?_⟩) (by assumption) ?_
          rotate_left
          · intro W hS
            try dsimp only at hS
            try obtain ⟨hs0, hs1⟩ := hS
            go_simp
            try with_reducible rfl
          simp only [Act.put]
          refine wpAnyZ_take (i := 21) (f := 29) (v := ?_) rfl (by kernel_rfl) (by kernel_rfl) (by kernel_rfl) (by kernel_rfl) (by kernel_rfl) (fun _ _ _ h => h) (Or.inl ⟨by rfl, ?_⟩) (by assumption) ?_
          rotate_left
          · intro W hS
            try dsimp only at hS
            try obtain ⟨hs0, hs1⟩ := hS
            go_simp
            try with_reducible rfl
          simp only [Act.put]
          refine wpAnyZ_take (i := 22) (f := 29) (v := ?_) rfl (by kernel_rfl) (by kernel_rfl) (by kernel_rfl) (by kernel_rfl) (by kernel_rfl) (fun _ _ _ h => h) (Or.inl ⟨by rfl, ?_⟩) (by assumption) ?_
          rotate_left
          · intro W hS
            try dsimp only at hS
            try obtain ⟨hs0, hs1⟩ := hS
            go_simp
            try with_reducible rfl
          simp only [Act.put]
          refine wpAnyZ_take (i := 23) (f := 29) (v := ?_) rfl (by kernel_rfl) (by kernel_rfl) (by kernel_rfl) (by kernel_rfl) (by kernel_rfl) (fun _ _ _ h => h) (Or.inl ⟨by rfl, ?_⟩) (by assumption) ?_
          rotate_left
          · intro W hS
            try dsimp only at hS
            try obtain ⟨hs0, hs1⟩ := hS
            go_simp
            try with_reducible rfl
          simp only [Act.put]
          refine wpAnyZ_take (i := 24) (f := 29) (v := ?_) rfl (by kernel_rfl) (by kernel_rfl) (by kernel_rfl) (by kernel_rfl) (by kernel_rfl) (fun _ _ _ h => h) (Or.inl ⟨by rfl, ?_⟩) (by assumption) ?_
          rotate_left
          · intro W hS
            try dsimp only at hS
            try obtain ⟨hs0, hs1⟩ := hS
            go_simp
            try with_reducible rfl
          simp only [Act.put]
          refine wpAnyZ_one (i := 5) (by kernel_rfl) rfl (fun K hK => ?_)
          go_simp
          refine hK.out _ _ (HQ.out _ HA.out) (fun hHeld => ?_)
          clear hK K
          try simp only [Act.put, List.setIfInBounds_toArray, List.set_cons_zero, List.set_cons_succ]
          refine wpAnyZ_one (i := 25) (by kernel_rfl) rfl (fun K hK => ?_)
          refine step_append rfl _ _ 27 rfl _ _ _ rfl rfl HR1.out ?_
          refine hK.out _ _ (HQ.out _ HB.out) (fun hHeld => ?_)
          clear hK K
          try simp only [Act.put, List.setIfInBounds_toArray]
          refine wpAnyZ_take (i := 26) (f := 29) (v := ?_) rfl (by kernel_rfl) (by kernel_rfl) (by kernel_rfl) (by kernel_rfl) (by kernel_rfl) (fun _ _ _ h => h) (Or.inl ⟨by rfl, ?_⟩) (by assumption) ?_
          rotate_left
          · intro W hS
            try dsimp only at hS
            try obtain ⟨hs0, hs1⟩ := hS
            go_simp
            try with_reducible rfl
          simp only [Act.put]
          refine wpAnyZ_take (i := 27) (f := 29) (v := ?_) rfl (by kernel_rfl) (by kernel_rfl) (by kernel_rfl) (by kernel_rfl) (by kernel_rfl) (fun _ _ _ h => h) (Or.inl ⟨by rfl, ?_⟩) (by assumption) ?_
          rotate_left
          · intro W hS
            try dsimp only at hS
            try obtain ⟨hs0, hs1⟩ := hS
            go_simp
            try with_reducible rfl
          simp only [Act.put]
          refine wpAnyZ_last (by kernel_rfl) rfl (by kernel_rfl) (fun K hK => ?_)
          go_simp
          refine hK.out _ _ ?_
          clear hK K
          try simp only [Act.put, List.setIfInBounds_toArray, List.set_cons_zero, List.set_cons_succ]
          try simp only [HW5]
          clear HW5
          go_wp2
          refine wp_region_z (S := fun W => W.cell? ⟨B, 1, none⟩ = some (.slice (some ⟨g, 0, none⟩) N lc) ∧ W.cell? ⟨g, i * 3 + 1, none⟩ = some (.slice a1 sf e1)) 16 (by kernel_rfl) HS9.out (fun hHeld => ?_)
          refine wpAnyZ_take (i := 0) (f := 17) (v := ?_) rfl (by kernel_rfl) (by kernel_rfl) (by kernel_rfl) (by kernel_rfl) (by kernel_rfl) (fun _ _ _ h => h) (Or.inl ⟨by rfl, ?_⟩) (by assumption) ?_
          rotate_left
          · intro W hS
            try dsimp only at hS
            try obtain ⟨hs0, hs1⟩ := hS
            go_simp
            try with_reducible rfl
          simp only [Act.put, List.setIfInBounds_toArray]
          refine wpAnyZ_take (i := 1) (f := 17) (v := ?_) rfl (by kernel_rfl) (by kernel_rfl) (by kernel_rfl) (by kernel_rfl) (by kernel_rfl) (fun _ _ _ h => h) (Or.inl ⟨by rfl, ?_⟩) (by assumption) ?_
          rotate_left
          · intro W hS
            try dsimp only at hS
            try obtain ⟨hs0, hs1⟩ := hS
            go_simp
            try with_reducible rfl
          simp only [Act.put]
          refine wpAnyZ_take (i := 2) (f := 17) (v := ?_) rfl (by kernel_rfl) (by kernel_rfl) (by kernel_rfl) (by kernel_rfl) (by kernel_rfl) (fun _ _ _ h => h) (Or.inl ⟨by rfl, ?_⟩) (by assumption) ?_
          rotate_left
          · intro W hS
            try dsimp only at hS
            try obtain ⟨hs0, hs1⟩ := hS
            go_simp
            try with_reducible rfl
          simp only [Act.put]
          refine wpAnyZ_take (i := 3) (f := 17) (v := ?_) rfl (by kernel_rfl) (by kernel_rfl) (by kernel_rfl) (by kernel_rfl) (by kernel_rfl) (fun _ _ _ h => h) (Or.inl ⟨by rfl, ?_⟩) (by assumption) ?_
          rotate_left
          · intro W hS
            try dsimp only at hS
            try obtain ⟨hs0, hs1⟩ := hS
            go_simp
            try with_reducible rfl
          simp only [Act.put]
          refine wpAnyZ_take (i := 4) (f := 17) (v := ?_) rfl (by kernel_rfl) (by kernel_rfl) (by kernel_rfl) (by kernel_rfl) (by kernel_rfl) (fun _ _ _ h => h) (Or.inl ⟨by rfl, ?_⟩) (by assumption) ?_
          rotate_left
          · intro W hS
            try dsimp only at hS
            try obtain ⟨hs0, hs1⟩ := hS
            go_simp
            try with_reducible rfl
          simp only [Act.put]
          refine wpAnyZ_take (i := 5) (f := 17) (v := ?_) rfl (by kernel_rfl) (by kernel_rfl) (by kernel_rfl) (by kernel_rfl) (by kernel_rfl) (fun _ _ _ h => h) (Or.inl ⟨by rfl, ?_⟩) (by assumption) ?_
          rotate_left
          · intro W hS
            try dsimp only at hS
            try obtain ⟨hs0, hs1⟩ := hS
            go_simp
            try with_reducible rfl
          simp only [Act.put]
          refine wpAnyZ_take (i := 6) (f := 17) (v := ?_) rfl (by kernel_rfl) (by kernel_rfl) (by kernel_rfl) (by kernel_rfl) (by kernel_rfl) (fun _ _ _ h => h) (Or.inl ⟨by rfl, ?_⟩) (by assumption) ?_
          rotate_left
          · intro W hS
            try dsimp only at hS
            try obtain ⟨hs0, hs1⟩ := hS
            go_simp
            try with_reducible rfl
          simp only [Act.put]
          refine wpAnyZ_take (i := 7) (f := 17) (v := ?_) rfl (by kernel_rfl) (by kernel_rfl) (by kernel_rfl) (by kernel_rfl) (by kernel_rfl) (fun _ _ _ h => h) (Or.inl ⟨by rfl, ?_⟩) (by assumption) ?_
          rotate_left
          · intro W hS
            try dsimp only at hS
            try obtain ⟨hs0, hs1⟩ := hS
            go_simp
            try with_reducible rfl
          simp only [Act.put]
          refine wpAnyZ_take (i := 8) (f := 17) (v := ?_) rfl (by kernel_rfl) (by kernel_rfl) (by kernel_rfl) (by kernel_rfl) (by kernel_rfl) (fun _ _ _ h => h) (Or.inl ⟨by rfl, ?_⟩) (by assumption) ?_
          rotate_left
          · intro W hS
            try dsimp only at hS
            try obtain ⟨hs0, hs1⟩ := hS
            go_simp
            try with_reducible rfl
          simp only [Act.put]
          refine wpAnyZ_take (i := 9) (f := 17) (v := ?_) rfl (by kernel_rfl) (by kernel_rfl) (by kernel_rfl) (by kernel_rfl) (by kernel_rfl) (fun _ _ _ h => h) (Or.inl ⟨by rfl, ?_⟩) (by assumption) ?_
          rotate_left
          · intro W hS
            try dsimp only at hS
            try obtain ⟨hs0, hs1⟩ := hS
            go_simp
            try with_reducible rfl
          simp only [Act.put]
          refine wpAnyZ_take (i := 10) (f := 17) (v := ?_) rfl (by kernel_rfl) (by kernel_rfl) (by kernel_rfl) (by kernel_rfl) (by kernel_rfl) (fun _ _ _ h => h) (Or.inl ⟨by rfl, ?_⟩) (by assumption) ?_
          rotate_left
          · intro W hS
            try dsimp only at hS
            try obtain ⟨hs0, hs1⟩ := hS
            go_simp
            try with_reducible rfl
          simp only [Act.put]
          refine wpAnyZ_take (i := 11) (f := 17) (v := ?_) rfl (by kernel_rfl) (by kernel_rfl) (by kernel_rfl) (by kernel_rfl) (by kernel_rfl) (fun _ _ _ h => h) (Or.inl ⟨by rfl, ?_⟩) (by assumption) ?_
          rotate_left
          · intro W hS
            try dsimp only at hS
            try obtain ⟨hs0, hs1⟩ := hS
            go_simp
            try with_reducible rfl
          simp only [Act.put]
          refine wpAnyZ_take (i := 12) (f := 17) (v := ?_) rfl (by kernel_rfl) (by kernel_rfl) (by kernel_rfl) (by kernel_rfl) (by kernel_rfl) (fun _ _ _ h => h) (Or.inl ⟨by rfl, ?_⟩) (by assumption) ?_
          rotate_left
          · intro W hS
            try dsimp only at hS
            try obtain ⟨hs0, hs1⟩ := hS
            go_simp
            try with_reducible rfl
          simp only [Act.put]
          refine wpAnyZ_take (i := 13) (f := 17) (v := ?_) rfl (by kernel_rfl) (by kernel_rfl) (by kernel_rfl) (by kernel_rfl) (by kernel_rfl) (fun _ _ _ h => h) (Or.inl ⟨by rfl, ?_⟩) (by assumption) ?_
          rotate_left
          · intro W hS
            try dsimp only at hS
            try obtain ⟨hs0, hs1⟩ := hS
            go_simp
            try with_reducible rfl
          simp only [Act.put]
          refine wpAnyZ_take (i := 14) (f := 17) (v := ?_) rfl (by kernel_rfl) (by kernel_rfl) (by kernel_rfl) (by kernel_rfl) (by kernel_rfl) (fun _ _ _ h => h) (Or.inl ⟨by rfl, ?_⟩) (by assumption) ?_
          rotate_left
          · intro W hS
            try dsimp only at hS
            try obtain ⟨hs0, hs1⟩ := hS
            go_simp
            try with_reducible rfl
          simp only [Act.put]
          refine wpAnyZ_take (i := 15) (f := 17) (v := ?_) rfl (by kernel_rfl) (by kernel_rfl) (by kernel_rfl) (by kernel_rfl) (by kernel_rfl) (fun _ _ _ h => h) (Or.inl ⟨by rfl, ?_⟩) (by assumption) ?_
          rotate_left
          · intro W hS
            try dsimp only at hS
            try obtain ⟨hs0, hs1⟩ := hS
            go_simp
            try with_reducible rfl
          simp only [Act.put]
          refine wpAnyZ_last (by kernel_rfl) rfl (by kernel_rfl) (fun K hK => ?_)
          go_simp
          refine hK.out _ _ ?_
          clear hK K
          try simp only [Act.put, List.setIfInBounds_toArray, List.set_cons_zero, List.set_cons_succ]
          go_wp2
          go_roundg g'
          case measure => omega
          case rel => exact ⟨i + 1, S9', by go_num, by have := HG.out; omega, HEND.out.1, HEND.out.2.1, HEND.out.2.2⟩
    · have hdd : decide ((i : Int) < (N : Int)) = false := by simp; omega
      have hin : i = N := by have := HG.out; omega
      have HEND : Hid (RTurns w S B (crash ts d) wr) := Lib.hid (by
        have hD := HHASA.out
        rw [show hlf ts 0 i d.L = crs ts 0 d.L by rw [hin, ← HN.out]; exact hlf_all ts d.L 0] at hD
        exact ⟨Si, ⟨inv_crash HI.out ts, hD⟩, HF.out, HK.out⟩)
      obtain ⟨_, lv9, ta9, tn9, tc9, Sd9, St9, h9⟩ := HHASA.out
      obtain ⟨la9, lc9, rfl, _, _, _, _⟩ := h9.fils
      have hb1 : wr.cell? ⟨B, 1, none⟩ = some (.slice la9 (hlf ts 0 i d.L).length lc9) := (cell_of_block h9.blk 1).trans rfl
      rw [HLH.out] at hb1
      clear h9
      go_wp2
      go_end0
      exact ⟨rfl, HEND.out⟩

end Go.Proofs.YtjhiekijbcjohaaGreatDoor
