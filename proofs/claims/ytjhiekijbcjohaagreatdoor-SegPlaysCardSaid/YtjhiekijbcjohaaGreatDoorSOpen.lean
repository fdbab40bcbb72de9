/-
  The program's Open of a segment, the last one. Conditions: the disk lies in blocks of the law's own; it is small; the library's table of powers of ten is laid.
-/
import Derived.Test.YtjhiekijbcjohaaGreatDoorSCreate
import Derived.Test.YtjhiekijbcjohaaGreatDoorReads2
namespace Go.Proofs.YtjhiekijbcjohaaGreatDoor
open Go.RowKit Go.Lib Go.Joins

/-- What Open leaves: the code, the records, the disk, the segment. -/
def OOut (w0 w : World) (S : Nat → Prop) (B : Nat) (n c : Int) (L : List (List Nat)) (d : Dsk) (o : Option Sg) (e : Ending) (w' : World) : Prop :=
  ∃ v ev a cc SR, e = .returned (.tuple #[v, .slice a L.length cc, ev]) ∧ ErrAt w.heap.size w' c n ev ∧ SSt w0 w w' S B n d v o ∧ Recs w' SR a L ∧ (∀ k, SR k → w.heap.size ≤ k ∧ k < w'.heap.size) ∧ (a = none → cc = 0) ∧ L.length ≤ cc ∧ cc ≤ maxLen

set_option maxRecDepth 100000 in
set_option maxHeartbeats 4000000 in
theorem sopen_calls {w0 w : World} {S : Nat → Prop} {B : Nat} {n : Int} {d : Dsk} {M K : Nat} (h : Live w0 w S B d) (ht : Tab w0) (hfew : Few d M K) (hM : M ≤ 1073741824) (hK : K ≤ 1073741000) :
    Calls Tryz.prog 32 #[.pointer (some ⟨B, 0, none⟩), .int .i64 n, .bool true] w (OOut w0 w S B n (openB d n).1 (openB d n).2.2.1 (openB d n).2.2.2 (if (openB d n).1 = 0 then some ⟨(openB d n).2.1, false⟩ else none)) := by
  have HTAB := Lib.hid ht
  have HLV := Lib.hid h
  have HNM := Lib.hid (name_calls n w (ht.below h.bel))
  have HRD := Lib.hid (fun W (hbw : Below w.heap.size w W) => read_calls (nameB n) W (h.disk.below hbw) (Nat.le_trans hfew.used hM) (by have := nameB_size n; omega))
  have HFL := Lib.hid (fun W c => fail_calls c n W)
  have HFEW := Lib.hid hfew
  cases hf : fnd (nameB n) d.L with
  | none =>
    rw [hf] at HRD
    have he : openB d n = (42, 0, [], d) := by unfold openB; rw [hf]
    rw [he]
    dsimp only
    rw [if_neg (show ¬ ((42 : Int) = 0) by decide)]
    clear he
    have HST : Hid (∀ W, Below w.heap.size w W → SSt w0 w W S B n d (.pointer none) none) := Lib.hid (fun W hb => ⟨S, h.quiet hb, fresh_refl _ _, keeps_below hb S, rfl⟩)
    clear hf h ht hfew HLV HFEW
    go_enter Tryz.func32, Tryz.ntmps32
    go_wp2_with fail
    with_reducible refine HNM.out.mono ?_
    rintro e w2 ⟨rfl, hb2⟩
    have HB2 := Lib.hid hb2
    clear hb2
    go_wp2_with fail
    with_reducible refine (HRD.out _ HB2.out).mono ?_
    rintro e w3 ⟨hb3, rfl⟩
    have HB3 := Lib.hid (below_then HB2.out hb3)
    clear hb3 HRD
    go_wp2_with fail
    with_reducible refine (HFL.out w3 42).mono ?_
    rintro e w7 ⟨ev, rfl, herr, hb7⟩
    have HE := Lib.hid herr
    have HB7 := Lib.hid (below_then HB3.out hb7)
    clear herr hb7
    go_wp2
    go_ret3
    exact ⟨_, _, none, 0, Non, rfl, HE.out.low HB3.out.size, HST.out _ HB7.out, ⟨[], RCells.nil _ _, .inl rfl⟩, fun k e => e.elim, fun _ => rfl, Nat.le_refl _, Nat.zero_le _⟩
  | some fl =>
    rw [hf] at HRD
    have he : openB d n = if (beginB d n (scanB n fl.data).2.1 (scanB n fl.data).2.2).1 = 0 then (0, (scanB n fl.data).2.1, (scanB n fl.data).1, (beginB d n (scanB n fl.data).2.1 (scanB n fl.data).2.2).2)
        else ((beginB d n (scanB n fl.data).2.1 (scanB n fl.data).2.2).1, 0, [], (beginB d n (scanB n fl.data).2.1 (scanB n fl.data).2.2).2) := by unfold openB; rw [hf]
    have HBY : Hid (∀ c ∈ fl.data, c < 256) := Lib.hid (hfew.inv.byte fl (fnd_some hf).1)
    have HLE : Hid (fl.data.length ≤ 1073741824) := Lib.hid (Nat.le_trans (used_mem (fnd_some hf).1) (Nat.le_trans hfew.used hM))
    have HT : Hid ((scanB n fl.data).2.2 = 2 ∨ (scanB n fl.data).2.2 = 3 ∨ (scanB n fl.data).2.2 = 4) := Lib.hid (scanB_state n fl.data)
    obtain ⟨q, hq⟩ : ∃ q, scanB n fl.data = q := ⟨_, rfl⟩
    have HQ := Lib.hid hq
    rw [hq] at HT he
    obtain ⟨R, g, t⟩ := q
    dsimp only at HT he
    obtain ⟨q2, hq2⟩ : ∃ q, beginB d n g t = q := ⟨_, rfl⟩
    have HQ2 := Lib.hid hq2
    rw [hq2] at he
    obtain ⟨e1, d1⟩ := q2
    dsimp only at he
    clear hf h ht hfew hq hq2
    by_cases he1 : e1 = 0
    · subst he1
      rw [if_pos rfl] at he
      rw [he]
      dsimp only
      rw [if_pos rfl]
      clear he
      obtain ⟨PST, hP⟩ : ∃ P, OOut w0 w S B n 0 R d1 (some ⟨g, false⟩) = P := ⟨_, rfl⟩
      rw [hP]
      have HP := Lib.hid hP
      clear hP
      go_enter Tryz.func32, Tryz.ntmps32
      go_wp2_with fail
      with_reducible refine HNM.out.mono ?_
      rintro e w2 ⟨rfl, hb2⟩
      have HB2 := Lib.hid hb2
      clear hb2
      go_wp2_with fail
      with_reducible refine (HRD.out _ HB2.out).mono ?_
      rintro e w3 ⟨hb3, v3, rfl, hown3⟩
      have HB3 := Lib.hid (below_then HB2.out hb3)
      obtain ⟨⟨a3, c3, rfl, hr3, hn3, hl3, hm3⟩⟩ := row_of_own HBY.out rfl hown3
      have HSC := Lib.hid (scan_calls n a3 fl.data fl.data.length c3 w3 hr3 rfl HLE.out hl3 hm3 hn3)
      unfold ScanOut at HSC
      rw [HQ.out] at HSC
      dsimp only at HSC
      clear hb3 hown3 hr3 hn3 hl3 hm3 HRD HNM
      go_wp2_with fail
      with_reducible refine HSC.out.mono ?_
      rintro e w4 ⟨v4, rfl, hown4⟩
      obtain ⟨a4, c4, S4, rfl, hr4, hn4, hl4, hm4, hS4⟩ := hown4.form2
      obtain ⟨W5, hW5⟩ : ∃ W5, w4.alloc (.cells #[.pointer (some ⟨B, 0, none⟩), .int .i64 n, .int .i64 (g : Int), .bool false] 85) = W5 := ⟨_, rfl⟩
      have hb45 : Below w4.heap.size w4 W5 := by rw [← hW5]; exact (Below.refl _ _).alloc (Nat.le_refl _) _
      have hg5 : SegAt W5 w4.heap.size B n ⟨g, false⟩ := by rw [← hW5]; exact heap_alloc_new w4 _
      have hs5 : W5.heap.size = w4.heap.size + 1 := by rw [← hW5]; simp
      have hb5 : Below w.heap.size w W5 := below_then HB3.out (below_then hown4.bel hb45)
      have h43 := hown4.bel.size
      have h30 := HB3.out.size
      have hnb : ¬ S w4.heap.size := fun e => by have := HLV.out.disk.2.1 _ e; omega
      have HBG := Lib.hid (begin_calls (HLV.out.quiet hb5) HTAB.out hg5 hnb HFEW.out hM hK HT.out)
      rw [HQ2.out] at HBG
      dsimp only at HBG
      have HRC : Hid (∀ W, Keeps S W5 W → Recs W S4 a4 R) := Lib.hid (fun W hk => (hr4.below hb45).keep hk (fun k e1 e2 => by have h1 := (hS4 k e1).1; have h2 := HLV.out.disk.2.1 k e2; omega))
      have HS4 : Hid (∀ W : World, W5.heap.size ≤ W.heap.size → ∀ k, S4 k → w.heap.size ≤ k ∧ k < W.heap.size) := Lib.hid (fun W hsz k e => ⟨Nat.le_trans h30 (hS4 k e).1, by have := (hS4 k e).2; omega⟩)
      have HFIN : Hid (∀ W d' o v, Turns W5 S B d' W → ((o = none ∧ v = .pointer none) ∨ (o = some ⟨g, false⟩ ∧ v = .pointer (some ⟨w4.heap.size, 0, none⟩))) → SSt w0 w W S B n d' v o) := Lib.hid (fun W d' o v hT ho =>
        SSt.plain (S1 := S) (w1 := W5) (g := ⟨g, false⟩) (fresh_refl _ _) (keeps_below hb5 S) (by omega) (WSt.turned (HLV.out.quiet hb5) (fresh_refl _ _) hnb hg5 (Keeps.refl _ _) hT) ho)
      have HSZ : Hid (∀ W, Keeps S W5 W → W5.heap.size ≤ W.heap.size) := Lib.hid (fun W hk => hk.size)
      have HSL : Hid ((a4 = none → c4 = 0) ∧ R.length ≤ c4 ∧ c4 ≤ maxLen) := Lib.hid ⟨hn4, hl4, hm4⟩
      have HW5 := Lib.hid hW5
      clear hown4 hr4 hn4 hl4 hm4 hS4 hb45 hg5 hs5 hb5 h43 h30 hnb hW5 HSC HLV HBY HLE HQ HQ2 HT
      obtain ⟨rl, hrl⟩ : ∃ rl, R.length = rl := ⟨_, rfl⟩
      have HRL := Lib.hid hrl
      rw [hrl] at HSL ⊢
      clear hrl
      go_wp2_with fail
      rw [HW5.out]
      with_reducible refine HBG.out.mono ?_
      rintro e w6 ⟨rfl, ht6⟩
      have HT6 := Lib.hid ht6
      clear ht6 HBG
      go_wp2
      go_ret3
      have hk6 := turns_keeps HT6.out
      rw [← HP.out]
      refine ⟨_, _, a4, c4, S4, by rw [HRL.out]; rfl, .inl ⟨rfl, rfl⟩, HFIN.out _ _ _ _ HT6.out (.inr ⟨rfl, rfl⟩), HRC.out _ hk6, HS4.out _ (HSZ.out _ hk6), HSL.out.1, by rw [HRL.out]; exact HSL.out.2.1, HSL.out.2.2⟩
    · rw [if_neg he1] at he
      rw [he]
      dsimp only
      rw [if_neg he1]
      clear he
      have hnq : (e1 != 0) = true := by simpa using he1
      obtain ⟨PST, hP⟩ : ∃ P, OOut w0 w S B n e1 [] d1 none = P := ⟨_, rfl⟩
      rw [hP]
      have HP := Lib.hid hP
      clear hP he1
      go_enter Tryz.func32, Tryz.ntmps32
      go_wp2_with fail
      with_reducible refine HNM.out.mono ?_
      rintro e w2 ⟨rfl, hb2⟩
      have HB2 := Lib.hid hb2
      clear hb2
      go_wp2_with fail
      with_reducible refine (HRD.out _ HB2.out).mono ?_
      rintro e w3 ⟨hb3, v3, rfl, hown3⟩
      have HB3 := Lib.hid (below_then HB2.out hb3)
      obtain ⟨⟨a3, c3, rfl, hr3, hn3, hl3, hm3⟩⟩ := row_of_own HBY.out rfl hown3
      have HSC := Lib.hid (scan_calls n a3 fl.data fl.data.length c3 w3 hr3 rfl HLE.out hl3 hm3 hn3)
      unfold ScanOut at HSC
      rw [HQ.out] at HSC
      dsimp only at HSC
      clear hb3 hown3 hr3 hn3 hl3 hm3 HRD HNM
      go_wp2_with fail
      with_reducible refine HSC.out.mono ?_
      rintro e w4 ⟨v4, rfl, hown4⟩
      obtain ⟨a4, c4, S4, rfl, hr4, hn4, hl4, hm4, hS4⟩ := hown4.form2
      obtain ⟨W5, hW5⟩ : ∃ W5, w4.alloc (.cells #[.pointer (some ⟨B, 0, none⟩), .int .i64 n, .int .i64 (g : Int), .bool false] 85) = W5 := ⟨_, rfl⟩
      have hb45 : Below w4.heap.size w4 W5 := by rw [← hW5]; exact (Below.refl _ _).alloc (Nat.le_refl _) _
      have hg5 : SegAt W5 w4.heap.size B n ⟨g, false⟩ := by rw [← hW5]; exact heap_alloc_new w4 _
      have hs5 : W5.heap.size = w4.heap.size + 1 := by rw [← hW5]; simp
      have hb5 : Below w.heap.size w W5 := below_then HB3.out (below_then hown4.bel hb45)
      have h43 := hown4.bel.size
      have h30 := HB3.out.size
      have hnb : ¬ S w4.heap.size := fun e => by have := HLV.out.disk.2.1 _ e; omega
      have HBG := Lib.hid (begin_calls (HLV.out.quiet hb5) HTAB.out hg5 hnb HFEW.out hM hK HT.out)
      rw [HQ2.out] at HBG
      dsimp only at HBG
      have HRC : Hid (∀ W, Keeps S W5 W → Recs W S4 a4 R) := Lib.hid (fun W hk => (hr4.below hb45).keep hk (fun k e1 e2 => by have h1 := (hS4 k e1).1; have h2 := HLV.out.disk.2.1 k e2; omega))
      have HS4 : Hid (∀ W : World, W5.heap.size ≤ W.heap.size → ∀ k, S4 k → w.heap.size ≤ k ∧ k < W.heap.size) := Lib.hid (fun W hsz k e => ⟨Nat.le_trans h30 (hS4 k e).1, by have := (hS4 k e).2; omega⟩)
      have HFIN : Hid (∀ W d' o v, Turns W5 S B d' W → ((o = none ∧ v = .pointer none) ∨ (o = some ⟨g, false⟩ ∧ v = .pointer (some ⟨w4.heap.size, 0, none⟩))) → SSt w0 w W S B n d' v o) := Lib.hid (fun W d' o v hT ho =>
        SSt.plain (S1 := S) (w1 := W5) (g := ⟨g, false⟩) (fresh_refl _ _) (keeps_below hb5 S) (by omega) (WSt.turned (HLV.out.quiet hb5) (fresh_refl _ _) hnb hg5 (Keeps.refl _ _) hT) ho)
      have HSZ : Hid (∀ W, Keeps S W5 W → W5.heap.size ≤ W.heap.size) := Lib.hid (fun W hk => hk.size)
      have HSL : Hid ((a4 = none → c4 = 0) ∧ R.length ≤ c4 ∧ c4 ≤ maxLen) := Lib.hid ⟨hn4, hl4, hm4⟩
      have HW5 := Lib.hid hW5
      clear hown4 hr4 hn4 hl4 hm4 hS4 hb45 hg5 hs5 hb5 h43 h30 hnb hW5 HSC HLV HBY HLE HQ HQ2 HT
      obtain ⟨rl, hrl⟩ : ∃ rl, R.length = rl := ⟨_, rfl⟩
      have HRL := Lib.hid hrl
      rw [hrl] at HSL ⊢
      clear hrl
      go_wp2_with fail
      rw [HW5.out]
      with_reducible refine HBG.out.mono ?_
      rintro e w6 ⟨rfl, ht6⟩
      have HT6 := Lib.hid ht6
      clear ht6 HBG
      go_wp2_with fail
      with_reducible refine (HFL.out w6 e1).mono ?_
      rintro e w7 ⟨ev, rfl, herr, hb7⟩
      have HE := Lib.hid herr
      have HB7 := Lib.hid hb7
      clear herr hb7
      go_wp2
      go_ret3
      rw [← HP.out]
      exact ⟨_, _, none, 0, Non, rfl, HE.out.low (HFIN.out _ _ _ _ HT6.out (.inl ⟨rfl, rfl⟩)).size, (HFIN.out _ _ _ _ HT6.out (.inl ⟨rfl, rfl⟩)).quiet HB7.out, ⟨[], RCells.nil _ _, .inl rfl⟩, fun k e => e.elim, fun _ => rfl, Nat.le_refl _, Nat.zero_le _⟩

end Go.Proofs.YtjhiekijbcjohaaGreatDoor
