/-
  The manifest of bytes, told by the program. Condition: the slice leads to bytes.
-/
import Derived.Test.YtacfcfbleogioaaGreatDoorMNums
import Derived.Test.YtacfcfbleogioaaGreatDoorMEnc
import Derived.Test.YtacfcfbleogioaaGreatDoorOwnA
namespace Go.Proofs.YtacfcfbleogioaaGreatDoor
open Go.RowKit Go.Lib Go.Joins

/-- A manifest's value; its numbers lie in what was made since w0. -/
def ManV (w0 w : World) (v : Value) (m : Mfs) : Prop := ∃ a c S, v = manV m.gen m.last a m.segs.length c ∧ IRow w S a m.segs ∧ (∀ k, S k → w0.heap.size ≤ k ∧ k < w.heap.size) ∧ (a = none → c = 0) ∧ m.segs.length ≤ c ∧ c ≤ maxLen
def noM : Mfs := ⟨0, 0, []⟩
theorem ManV.none (w0 w : World) : ManV w0 w (manV 0 0 none 0 0) noM := ⟨_, _, Non, rfl, .inl rfl, fun _k h => h.elim, fun _ => rfl, Nat.le_refl _, Nat.zero_le _⟩
theorem ManV.below {w0 w w' : World} {v : Value} {m : Mfs} (h : ManV w0 w v m) (hb : Below w.heap.size w w') : ManV w0 w' v m := by
  obtain ⟨a, c, S, h1, h2, h3, h4⟩ := h
  exact ⟨a, c, S, h1, h2.below hb, fun k e => ⟨(h3 k e).1, Nat.lt_of_lt_of_le (h3 k e).2 hb.size⟩, h4⟩
theorem ManV.from {w00 w0 w : World} {v : Value} {m : Mfs} (h : ManV w0 w v m) (hb : Below w00.heap.size w00 w0) : ManV w00 w v m := by
  obtain ⟨a, c, S, h1, h2, h3, h4⟩ := h
  exact ⟨a, c, S, h1, h2, fun k e => ⟨Nat.le_trans hb.size (h3 k e).1, (h3 k e).2⟩, h4⟩
theorem manV_keep {w0 w w' : World} {v : Value} {m : Mfs} {O : Nat → Prop} (h : ManV w0 w v m) (hk : Keeps O w w') (hO : ∀ k, w0.heap.size ≤ k → O k → False) : ManV w0 w' v m := by
  obtain ⟨a, c, S, h1, h2, h3, h4⟩ := h
  exact ⟨a, c, S, h1, h2.keep hk (fun k e o => hO k (h3 k e).1 o), fun k e => ⟨(h3 k e).1, Nat.lt_of_lt_of_le (h3 k e).2 hk.size⟩, h4⟩
/-- What Decode answers. -/
def DecOut (l : List Nat) (w : World) (e : Ending) (w' : World) : Prop :=
  ∃ v, e = .returned (.tuple #[v, .bool (decM l).isSome]) ∧ ManV w w' v ((decM l).getD noM) ∧ Below w.heap.size w w'
theorem decM_few {l : List Nat} (h : (listB (firstB l)).length < 3) : decM l = none := by
  unfold decM
  exact if_neg (fun hc => by omega)

theorem numsB_len : ∀ l : List Nat, (numsB l).length ≤ l.length
  | [] => Nat.le_refl _
  | [_] => Nat.le_refl _
  | [_, _] => by simp [numsB]
  | [_, _, _] => by simp [numsB]
  | a :: b :: c :: d :: t => by
    have := numsB_len t
    simp only [numsB, List.length_cons]
    omega
theorem listB_len (r : List Nat) : (listB r).length ≤ r.length := by
  unfold listB
  split
  · refine Nat.le_trans (numsB_len _) ?_
    rw [List.length_drop]
    omega
  · exact Nat.zero_le _

/-- A box of three cells, written anew. -/
theorem box3_set {w W : World} {b : Nat} {x y z : Value} {t : TypeId} (h : W.heap[b]? = some (.cells #[x, y, z] t (0, 0))) (hw : w.heap.size ≤ b) (hB : Below w.heap.size w W) (x' y' z' : Value) :
    (((W.setCell ⟨b, 0, none⟩ x').setCell ⟨b, 1, none⟩ y').setCell ⟨b, 2, none⟩ z').heap[b]? = some (.cells #[x', y', z'] t (0, 0)) ∧ Below w.heap.size w (((W.setCell ⟨b, 0, none⟩ x').setCell ⟨b, 1, none⟩ y').setCell ⟨b, 2, none⟩ z') ∧ Keeps (One b) W (((W.setCell ⟨b, 0, none⟩ x').setCell ⟨b, 1, none⟩ y').setCell ⟨b, 2, none⟩ z') := by
  have h1 := block_setCell (i := 0) h x'
  have h2 := block_setCell (i := 1) h1 y'
  have h3 := block_setCell (i := 2) h2 z'
  exact ⟨h3, ((hB.setCell (p := ⟨b, 0, none⟩) hw _).setCell (p := ⟨b, 1, none⟩) hw _).setCell (p := ⟨b, 2, none⟩) hw _, (((Keeps.refl (One b) W).setCell (p := ⟨b, 0, none⟩) (.inl rfl) _).setCell (p := ⟨b, 1, none⟩) (.inl rfl) _).setCell (p := ⟨b, 2, none⟩) (.inl rfl) _⟩

set_option maxRecDepth 100000 in
set_option maxHeartbeats 8000000 in
theorem mdecode_calls {S : Nat → Prop} (a : Option Addr) (l : List Nat) (n c : Nat) (w : World) (hr : Row w S a l) (hn : l.length = n) (hm : n ≤ 1073741824) (hc : n ≤ c) (hc2 : c ≤ maxLen) :
    Calls Tryz.prog 31 #[.slice a n c] w (DecOut l w) := by
  obtain ⟨W1, hW1⟩ : ∃ W1, w.alloc (.cells #[.int .i64 0, .int .i64 0, .slice none 0 0] 25) = W1 := ⟨_, rfl⟩
  have hb1 : Below w.heap.size w W1 := by rw [← hW1]; exact (Below.refl _ _).alloc (Nat.le_refl _) _
  have hbx1 : W1.heap[w.heap.size]? = some (.cells #[.int .i64 0, .int .i64 0, .slice none 0 0] 25 (0, 0)) := by rw [← hW1]; exact heap_alloc_new w _
  have HNX := Lib.hid (next_calls a l n c W1 (hr.below hb1) hn hm hc hc2)
  have HR := Lib.hid (hr.below hb1)
  have HLN := Lib.hid hn
  have HBX1 := Lib.hid hbx1
  have HW1 := Lib.hid hW1
  have HB1 := Lib.hid hb1
  have HBW1 := Lib.hid hb1
  have HS1 : Hid (W1.heap.size = w.heap.size + 1) := Lib.hid (by rw [← hW1]; simp)
  have HNO : Hid (decM l = none → ∀ W, Below w.heap.size w W → DecOut l w (.returned (.tuple #[.agg #[.int .i64 0, .int .i64 0, .slice none 0 0], .bool false])) W) := Lib.hid (fun h W hb => by
    unfold DecOut
    rw [h]
    exact ⟨_, rfl, ManV.none _ _, hb⟩)
  have HYES : Hid (∀ m, decM l = some m → ∀ v W, ManV w W v m → Below w.heap.size w W → DecOut l w (.returned (.tuple #[v, .bool true])) W) := Lib.hid (fun m h v W hv hb => by
    unfold DecOut
    rw [h]
    exact ⟨v, rfl, hv, hb⟩)
  clear hr hn hb1 hbx1 hW1
  go_enter Tryz.func31, Tryz.ntmps31
  go_wp2_with fail
  rw [HW1.out]
  with_reducible refine HNX.out.mono ?_
  rintro e w2 ⟨v2, rfl, hown2⟩
  have hnx : nxtR l = firstB l := rfl
  rw [hnx] at hown2
  have hfl : (firstB l).length ≤ 1073741824 := by
    unfold firstB
    split
    · next hs => have := fwhole hs; omega
    · simp
  obtain ⟨R, hR⟩ : ∃ R, firstB l = R := ⟨_, rfl⟩
  rw [hR] at hown2 hfl
  obtain ⟨a2, c2, rfl, hr2, h02, hl2, hm2⟩ := hown2.form
  obtain ⟨rn, hrn⟩ : ∃ rn, R.length = rn := ⟨_, rfl⟩
  rw [hrn] at hfl hl2 ⊢
  have HNUM := Lib.hid (numbers_calls a2 R rn c2 w2 hr2 hrn hfl hl2 hm2)
  have HBX2 := Lib.hid (block_below hown2.bel HBX1.out)
  have HB2 := Lib.hid (below_then HB1.out hown2.bel)
  have HR2 := Lib.hid (HR.out.below hown2.bel)
  have HRR := Lib.hid hR
  have HRN : Hid (R.length ≤ 1073741824) := Lib.hid (by omega)
  clear hnx hown2 hR hr2 h02 hl2 hm2 hrn HNX HBX1 HB1 HW1 HR
  go_wp2_with fail
  with_reducible refine HNUM.out.mono ?_
  rintro e w3 ⟨v3, rfl, hown3⟩
  obtain ⟨NL, hNL⟩ : ∃ NL, listB R = NL := ⟨_, rfl⟩
  rw [hNL] at hown3
  obtain ⟨a3, c3, rfl, hr3, h03, hl3, hm3⟩ := hown3.form
  have HBX3 := Lib.hid (block_below hown3.bel HBX2.out)
  have HB3 := Lib.hid (below_then HB2.out hown3.bel)
  have HR3 := Lib.hid (HR2.out.below hown3.bel)
  have HNL : Hid (listB (firstB l) = NL) := Lib.hid (by rw [HRR.out, hNL])
  have hlow3 : ∀ k, (Value.slice a3 NL.length c3).ownBlock = some k → w.heap.size ≤ k ∧ k < w3.heap.size ∧ k ≠ w.heap.size := fun k e => ⟨by have := hown3.new k e; have := HB2.out.size; omega, hown3.lt k e, by have := hown3.new k e; have := lt_of_block HBX2.out; omega⟩
  have HLOW3 := Lib.hid hlow3
  obtain ⟨nl, hnl⟩ : ∃ nl, NL.length = nl := ⟨_, rfl⟩
  have hnl30 : nl ≤ 1073741824 := by rw [← hnl, ← hNL]; exact Nat.le_trans (listB_len R) HRN.out
  rw [hnl] at hl3 hr3 HLOW3 ⊢
  have HNLL := Lib.hid hnl
  have HR3I := Lib.hid hr3
  clear hown3 hNL hr3 hlow3 hnl HNUM HBX2 HB2 HR2 HRR
  have d0 := (cell_of_block HBX3.out 0).trans rfl
  have d1 := (cell_of_block HBX3.out 1).trans rfl
  have d2 := (cell_of_block HBX3.out 2).trans rfl
  have f0 : w3.frozen? ⟨w.heap.size, 0, none⟩ = false := unfrozen_of_block HBX3.out 0
  have f1 : w3.frozen? ⟨w.heap.size, 1, none⟩ = false := unfrozen_of_block HBX3.out 1
  have f2 : w3.frozen? ⟨w.heap.size, 2, none⟩ = false := unfrozen_of_block HBX3.out 2
  have hlt3 := lt_of_block HBX3.out
  by_cases h3 : nl < 3
  · have hd : decide ((nl : Int) < 3) = true := by simp; omega
    obtain ⟨q1, q2, _⟩ := box3_set HBX3.out (Nat.le_refl _) HB3.out (.int .i64 0) (.int .i64 0) (.slice none 0 0)
    have q01 := (cell_of_block q1 0).trans rfl
    have q02 := (cell_of_block q1 1).trans rfl
    have q03 := (cell_of_block q1 2).trans rfl
    have HF := Lib.hid (HNO.out (decM_few (by rw [HNL.out, HNLL.out]; exact h3)) _ q2)
    clear q1 q2
    go_wp2
    refine bodyPost_ret (v := .tuple #[.agg #[.int .i64 0, .int .i64 0, .slice none 0 0], .bool false]) (by simp [results, Tryz.results31, go_sem, q01, q02, q03]) rfl HF.out
  · have hd : decide ((nl : Int) < 3) = false := by simp; omega
    obtain ⟨b3, o3, rfl⟩ : ∃ b o, a3 = some ⟨b, o, none⟩ := by
      obtain ⟨x, hx⟩ : ∃ x, NL[0]? = some x := ⟨NL[0]'(by rw [HNLL.out]; omega), List.getElem?_eq_getElem _⟩
      obtain ⟨b, o, h, _⟩ := irow_at HR3I.out hx
      exact ⟨b, o, h⟩
    obtain ⟨x0, hx0⟩ : ∃ x, NL[0]? = some x := ⟨NL[0]'(by rw [HNLL.out]; omega), List.getElem?_eq_getElem _⟩
    obtain ⟨x1, hx1⟩ : ∃ x, NL[1]? = some x := ⟨NL[1]'(by rw [HNLL.out]; omega), List.getElem?_eq_getElem _⟩
    obtain ⟨b', o', e0, _, hc0⟩ := irow_at HR3I.out hx0
    obtain ⟨rfl, rfl⟩ : b3 = b' ∧ o3 = o' := by simpa using e0
    obtain ⟨b', o', e1, _, hc1⟩ := irow_at HR3I.out hx1
    obtain ⟨rfl, rfl⟩ : b3 = b' ∧ o3 = o' := by simpa using e1
    rw [Nat.add_zero] at hc0
    have HOF : Hid (ofNums NL = ⟨x0, x1, NL.drop 3⟩) := Lib.hid (by unfold ofNums; rw [List.getD_eq_getElem?_getD, List.getD_eq_getElem?_getD, hx0, hx1]; rfl)
    have hlow : w.heap.size ≤ b3 ∧ b3 < w3.heap.size ∧ b3 ≠ w.heap.size := HLOW3.out b3 rfl
    have hn3 : 0 < nl := by omega
    have hn31 : 1 < nl := by omega
    have hn33 : 3 ≤ nl := by omega
    have hc33 : 3 ≤ c3 := by omega
    clear e0 e1 hx0 hx1
    go_wp2
    go_region
    all_goals go_wp2_with fail
    · obtain ⟨W4, hW4⟩ : ∃ W4, (w3.alloc (.cells #[.int .i64 x0, .int .i64 x1, .slice (some ⟨b3, o3, none⟩) (nl - 3) 0] 25)).drew = W4 := ⟨_, rfl⟩
      have hb34 : Below w3.heap.size w3 W4 := by rw [← hW4]; exact ((Below.refl _ _).alloc (Nat.le_refl _) _).drew
      have hbm : W4.heap[w3.heap.size]? = some (.cells #[.int .i64 x0, .int .i64 x1, .slice (some ⟨b3, o3, none⟩) (nl - 3) 0] 25 (0, 0)) := by rw [← hW4]; exact heap_alloc_new w3 _
      have hdl : (NL.drop 3).length = nl - 3 := by rw [List.length_drop, HNLL.out]
      have hir : IRow w3 (fun k => k = b3) (some ⟨b3, o3, none⟩) (NL.drop 3) := .inl (List.length_eq_zero_iff.1 (by rw [List.length_drop, HNLL.out]; omega))
      have HENC := Lib.hid (mencode_calls x0 x1 (some ⟨b3, o3, none⟩) (NL.drop 3) (nl - 3) 0 W4 (hir.below hb34) hdl (by omega) (fun e => by cases e))
      obtain ⟨m, hmm⟩ : ∃ m : Mfs, ⟨x0, x1, NL.drop 3⟩ = m := ⟨_, rfl⟩
      rw [hmm] at HENC
      rw [hW4]
      with_reducible refine HENC.out.mono ?_
      rintro e w5 ⟨v5, rfl, hown5⟩
      obtain ⟨a5, c5, rfl, hrow5, _, _, _⟩ := hown5.form
      have hb35 := below_then hb34 hown5.bel
      have HDEC : Hid (decM l = if l = encM m then some m else none) := Lib.hid (by
        unfold decM
        rw [HNL.out, HOF.out, hmm, HNLL.out]
        by_cases hq : l = encM m
        · rw [if_pos ⟨hn33, hq⟩, if_pos hq]
        · rw [if_neg (fun h => hq h.2), if_neg hq])
      have HMV : Hid (∀ W, Below w5.heap.size w5 W → ManV W1 W (.agg #[.int .i64 x0, .int .i64 x1, .slice (some ⟨b3, o3, none⟩) (nl - 3) 0]) m) := Lib.hid (fun W hb => by
        rw [← hmm]
        refine ⟨some ⟨b3, o3, none⟩, 0, fun k => k = b3, ?_, (hir.below hb35).below hb, fun k e => ?_, (fun e => by cases e), by show (NL.drop 3).length ≤ _; rw [hdl]; omega, by unfold maxLen at hm3 ⊢; omega⟩
        · unfold manV; rw [show (⟨x0, x1, NL.drop 3⟩ : Mfs).segs.length = nl - 3 from hdl]
        · have := hlow; have := hb35.size; have := hb.size; have := HS1.out
          have e' : k = b3 := e
          omega)
      obtain ⟨el, hel⟩ : ∃ el, (encM m).length = el := ⟨_, rfl⟩
      rw [hel]
      have HEQ := Lib.hid (equal_calls n el c c5 ((HR3.out).below hb35) hrow5 HLN.out hel)
      have HBX5 := Lib.hid (block_below hb35 HBX3.out)
      have HBM5 := Lib.hid (block_below hown5.bel hbm)
      have HB5 := Lib.hid (below_then HB3.out hb35)
      clear hW4 hb34 hbm hdl hir HENC hown5 hrow5 hb35 hel hmm d0 d1 d2 f0 f1 f2 hlow hc0 hc1 HLOW3 HR3 HR3I HLN HBX3 HB3 HNL HOF HNLL
      go_wp2_with fail
      with_reducible refine HEQ.out.mono ?_
      rintro e w6 ⟨rfl, kq, rfl⟩
      have e0 := (cell_of_block HBX5.out 0).trans rfl
      have e1 := (cell_of_block HBX5.out 1).trans rfl
      have e2 := (cell_of_block HBX5.out 2).trans rfl
      have f0 : w5.frozen? ⟨w.heap.size, 0, none⟩ = false := unfrozen_of_block HBX5.out 0
      have f1 : w5.frozen? ⟨w.heap.size, 1, none⟩ = false := unfrozen_of_block HBX5.out 1
      have f2 : w5.frozen? ⟨w.heap.size, 2, none⟩ = false := unfrozen_of_block HBX5.out 2
      have g0 := (cell_of_block HBM5.out 0).trans rfl
      have g1 := (cell_of_block HBM5.out 1).trans rfl
      have g2 := (cell_of_block HBM5.out 2).trans rfl
      have hltm := lt_of_block HBM5.out
      have hltx := lt_of_block HBX5.out
      have hbq : Below w5.heap.size w5 (w5.drewN kq) := below_drewN _ _
      have HBXQ := Lib.hid (block_below hbq HBX5.out)
      have HBQ := Lib.hid (below_then HB5.out hbq)
      by_cases hq : l = encM m
      · have hdec : decM l = some m := by rw [HDEC.out, if_pos hq]
        obtain ⟨q1, q2, q3⟩ := box3_set HBXQ.out (Nat.le_refl _) HBQ.out (.int .i64 x0) (.int .i64 x1) (.slice (some ⟨b3, o3, none⟩) (nl - 3) 0)
        have q01 := (cell_of_block q1 0).trans rfl
        have q02 := (cell_of_block q1 1).trans rfl
        have q03 := (cell_of_block q1 2).trans rfl
        have HF := Lib.hid (HYES.out m hdec _ _ ((manV_keep (HMV.out _ hbq) q3 (fun k h1 h2 => by have h2' : k = w.heap.size := h2; have := HS1.out; omega)).from HBW1.out) q2)
        rw [decide_eq_true hq]
        clear q1 q2 q3 hbq hq hdec
        go_wp2
        refine bodyPost_ret (v := .tuple #[.agg #[.int .i64 x0, .int .i64 x1, .slice (some ⟨b3, o3, none⟩) (nl - 3) 0], .bool true]) (by simp [results, Tryz.results31, go_sem, q01, q02, q03]) rfl HF.out
      · have hdec : decM l = none := by rw [HDEC.out, if_neg hq]
        obtain ⟨q1, q2, _⟩ := box3_set HBXQ.out (Nat.le_refl _) HBQ.out (.int .i64 0) (.int .i64 0) (.slice none 0 0)
        have q01 := (cell_of_block q1 0).trans rfl
        have q02 := (cell_of_block q1 1).trans rfl
        have q03 := (cell_of_block q1 2).trans rfl
        have HF := Lib.hid (HNO.out hdec _ q2)
        rw [decide_eq_false hq]
        clear q1 q2 hbq hq hdec
        go_wp2
        refine bodyPost_ret (v := .tuple #[.agg #[.int .i64 0, .int .i64 0, .slice none 0 0], .bool false]) (by simp [results, Tryz.results31, go_sem, q01, q02, q03]) rfl HF.out
    · obtain ⟨W4, hW4⟩ : ∃ W4, (w3.alloc (.cells #[.int .i64 x0, .int .i64 x1, .slice (some ⟨b3, o3 + 3, none⟩) (nl - 3) (c3 - 3)] 25)).drew = W4 := ⟨_, rfl⟩
      have hb34 : Below w3.heap.size w3 W4 := by rw [← hW4]; exact ((Below.refl _ _).alloc (Nat.le_refl _) _).drew
      have hbm : W4.heap[w3.heap.size]? = some (.cells #[.int .i64 x0, .int .i64 x1, .slice (some ⟨b3, o3 + 3, none⟩) (nl - 3) (c3 - 3)] 25 (0, 0)) := by rw [← hW4]; exact heap_alloc_new w3 _
      have hdl : (NL.drop 3).length = nl - 3 := by rw [List.length_drop, HNLL.out]
      have hir : IRow w3 (fun k => k = b3) (some ⟨b3, o3 + 3, none⟩) (NL.drop 3) := (HR3I.out.mono (fun k e => by obtain rfl := Option.some.inj e; rfl)).drop 3
      have HENC := Lib.hid (mencode_calls x0 x1 (some ⟨b3, o3 + 3, none⟩) (NL.drop 3) (nl - 3) (c3 - 3) W4 (hir.below hb34) hdl (by omega) (fun e => by cases e))
      obtain ⟨m, hmm⟩ : ∃ m : Mfs, ⟨x0, x1, NL.drop 3⟩ = m := ⟨_, rfl⟩
      rw [hmm] at HENC
      rw [hW4]
      with_reducible refine HENC.out.mono ?_
      rintro e w5 ⟨v5, rfl, hown5⟩
      obtain ⟨a5, c5, rfl, hrow5, _, _, _⟩ := hown5.form
      have hb35 := below_then hb34 hown5.bel
      have HDEC : Hid (decM l = if l = encM m then some m else none) := Lib.hid (by
        unfold decM
        rw [HNL.out, HOF.out, hmm, HNLL.out]
        by_cases hq : l = encM m
        · rw [if_pos ⟨hn33, hq⟩, if_pos hq]
        · rw [if_neg (fun h => hq h.2), if_neg hq])
      have HMV : Hid (∀ W, Below w5.heap.size w5 W → ManV W1 W (.agg #[.int .i64 x0, .int .i64 x1, .slice (some ⟨b3, o3 + 3, none⟩) (nl - 3) (c3 - 3)]) m) := Lib.hid (fun W hb => by
        rw [← hmm]
        refine ⟨some ⟨b3, o3 + 3, none⟩, (c3 - 3), fun k => k = b3, ?_, (hir.below hb35).below hb, fun k e => ?_, (fun e => by cases e), by show (NL.drop 3).length ≤ _; rw [hdl]; omega, by unfold maxLen at hm3 ⊢; omega⟩
        · unfold manV; rw [show (⟨x0, x1, NL.drop 3⟩ : Mfs).segs.length = nl - 3 from hdl]
        · have := hlow; have := hb35.size; have := hb.size; have := HS1.out
          have e' : k = b3 := e
          omega)
      obtain ⟨el, hel⟩ : ∃ el, (encM m).length = el := ⟨_, rfl⟩
      rw [hel]
      have HEQ := Lib.hid (equal_calls n el c c5 ((HR3.out).below hb35) hrow5 HLN.out hel)
      have HBX5 := Lib.hid (block_below hb35 HBX3.out)
      have HBM5 := Lib.hid (block_below hown5.bel hbm)
      have HB5 := Lib.hid (below_then HB3.out hb35)
      clear hW4 hb34 hbm hdl hir HENC hown5 hrow5 hb35 hel hmm d0 d1 d2 f0 f1 f2 hlow hc0 hc1 HLOW3 HR3 HR3I HLN HBX3 HB3 HNL HOF HNLL
      go_wp2_with fail
      with_reducible refine HEQ.out.mono ?_
      rintro e w6 ⟨rfl, kq, rfl⟩
      have e0 := (cell_of_block HBX5.out 0).trans rfl
      have e1 := (cell_of_block HBX5.out 1).trans rfl
      have e2 := (cell_of_block HBX5.out 2).trans rfl
      have f0 : w5.frozen? ⟨w.heap.size, 0, none⟩ = false := unfrozen_of_block HBX5.out 0
      have f1 : w5.frozen? ⟨w.heap.size, 1, none⟩ = false := unfrozen_of_block HBX5.out 1
      have f2 : w5.frozen? ⟨w.heap.size, 2, none⟩ = false := unfrozen_of_block HBX5.out 2
      have g0 := (cell_of_block HBM5.out 0).trans rfl
      have g1 := (cell_of_block HBM5.out 1).trans rfl
      have g2 := (cell_of_block HBM5.out 2).trans rfl
      have hltm := lt_of_block HBM5.out
      have hltx := lt_of_block HBX5.out
      have hbq : Below w5.heap.size w5 (w5.drewN kq) := below_drewN _ _
      have HBXQ := Lib.hid (block_below hbq HBX5.out)
      have HBQ := Lib.hid (below_then HB5.out hbq)
      by_cases hq : l = encM m
      · have hdec : decM l = some m := by rw [HDEC.out, if_pos hq]
        obtain ⟨q1, q2, q3⟩ := box3_set HBXQ.out (Nat.le_refl _) HBQ.out (.int .i64 x0) (.int .i64 x1) (.slice (some ⟨b3, o3 + 3, none⟩) (nl - 3) (c3 - 3))
        have q01 := (cell_of_block q1 0).trans rfl
        have q02 := (cell_of_block q1 1).trans rfl
        have q03 := (cell_of_block q1 2).trans rfl
        have HF := Lib.hid (HYES.out m hdec _ _ ((manV_keep (HMV.out _ hbq) q3 (fun k h1 h2 => by have h2' : k = w.heap.size := h2; have := HS1.out; omega)).from HBW1.out) q2)
        rw [decide_eq_true hq]
        clear q1 q2 q3 hbq hq hdec
        go_wp2
        refine bodyPost_ret (v := .tuple #[.agg #[.int .i64 x0, .int .i64 x1, .slice (some ⟨b3, o3 + 3, none⟩) (nl - 3) (c3 - 3)], .bool true]) (by simp [results, Tryz.results31, go_sem, q01, q02, q03]) rfl HF.out
      · have hdec : decM l = none := by rw [HDEC.out, if_neg hq]
        obtain ⟨q1, q2, _⟩ := box3_set HBXQ.out (Nat.le_refl _) HBQ.out (.int .i64 0) (.int .i64 0) (.slice none 0 0)
        have q01 := (cell_of_block q1 0).trans rfl
        have q02 := (cell_of_block q1 1).trans rfl
        have q03 := (cell_of_block q1 2).trans rfl
        have HF := Lib.hid (HNO.out hdec _ q2)
        rw [decide_eq_false hq]
        clear q1 q2 hbq hq hdec
        go_wp2
        refine bodyPost_ret (v := .tuple #[.agg #[.int .i64 0, .int .i64 0, .slice none 0 0], .bool false]) (by simp [results, Tryz.results31, go_sem, q01, q02, q03]) rfl HF.out

end Go.Proofs.YtacfcfbleogioaaGreatDoor
