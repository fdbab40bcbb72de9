/-
  A manifest of its bytes, told by the reference. Condition: the slice leads to bytes.
-/
import Derived.Test.YtacfcfbleogioaaGreatDoorMDec
import Derived.Test.YtacfcfbleogioaaGreatDoorMRefA
import Derived.Test.YtacfcfbleogioaaGreatDoorRBaseA
import Derived.Deep.RegionHeld3
import Derived.Deep.DeepCutAuto
namespace Go.Proofs.YtacfcfbleogioaaGreatDoor
open Go.RowKit Go.Lib Go.Joins
open List (getElem_toArray getElem_cons_succ getElem_cons_zero setIfInBounds_toArray set_cons_zero set_cons_succ)

/-- wpAnyH_take where the operation is wanted; what is to be computed is asked by itself. -/
theorem tkH {P : Program} {md : Region.Mode} {ops : Array Oper} {Q : Exit → Act → World → Prop} {S : World → Prop} (i : Nat) {oi : Oper} {v : Value} {fuel : Nat} {listed : Array Bool} {a : Act} {w : World} (hi : ops[i]? = some oi)
    (hy : ∀ w, S w → (execOp a.eval oi).run P w = .ok (.value v) w) (h : wpAnyH P md ops Q S fuel (listed.setIfInBounds i true) (a.put oi.dst v) w)
    (hk : (Region.noSelect ops && Region.free md ops listed i && (Region.ready md ops listed).contains i) = true)
    (hQ : ∀ c a w, Q (.panic c) (a.put oi.dst v) w → Q (.panic c) a w) (hg : Region.wanted oi (yielded ops a.tmps) = true) (hS : S w) : wpAnyH P md ops Q S (fuel + 1) listed a w := by
  rw [Bool.and_eq_true, Bool.and_eq_true] at hk
  exact wpAnyH_take hi hk.1.1 hk.1.2 hk.2 hQ (.inl ⟨hg, hy⟩) hS h

theorem conv_u32 {m : Nat} (h : m < 4294967296) : IntKind.i64.wrap (m : Int) = (m : Int) := IntWalk.i64_in _ (by omega)

theorem nums_at : ∀ (i : Nat) {r : List Nat}, r.length % 4 = 0 → 4 * i < r.length → (numsB r)[i]? = some ((get32 (r.drop (4 * i)) : Nat) : Int)
  | 0, r, h4, hi => by
    rw [numsB_step (fun e => by rw [e] at hi; simp at hi), leB_four (by omega)]
    rfl
  | i + 1, r, h4, hi => by
    rw [numsB_step (fun e => by rw [e] at hi; simp at hi)]
    have := nums_at i (r := r.drop 4) (by rw [List.length_drop]; omega) (by rw [List.length_drop]; omega)
    rw [List.drop_drop] at this
    rw [List.getElem?_cons_succ, this, show 4 + 4 * i = 4 * (i + 1) by omega]
theorem nums_len {r : List Nat} (hb : Byts r) (h4 : r.length % 4 = 0) : 4 * (numsB r).length = r.length := by
  have := congrArg List.length (ws_nums hb h4)
  rwa [wsB_len] at this

/-- What the loop has made of a manifest: its box. -/
structure RDBox (w wr : World) (Bm : Nat) (g l : Int) (segs : List Int) (v : Value) : Prop where
  own : OwnI w wr v segs
  box : wr.heap[Bm]? = some (.cells #[.int .i64 g, .int .i64 l, v] 25 (0, 0))
  apart : ∀ k, v.ownBlock = some k → k ≠ Bm
  low : w.heap.size ≤ Bm
theorem RDBox.below {w wr wx : World} {Bm : Nat} {g l : Int} {segs : List Int} {v : Value} (h : RDBox w wr Bm g l segs v) (hb : Below wr.heap.size wr wx) : RDBox w wx Bm g l segs v :=
  ⟨h.own.below hb, block_below hb h.box, h.apart, h.low⟩
/-- One number more. -/
theorem RDBox.more {w wr : World} {Bm : Nat} {g l : Int} {segs : List Int} {v : Value} (h : RDBox w wr Bm g l segs v) (x : Int) (hs : segs.length ≤ 1000000000) {k : Nat} (hk : wr.heap.size = k + 1) {w1 : World} (he : wr = w1.alloc (.cells #[.int .i64 x] 3)) (hk1 : w1.heap.size = k) :
    ∃ v' w', (∀ ty, (Builtin.append_ #[23, 23] ty #[v, .slice (some ⟨k, 0, none⟩) 1 1]).run Tryz.prog wr = .ok v' w') ∧ Below wr.heap.size wr wr ∧ Below w.heap.size w w' ∧ w'.heap[Bm]? = some (.cells #[.int .i64 g, .int .i64 l, v] 25 (0, 0)) ∧ RDBox w (w'.setCell ⟨Bm, 2, none⟩ v') Bm g l (segs ++ [x]) v' := by
  have hr : IRow wr (One k) (some ⟨k, 0, none⟩) [x] := by
    rw [he, ← hk1]
    exact irow_new w1 [x] (0, 0)
  obtain ⟨v', w', h1, h2, h3, h4⟩ := h.own.append (m := 1) (c := 1) hr rfl (fun e => by cases e) (by omega)
  have hkeep : Keeps (fun k => v.ownBlock = some k) wr w' := (Keeps.refl (fun k => v.ownBlock = some k) wr).grown h3 (fun k e => .inl e)
  have hbox := block_keep h.box hkeep (fun e => h.apart Bm e rfl)
  have hap : ∀ k, v'.ownBlock = some k → k ≠ Bm := fun k e => by
    rcases h4 k e with h5 | h5
    · exact h.apart k h5
    · have := lt_of_block h.box; omega
  have hks : Keeps (One Bm) w' (w'.setCell ⟨Bm, 2, none⟩ v') := (Keeps.refl (One Bm) w').setCell (p := ⟨Bm, 2, none⟩) (.inl rfl) _
  exact ⟨v', w', h1, Below.refl _ _, h2.bel, hbox, ⟨ownsRow_keep h2.row hks (fun k e => hap k e), h2.new, h2.bel.setCell (p := ⟨Bm, 2, none⟩) h.low _⟩, block_setCell (i := 2) hbox v', hap, h.low⟩

set_option maxRecDepth 100000 in
set_option maxHeartbeats 8000000 in
theorem rdecode8_calls {S : Nat → Prop} (a : Option Addr) (l : List Nat) (n c : Nat) (w : World) (hr : Row w S a l) (hn : l.length = n) (hm : n ≤ 1073741824) (hc : n ≤ c) (hc2 : c ≤ maxLen) :
    Calls Tryz.prog 45 #[.slice a n c] w (DecOut l w) := by
  obtain ⟨W1, hW1⟩ : ∃ W1, w.alloc (.cells #[.int .i64 0, .int .i64 0, .slice none 0 0] 25) = W1 := ⟨_, rfl⟩
  have hb1 : Below w.heap.size w W1 := by rw [← hW1]; exact (Below.refl _ _).alloc (Nat.le_refl _) _
  have hbx1 : W1.heap[w.heap.size]? = some (.cells #[.int .i64 0, .int .i64 0, .slice none 0 0] 25 (0, 0)) := by rw [← hW1]; exact heap_alloc_new w _
  have HNX := Lib.hid (rnext_calls a l n c W1 (hr.below hb1) hn hm hc hc2)
  have HLN := Lib.hid hn
  have HBX1 := Lib.hid hbx1
  have HW1 := Lib.hid hW1
  have HB1 := Lib.hid hb1
  have HBY := Lib.hid hr.1
  have HS1 : Hid (W1.heap.size = w.heap.size + 1) := Lib.hid (by rw [← hW1]; simp)
  have HNO : Hid (decM l = none → ∀ W, Below w.heap.size w W → DecOut l w (.returned (.tuple #[.agg #[.int .i64 0, .int .i64 0, .slice none 0 0], .bool false])) W) := Lib.hid (fun h W hb => by
    unfold DecOut
    rw [h]
    exact ⟨_, rfl, ManV.none _ _, hb⟩)
  have HYES : Hid (∀ m, decM l = some m → ∀ v W, ManV w W v m → Below w.heap.size w W → DecOut l w (.returned (.tuple #[v, .bool true])) W) := Lib.hid (fun m h v W hv hb => by
    unfold DecOut
    rw [h]
    exact ⟨v, rfl, hv, hb⟩)
  clear hr hn hb1 hbx1 hW1
  go_enter Tryz.func45, Tryz.ntmps45
  go_wp2_with fail
  rw [HW1.out]
  with_reducible refine HNX.out.mono ?_
  rintro e w2 ⟨v2, rfl, hown2⟩
  have hfl : (nxtR l).length ≤ 1073741824 := by
    unfold nxtR
    split
    · next hs => have := fwhole hs; omega
    · simp
  have HBX2 := Lib.hid (block_below hown2.bel HBX1.out)
  have HB2 := Lib.hid (below_then HB1.out hown2.bel)
  have d0 : w2.cell? ⟨w.heap.size, 0, none⟩ = some (.int .i64 0) := (cell_of_block HBX2.out 0).trans rfl
  have d1 : w2.cell? ⟨w.heap.size, 1, none⟩ = some (.int .i64 0) := (cell_of_block HBX2.out 1).trans rfl
  have d2 : w2.cell? ⟨w.heap.size, 2, none⟩ = some (.slice none 0 0) := (cell_of_block HBX2.out 2).trans rfl
  have f0 : w2.frozen? ⟨w.heap.size, 0, none⟩ = false := unfrozen_of_block HBX2.out 0
  have f1 : w2.frozen? ⟨w.heap.size, 1, none⟩ = false := unfrozen_of_block HBX2.out 1
  have f2 : w2.frozen? ⟨w.heap.size, 2, none⟩ = false := unfrozen_of_block HBX2.out 2
  obtain ⟨q1, q2, _⟩ := box3_set HBX2.out (Nat.le_refl _) HB2.out (.int .i64 0) (.int .i64 0) (.slice none 0 0)
  have q01 := (cell_of_block q1 0).trans rfl
  have q02 := (cell_of_block q1 1).trans rfl
  have q03 := (cell_of_block q1 2).trans rfl
  have HF0 : Hid (¬ wholeB l → DecOut l w (.returned (.tuple #[.agg #[.int .i64 0, .int .i64 0, .slice none 0 0], .bool false])) (((w2.setCell ⟨w.heap.size, 0, none⟩ (.int .i64 0)).setCell ⟨w.heap.size, 1, none⟩ (.int .i64 0)).setCell ⟨w.heap.size, 2, none⟩ (.slice none 0 0))) := Lib.hid (fun h => HNO.out (decM_half h) _ q2)
  clear q1 q2
  obtain ⟨st, hst⟩ : ∃ s, standsB l = s := ⟨_, rfl⟩
  obtain ⟨a2, c2, hv2, hr2, h02, hl2, hm2⟩ := hown2.form
  obtain ⟨rn, hrn⟩ : ∃ rn, (nxtR l).length = rn := ⟨_, rfl⟩
  rw [hrn] at hv2 hfl hl2
  subst hv2
  rw [hst]
  by_cases hs1 : st = 1
  case neg =>
    have e1 : ((st : Int) != 1) = true := by simp; omega
    have HF := Lib.hid (HF0.out (fun h => hs1 (hst.symm.trans h.1)))
    clear hown2 hr2 HF0
    go_wp2
    refine bodyPost_ret (v := .tuple #[.agg #[.int .i64 0, .int .i64 0, .slice none 0 0], .bool false]) (by simp [results, Tryz.results45, go_sem, q01, q02, q03]) rfl HF.out
  have hnn : nxtN l = 8 + get32 l := if_pos (hst.trans hs1)
  have hnr : nxtR l = recB l := if_pos (hst.trans hs1)
  rw [hnr] at hr2 hrn
  rw [hnn]
  subst hs1
  by_cases hs2 : n = 8 + get32 l
  case neg =>
    have e2 : (((8 + get32 l : Nat) : Int) != (n : Int)) = true := by simp; omega
    have HF := Lib.hid (HF0.out (fun h => hs2 (HLN.out.symm.trans h.2.1)))
    clear hown2 hr2 HF0
    go_wp2
    refine bodyPost_ret (v := .tuple #[.agg #[.int .i64 0, .int .i64 0, .slice none 0 0], .bool false]) (by simp [results, Tryz.results45, go_sem, q01, q02, q03]) rfl HF.out
  have e2 : (((8 + get32 l : Nat) : Int) != (n : Int)) = false := by simp; omega
  by_cases hs3 : 16 ≤ rn
  case neg =>
    have e3 : decide ((rn : Int) < 16) = true := by simp; omega
    have HF := Lib.hid (HF0.out (fun h => hs3 (by rw [← hrn]; exact h.2.2.1)))
    clear hown2 hr2 HF0
    go_wp2
    refine bodyPost_ret (v := .tuple #[.agg #[.int .i64 0, .int .i64 0, .slice none 0 0], .bool false]) (by simp [results, Tryz.results45, go_sem, q01, q02, q03]) rfl HF.out
  have e3 : decide ((rn : Int) < 16) = false := by simp; omega
  obtain ⟨R, hR⟩ : ∃ R, recB l = R := ⟨_, rfl⟩
  have hrby := recB_byts HBY.out
  rw [hR] at hr2 hrn hrby
  obtain ⟨b2, o2, rfl, _⟩ := row_at hr2 (i := 0) (x := R[0]'(by omega)) (List.getElem?_eq_getElem _)
  obtain ⟨T, hT⟩ : ∃ T : ByteArray, ⟨((R.take 4).map UInt8.ofNat).toArray⟩ = T := ⟨_, rfl⟩
  have hTs : T.size = 4 := by rw [← hT]; show ((R.take 4).map UInt8.ofNat).toArray.size = 4; rw [List.size_toArray, List.length_map, List.length_take]; omega
  have HCV : Hid ((convert 61 9 (.slice (some ⟨b2, o2, none⟩) 4 c2)).run Tryz.prog w2 = .ok (.string T) w2) := Lib.hid (by
    have := Lib.run_convert_whole (P := Tryz.prog) w2 61 5 9 Tryz.underlying61 Tryz.underlying5 Tryz.underlying9 b2 o2 T (fun i hi => by
      have hi4 : i < 4 := by rw [← hTs]; exact hi
      obtain ⟨x, hx⟩ : ∃ x, R[i]? = some x := ⟨R[i]'(by omega), List.getElem?_eq_getElem _⟩
      obtain ⟨_, _, he, hcx⟩ := row_at hr2 hx
      obtain ⟨rfl, rfl⟩ : b2 = _ ∧ o2 = _ := by simpa using he
      rw [hcx]
      have hti : T.data[i]? = some (UInt8.ofNat x) := by
        rw [← hT]
        show ((R.take 4).map UInt8.ofNat).toArray[i]? = _
        rw [List.getElem?_toArray, List.getElem?_map, List.getElem?_take_of_lt hi4, hx]
        rfl
      have hte : T[i] = UInt8.ofNat x := by
        have h1 : T.data[i]? = some (T.data[i]'hi) := Array.getElem?_eq_getElem _
        rw [h1] at hti
        exact Option.some.inj hti
      have hx8 := hrby x (List.mem_of_getElem? hx)
      rw [hte, UInt8.toNat_ofNat', Nat.mod_eq_of_lt (by omega)]) c2
    rwa [hTs] at this)
  have hcv := HCV.out
  have hc4 : 4 ≤ c2 := by omega
  by_cases hs4 : R.take 4 = magicM
  case neg =>
    have hne : T ≠ ⟨#[82, 67, 77, 49]⟩ := fun e => hs4 (by
      rw [← hT] at e
      have h1 : ((R.take 4).map UInt8.ofNat) = [82, 67, 77, 49] := by
        have := congrArg (fun z : ByteArray => z.data.toList) e
        simpa using this
      have h2 := congrArg (List.map UInt8.toNat) h1
      rw [List.map_map] at h2
      have h3 : (R.take 4).map (UInt8.toNat ∘ UInt8.ofNat) = R.take 4 := by
        conv => rhs; rw [← List.map_id (R.take 4)]
        refine List.map_congr_left (fun x hx => ?_)
        have := hrby x (List.mem_of_mem_take hx)
        show (UInt8.ofNat x).toNat = x
        rw [UInt8.toNat_ofNat', Nat.mod_eq_of_lt (by omega)]
      rw [h3] at h2
      exact h2)
    have hpe : (T.toList == [82, 67, 77, 49]) = false := by
      have h1 := toList_ne hne
      rw [ByteArray.toList_eq (⟨#[82, 67, 77, 49]⟩ : ByteArray)] at h1
      exact h1
    have HF := Lib.hid (HF0.out (fun h => hs4 (by rw [← hR]; exact h.2.2.2.1)))
    clear hown2 hr2 HF0 hT hs4 hne HCV
    go_wp2
    refine bodyPost_ret (v := .tuple #[.agg #[.int .i64 0, .int .i64 0, .slice none 0 0], .bool false]) (by simp [results, Tryz.results45, go_sem, q01, q02, q03]) rfl HF.out
  have hTT : T = ⟨#[82, 67, 77, 49]⟩ := by rw [← hT, hs4]; rfl
  subst hTT
  by_cases hs5 : rn % 4 = 0
  case neg =>
    have e5 : (Int.tmod (rn : Int) 4 != 0) = true := by
      rw [Int.tmod_eq_emod_of_nonneg (by omega)]
      simp
      omega
    have e6 : ((rn : Int) % 4 != 0) = true := by simp; omega
    have HF := Lib.hid (HF0.out (fun h => hs5 (by rw [← hrn, ← hR]; exact h.2.2.2.2)))
    clear hown2 hr2 HF0 hT hs4 HCV
    go_wp2
    refine bodyPost_ret (v := .tuple #[.agg #[.int .i64 0, .int .i64 0, .slice none 0 0], .bool false]) (by simp [results, Tryz.results45, go_sem, q01, q02, q03]) rfl HF.out
  have e5 : (Int.tmod (rn : Int) 4 != 0) = false := by
    rw [Int.tmod_eq_emod_of_nonneg (by omega)]
    simp
    omega
  have e6 : ((rn : Int) % 4 != 0) = false := by simp; omega
  have HWH : Hid (wholeB l) := Lib.hid ⟨hst, by rw [HLN.out]; exact hs2, by rw [hR]; omega, by rw [hR]; exact hs4, by rw [hR, hrn]; exact hs5⟩
  have hby2 := HBY.out
  have HDW := Lib.hid (decM_whole hby2 HWH.out)
  rw [hR] at HDW
  obtain ⟨G, hG⟩ : ∃ G, get32 (R.drop 4) = G := ⟨_, rfl⟩
  obtain ⟨Lx, hLx⟩ : ∃ G, get32 (R.drop 8) = G := ⟨_, rfl⟩
  have hG32 : G < 4294967296 := by rw [← hG]; exact get32_lt (fun x hx => hrby x (List.mem_of_mem_drop hx))
  have hL32 : Lx < 4294967296 := by rw [← hLx]; exact get32_lt (fun x hx => hrby x (List.mem_of_mem_drop hx))
  have hcG : IntKind.i64.wrap (G : Int) = (G : Int) := conv_u32 hG32
  have hcL : IntKind.i64.wrap (Lx : Int) = (Lx : Int) := conv_u32 hL32
  have HR2 := Lib.hid hr2
  have HRN := Lib.hid hrn
  have HG1 : Hid (∀ W, Below w2.heap.size w2 W → Calls Tryz.prog 91 #[.slice (some ⟨b2, o2 + 4, none⟩) (rn - 4) (c2 - 4)] W (Tells (.int .u32 (G : Int)) W)) := Lib.hid (fun W hb => by
    rw [← hG]
    exact get32_calls _ (R.drop 4) (rn - 4) (c2 - 4) W ((HR2.out.drop 4).below hb) (by rw [List.length_drop, HRN.out]) (by omega))
  have HG2 : Hid (∀ W, Below w2.heap.size w2 W → Calls Tryz.prog 91 #[.slice (some ⟨b2, o2 + 8, none⟩) (rn - 8) (c2 - 8)] W (Tells (.int .u32 (Lx : Int)) W)) := Lib.hid (fun W hb => by
    rw [← hLx]
    exact get32_calls _ (R.drop 8) (rn - 8) (c2 - 8) W ((HR2.out.drop 8).below hb) (by rw [List.length_drop, HRN.out]) (by omega))
  rw [hG, hLx] at HDW
  have h4r : 4 ≤ rn := by omega
  have h8r : 8 ≤ rn := by omega
  have h8c : 8 ≤ c2 := by omega
  have h4i : (4 : Int) ≤ (rn : Int) := by omega
  have h8i : (8 : Int) ≤ (rn : Int) := by omega
  have hc24 : ¬ c2 = 4 := by omega
  have hc28 : ¬ c2 = 8 := by omega
  have HOWB := Lib.hid hown2.bel
  clear hown2 hr2 HF0 hT HCV hG hLx hby2 HWH hst hnn hnr h02
  go_upto_region 4 with (fail)
  go_cut [7] (fun p wx => ∃ Bm, p = .pointer (some ⟨Bm, 0, none⟩) ∧ w2.heap.size ≤ Bm ∧ wx.heap[Bm]? = some (.cells #[.int .i64 (G : Int), .int .i64 (Lx : Int), .slice none 0 0] 25 (0, 0)) ∧ Below w2.heap.size w2 wx)
  case first =>
    obtain ⟨x0, hx0⟩ : ∃ W, w2.drew = W := ⟨_, rfl⟩
    refine wp_region_held_drew (S := fun W => Below w2.heap.size w2 W) (by kernel_rfl) (below_drewN w2 1) (fun hHeld => ?_)
    have HBx0 : Hid (Below w2.heap.size w2 w2.drew) := Lib.hid (below_drewN w2 1)
    rw [hx0] at HBx0 ⊢
    clear hx0
    refine tkH 0 (v := ?_) rfl ?_ ?_ (by kernel_rfl) (fun _ _ _ h => h) (by rfl) (by assumption)
    rotate_left
    · intro W hS; (try dsimp only at hS); go_simp; try with_reducible rfl
    simp only [List.getElem_toArray, List.getElem_cons_zero, Act.put, List.setIfInBounds_toArray, List.set_cons_zero, List.set_cons_succ]
    refine tkH 1 (v := ?_) rfl ?_ ?_ (by kernel_rfl) (fun _ _ _ h => h) (by rfl) (by assumption)
    rotate_left
    · intro W hS; (try dsimp only at hS); go_simp; try with_reducible rfl
    simp only [getElem_toArray, getElem_cons_succ, getElem_cons_zero, Act.put, setIfInBounds_toArray, set_cons_zero, set_cons_succ]
    refine tkH 4 (v := ?_) rfl ?_ ?_ (by kernel_rfl) (fun _ _ _ h => h) (by rfl) (by assumption)
    rotate_left
    · intro W hS; (try dsimp only at hS); go_simp; try with_reducible rfl
    simp only [getElem_toArray, getElem_cons_succ, getElem_cons_zero, Act.put, setIfInBounds_toArray, set_cons_zero, set_cons_succ]
    refine tkH 5 (v := ?_) rfl ?_ ?_ (by kernel_rfl) (fun _ _ _ h => h) (by rfl) (by assumption)
    rotate_left
    · intro W hS; (try dsimp only at hS); go_simp; try with_reducible rfl
    simp only [getElem_toArray, getElem_cons_succ, getElem_cons_zero, Act.put, setIfInBounds_toArray, set_cons_zero, set_cons_succ]
    refine wpAnyH_ready (rs := [2, 9]) (by kernel_rfl) (by simp) ?_
    refine AllReadyH.cons rfl (fun K hK => ?_) (AllReadyH.cons rfl (fun K hK => ?_) AllReadyH.nil)
    · go_simp
      with_reducible refine (HG1.out _ HBx0.out).mono ?_
      rintro e x1 ⟨rfl, k2, hk2⟩
      have hbx1 : Below x0.heap.size x0 x1 := by rw [hk2]; exact below_drewN _ _
      have HBx1 := Lib.hid (below_then HBx0.out hbx1)
      clear hbx1 hk2
      refine hK.out _ _ HBx1.out (fun hHeld => ?_)
      clear hK K
      try simp only [getElem_toArray, getElem_cons_succ, getElem_cons_zero, Act.put, setIfInBounds_toArray, set_cons_zero, set_cons_succ]
      refine tkH 3 (v := ?_) rfl ?_ ?_ (by kernel_rfl) (fun _ _ _ h => h) (by rfl) (by assumption)
      rotate_left
      · intro W hS; (try dsimp only at hS); go_simp; try with_reducible rfl
      simp only [getElem_toArray, getElem_cons_succ, getElem_cons_zero, Act.put, setIfInBounds_toArray, set_cons_zero, set_cons_succ]
      refine wpAnyH_ready (rs := [6, 9]) (by kernel_rfl) (by simp) ?_
      refine AllReadyH.cons rfl (fun K hK => ?_) (AllReadyH.cons rfl (fun K hK => ?_) AllReadyH.nil)
      · go_simp
        with_reducible refine (HG2.out _ HBx1.out).mono ?_
        rintro e x2 ⟨rfl, k6, hk6⟩
        have hbx2 : Below x1.heap.size x1 x2 := by rw [hk6]; exact below_drewN _ _
        have HBx2 := Lib.hid (below_then HBx1.out hbx2)
        clear hbx2 hk6
        refine hK.out _ _ HBx2.out (fun hHeld => ?_)
        clear hK K
        try simp only [getElem_toArray, getElem_cons_succ, getElem_cons_zero, Act.put, setIfInBounds_toArray, set_cons_zero, set_cons_succ]
        refine tkH 7 (v := ?_) rfl ?_ ?_ (by kernel_rfl) (fun _ _ _ h => h) (by rfl) (by assumption)
        rotate_left
        · intro W hS; (try dsimp only at hS); go_simp; try with_reducible rfl
        simp only [getElem_toArray, getElem_cons_succ, getElem_cons_zero, Act.put, setIfInBounds_toArray, set_cons_zero, set_cons_succ]
        refine tkH 8 (v := ?_) rfl ?_ ?_ (by kernel_rfl) (fun _ _ _ h => h) (by rfl) (by assumption)
        rotate_left
        · intro W hS; (try dsimp only at hS); go_simp; try with_reducible rfl
        simp only [getElem_toArray, getElem_cons_succ, getElem_cons_zero, Act.put, setIfInBounds_toArray, set_cons_zero, set_cons_succ]
        refine wpAnyH_ready (rs := [9]) (by kernel_rfl) (by simp) ?_
        refine AllReadyH.cons rfl (fun K hK => ?_) AllReadyH.nil
        go_simp
        obtain ⟨x3, hx3⟩ : ∃ W, x2.alloc (.cells #[.int .i64 0, .int .i64 0, .slice none 0 0] 25) = W := ⟨_, rfl⟩
        rw [hx3]
        have hbx3 : Below x2.heap.size x2 x3 := by rw [← hx3]; exact (Below.refl _ _).alloc (Nat.le_refl _) _
        have HBx3 := Lib.hid (below_then HBx2.out hbx3)
        have HMx3 : Hid (x3.heap[x2.heap.size]? = some (.cells #[.int .i64 0, .int .i64 0, .slice none 0 0] 25 (0, 0))) := Lib.hid (by rw [← hx3]; exact heap_alloc_new _ _)
        have hle : w2.heap.size ≤ x2.heap.size := HBx2.out.size
        obtain ⟨Bm, hBm⟩ : ∃ B, x2.heap.size = B := ⟨_, rfl⟩
        rw [hBm] at HMx3 hle ⊢
        clear hbx3 hx3 hBm
        refine hK.out _ _ HBx3.out (fun hHeld => ?_)
        clear hK K
        try simp only [getElem_toArray, getElem_cons_succ, getElem_cons_zero, Act.put, setIfInBounds_toArray, set_cons_zero, set_cons_succ]
        have m0 := (cell_of_block HMx3.out 0).trans rfl
        have m1 := (cell_of_block HMx3.out 1).trans rfl
        have m2 := (cell_of_block HMx3.out 2).trans rfl
        have z0 := unfrozen_of_block HMx3.out 0
        have z1 := unfrozen_of_block HMx3.out 1
        have z2 := unfrozen_of_block HMx3.out 2
        obtain ⟨q1, q2, _⟩ := box3_set HMx3.out hle HBx3.out (.int .i64 (G : Int)) (.int .i64 (Lx : Int)) (.slice none 0 0)
        have HQ1 := Lib.hid q1
        have HQ2 := Lib.hid q2
        clear q1 q2
        refine wpAnyH_ready (rs := [10]) (by kernel_rfl) (by simp) ?_
        refine AllReadyH.cons rfl (fun K hK => ?_) AllReadyH.nil
        go_simp
        refine hK.out _ _ HQ2.out (fun hHeld => ?_)
        clear hK K
        try simp only [getElem_toArray, getElem_cons_succ, getElem_cons_zero, Act.put, setIfInBounds_toArray, set_cons_zero, set_cons_succ]
        refine wpAnyH_done (by kernel_rfl) ?_ _
        go_wp2_with fail
        go_meet
        exact ⟨Bm, rfl, hle, HQ1.out, HQ2.out⟩
      · go_simp
        obtain ⟨x4, hx4⟩ : ∃ W, x1.alloc (.cells #[.int .i64 0, .int .i64 0, .slice none 0 0] 25) = W := ⟨_, rfl⟩
        rw [hx4]
        have hbx4 : Below x1.heap.size x1 x4 := by rw [← hx4]; exact (Below.refl _ _).alloc (Nat.le_refl _) _
        have HBx4 := Lib.hid (below_then HBx1.out hbx4)
        have HMx4 : Hid (x4.heap[x1.heap.size]? = some (.cells #[.int .i64 0, .int .i64 0, .slice none 0 0] 25 (0, 0))) := Lib.hid (by rw [← hx4]; exact heap_alloc_new _ _)
        have hle : w2.heap.size ≤ x1.heap.size := HBx1.out.size
        obtain ⟨Bm, hBm⟩ : ∃ B, x1.heap.size = B := ⟨_, rfl⟩
        rw [hBm] at HMx4 hle ⊢
        clear hbx4 hx4 hBm
        refine hK.out _ _ HBx4.out (fun hHeld => ?_)
        clear hK K
        try simp only [getElem_toArray, getElem_cons_succ, getElem_cons_zero, Act.put, setIfInBounds_toArray, set_cons_zero, set_cons_succ]
        refine wpAnyH_ready (rs := [6]) (by kernel_rfl) (by simp) ?_
        refine AllReadyH.cons rfl (fun K hK => ?_) AllReadyH.nil
        go_simp
        with_reducible refine (HG2.out _ HBx4.out).mono ?_
        rintro e x5 ⟨rfl, k6, hk6⟩
        have hbx5 : Below x4.heap.size x4 x5 := by rw [hk6]; exact below_drewN _ _
        have HBx5 := Lib.hid (below_then HBx4.out hbx5)
        have HMx5 := Lib.hid (block_below hbx5 HMx4.out)
        clear hbx5 hk6
        refine hK.out _ _ HBx5.out (fun hHeld => ?_)
        clear hK K
        try simp only [getElem_toArray, getElem_cons_succ, getElem_cons_zero, Act.put, setIfInBounds_toArray, set_cons_zero, set_cons_succ]
        refine tkH 7 (v := ?_) rfl ?_ ?_ (by kernel_rfl) (fun _ _ _ h => h) (by rfl) (by assumption)
        rotate_left
        · intro W hS; (try dsimp only at hS); go_simp; try with_reducible rfl
        simp only [getElem_toArray, getElem_cons_succ, getElem_cons_zero, Act.put, setIfInBounds_toArray, set_cons_zero, set_cons_succ]
        refine tkH 8 (v := ?_) rfl ?_ ?_ (by kernel_rfl) (fun _ _ _ h => h) (by rfl) (by assumption)
        rotate_left
        · intro W hS; (try dsimp only at hS); go_simp; try with_reducible rfl
        simp only [getElem_toArray, getElem_cons_succ, getElem_cons_zero, Act.put, setIfInBounds_toArray, set_cons_zero, set_cons_succ]
        have m0 := (cell_of_block HMx5.out 0).trans rfl
        have m1 := (cell_of_block HMx5.out 1).trans rfl
        have m2 := (cell_of_block HMx5.out 2).trans rfl
        have z0 := unfrozen_of_block HMx5.out 0
        have z1 := unfrozen_of_block HMx5.out 1
        have z2 := unfrozen_of_block HMx5.out 2
        obtain ⟨q1, q2, _⟩ := box3_set HMx5.out hle HBx5.out (.int .i64 (G : Int)) (.int .i64 (Lx : Int)) (.slice none 0 0)
        have HQ1 := Lib.hid q1
        have HQ2 := Lib.hid q2
        clear q1 q2
        refine wpAnyH_ready (rs := [10]) (by kernel_rfl) (by simp) ?_
        refine AllReadyH.cons rfl (fun K hK => ?_) AllReadyH.nil
        go_simp
        refine hK.out _ _ HQ2.out (fun hHeld => ?_)
        clear hK K
        try simp only [getElem_toArray, getElem_cons_succ, getElem_cons_zero, Act.put, setIfInBounds_toArray, set_cons_zero, set_cons_succ]
        refine wpAnyH_done (by kernel_rfl) ?_ _
        go_wp2_with fail
        go_meet
        exact ⟨Bm, rfl, hle, HQ1.out, HQ2.out⟩
    · go_simp
      obtain ⟨x6, hx6⟩ : ∃ W, x0.alloc (.cells #[.int .i64 0, .int .i64 0, .slice none 0 0] 25) = W := ⟨_, rfl⟩
      rw [hx6]
      have hbx6 : Below x0.heap.size x0 x6 := by rw [← hx6]; exact (Below.refl _ _).alloc (Nat.le_refl _) _
      have HBx6 := Lib.hid (below_then HBx0.out hbx6)
      have HMx6 : Hid (x6.heap[x0.heap.size]? = some (.cells #[.int .i64 0, .int .i64 0, .slice none 0 0] 25 (0, 0))) := Lib.hid (by rw [← hx6]; exact heap_alloc_new _ _)
      have hle : w2.heap.size ≤ x0.heap.size := HBx0.out.size
      obtain ⟨Bm, hBm⟩ : ∃ B, x0.heap.size = B := ⟨_, rfl⟩
      rw [hBm] at HMx6 hle ⊢
      clear hbx6 hx6 hBm
      refine hK.out _ _ HBx6.out (fun hHeld => ?_)
      clear hK K
      try simp only [getElem_toArray, getElem_cons_succ, getElem_cons_zero, Act.put, setIfInBounds_toArray, set_cons_zero, set_cons_succ]
      refine wpAnyH_ready (rs := [2]) (by kernel_rfl) (by simp) ?_
      refine AllReadyH.cons rfl (fun K hK => ?_) AllReadyH.nil
      go_simp
      with_reducible refine (HG1.out _ HBx6.out).mono ?_
      rintro e x7 ⟨rfl, k2, hk2⟩
      have hbx7 : Below x6.heap.size x6 x7 := by rw [hk2]; exact below_drewN _ _
      have HBx7 := Lib.hid (below_then HBx6.out hbx7)
      have HMx7 := Lib.hid (block_below hbx7 HMx6.out)
      clear hbx7 hk2
      refine hK.out _ _ HBx7.out (fun hHeld => ?_)
      clear hK K
      try simp only [getElem_toArray, getElem_cons_succ, getElem_cons_zero, Act.put, setIfInBounds_toArray, set_cons_zero, set_cons_succ]
      refine tkH 3 (v := ?_) rfl ?_ ?_ (by kernel_rfl) (fun _ _ _ h => h) (by rfl) (by assumption)
      rotate_left
      · intro W hS; (try dsimp only at hS); go_simp; try with_reducible rfl
      simp only [getElem_toArray, getElem_cons_succ, getElem_cons_zero, Act.put, setIfInBounds_toArray, set_cons_zero, set_cons_succ]
      refine wpAnyH_ready (rs := [6]) (by kernel_rfl) (by simp) ?_
      refine AllReadyH.cons rfl (fun K hK => ?_) AllReadyH.nil
      go_simp
      with_reducible refine (HG2.out _ HBx7.out).mono ?_
      rintro e x8 ⟨rfl, k6, hk6⟩
      have hbx8 : Below x7.heap.size x7 x8 := by rw [hk6]; exact below_drewN _ _
      have HBx8 := Lib.hid (below_then HBx7.out hbx8)
      have HMx8 := Lib.hid (block_below hbx8 HMx7.out)
      clear hbx8 hk6
      refine hK.out _ _ HBx8.out (fun hHeld => ?_)
      clear hK K
      try simp only [getElem_toArray, getElem_cons_succ, getElem_cons_zero, Act.put, setIfInBounds_toArray, set_cons_zero, set_cons_succ]
      refine tkH 7 (v := ?_) rfl ?_ ?_ (by kernel_rfl) (fun _ _ _ h => h) (by rfl) (by assumption)
      rotate_left
      · intro W hS; (try dsimp only at hS); go_simp; try with_reducible rfl
      simp only [getElem_toArray, getElem_cons_succ, getElem_cons_zero, Act.put, setIfInBounds_toArray, set_cons_zero, set_cons_succ]
      refine tkH 8 (v := ?_) rfl ?_ ?_ (by kernel_rfl) (fun _ _ _ h => h) (by rfl) (by assumption)
      rotate_left
      · intro W hS; (try dsimp only at hS); go_simp; try with_reducible rfl
      simp only [getElem_toArray, getElem_cons_succ, getElem_cons_zero, Act.put, setIfInBounds_toArray, set_cons_zero, set_cons_succ]
      have m0 := (cell_of_block HMx8.out 0).trans rfl
      have m1 := (cell_of_block HMx8.out 1).trans rfl
      have m2 := (cell_of_block HMx8.out 2).trans rfl
      have z0 := unfrozen_of_block HMx8.out 0
      have z1 := unfrozen_of_block HMx8.out 1
      have z2 := unfrozen_of_block HMx8.out 2
      obtain ⟨q1, q2, _⟩ := box3_set HMx8.out hle HBx8.out (.int .i64 (G : Int)) (.int .i64 (Lx : Int)) (.slice none 0 0)
      have HQ1 := Lib.hid q1
      have HQ2 := Lib.hid q2
      clear q1 q2
      refine wpAnyH_ready (rs := [10]) (by kernel_rfl) (by simp) ?_
      refine AllReadyH.cons rfl (fun K hK => ?_) AllReadyH.nil
      go_simp
      refine hK.out _ _ HQ2.out (fun hHeld => ?_)
      clear hK K
      try simp only [getElem_toArray, getElem_cons_succ, getElem_cons_zero, Act.put, setIfInBounds_toArray, set_cons_zero, set_cons_succ]
      refine wpAnyH_done (by kernel_rfl) ?_ _
      go_wp2_with fail
      go_meet
      exact ⟨Bm, rfl, hle, HQ1.out, HQ2.out⟩
  case rest =>
    obtain ⟨Bm, rfl, hBm, hbox, hbel⟩ := hcut
    have hr16 : 16 ≤ rn := hs3
    have hl16 : (R.drop 16).length = rn - 16 := by rw [List.length_drop, HRN.out]
    have h164 : (R.drop 16).length % 4 = 0 := by rw [hl16]; omega
    obtain ⟨NN, hNN⟩ : ∃ N, numsB (R.drop 16) = N := ⟨_, rfl⟩
    have HNA : Hid (∀ i, 4 * i < rn - 16 → NN[i]? = some ((get32 (R.drop (16 + 4 * i)) : Nat) : Int)) := Lib.hid (fun i hi => by
      have := nums_at i h164 (by rw [hl16]; exact hi)
      rw [List.drop_drop, hNN] at this
      exact this)
    have hkl := nums_len (fun x hx => hrby x (List.mem_of_mem_drop hx)) h164
    rw [hl16, hNN] at hkl
    rw [hNN] at HDW
    obtain ⟨K, hK⟩ : ∃ K, NN.length = K := ⟨_, rfl⟩
    rw [hK] at hkl
    have HKN := Lib.hid hK
    have HBOX0 : Hid (RDBox w2 wc Bm (G : Int) (Lx : Int) [] (.slice none 0 0)) := Lib.hid ⟨(OwnI.nil w2).below hbel, hbox, (fun k e => by cases e), hBm⟩
    have HRBY := Lib.hid hrby
    clear HG1 HG2 hbox hbel hBm hl16 h164 hNN hK d0 d1 d2 f0 f1 f2 q01 q02 q03 hrby
    go_wp2_with fail
    go_loopg [8] K (fun gk idx wr => ∃ (i : Nat) (v : Value), idx = .int .i64 ((16 + 4 * i : Nat) : Int) ∧ gk + i = K ∧ RDBox w2 wr Bm (G : Int) (Lx : Int) (NN.take i) v)
    case atStart => exact ⟨0, _, rfl, by omega, by rw [List.take_zero]; exact HBOX0.out⟩
    case round =>
      obtain ⟨i, v, rfl, hg, hbx⟩ := hrel
      have HG := Lib.hid hg
      have HBX := Lib.hid hbx
      clear hg hbx HBOX0
      obtain ⟨p, hp⟩ : ∃ p, 16 + 4 * i = p := ⟨_, rfl⟩
      rw [hp]
      have HP := Lib.hid hp
      by_cases hlt : i < K
      · obtain ⟨g', rfl⟩ : ∃ g', gk = g' + 1 := ⟨gk - 1, by have := HG.out; omega⟩
        have hp4 : p + 4 ≤ rn := by omega
        have hpr : (p : Int) < (rn : Int) := by omega
        have hprn : p < rn := by omega
        have hdd : decide ((p : Int) < (rn : Int)) = true := by simp; omega
        have hple : (p : Int) ≤ (rn : Int) := by omega
        have hcp : ¬ c2 = p := by omega
        have hwr : IntKind.i64.wrap ((p : Int) + 4) = (p : Int) + 4 := IntWalk.i64_in _ (by omega)
        obtain ⟨X, hX⟩ : ∃ X, get32 (R.drop p) = X := ⟨_, rfl⟩
        have hX32 : X < 4294967296 := by rw [← hX]; exact get32_lt (fun x hx => HRBY.out x (List.mem_of_mem_drop hx))
        have hcX : IntKind.i64.wrap (X : Int) = (X : Int) := conv_u32 hX32
        have hat := HNA.out i (by omega)
        rw [hp, hX] at hat
        have HTK : Hid (NN.take (i + 1) = NN.take i ++ [(X : Int)]) := Lib.hid (by rw [List.take_add_one, hat]; rfl)
        have HLS : Hid ((NN.take i).length ≤ 1000000000) := Lib.hid (by rw [List.length_take, HKN.out]; omega)
        have HGX : Hid (∀ W, Below wr.heap.size wr W → Calls Tryz.prog 91 #[.slice (some ⟨b2, o2 + p, none⟩) (rn - p) (c2 - p)] W (Tells (.int .u32 (X : Int)) W)) := Lib.hid (fun W hb => by
          rw [← hX]
          exact get32_calls _ (R.drop p) (rn - p) (c2 - p) W (((HR2.out.drop p).below HBX.out.own.bel).below hb) (by rw [List.length_drop, HRN.out]) (by omega))
        clear hX hat hp hp4
        go_wp2_with fail
        obtain ⟨x0, hx0⟩ : ∃ W, wr.drew = W := ⟨_, rfl⟩
        have hb0 : Below wr.heap.size wr x0 := by rw [← hx0]; exact below_drewN wr 1
        have HB0 := Lib.hid hb0
        have HC0 : Hid (x0.cell? ⟨Bm, 2, none⟩ = some v) := Lib.hid ((cell_of_block (HBX.out.below hb0).box 2).trans rfl)
        refine wp_region_z (S := fun W => W.cell? ⟨Bm, 2, none⟩ = some v) 10 (by kernel_rfl) (by rw [hx0]; exact HC0.out) (fun hHeld => ?_)
        rw [hx0]
        clear hx0 hb0
        refine tkZ 0 11 (v := ?_) rfl ?_ ?_ (by kernel_rfl) (fun _ _ _ h => h) (by rfl) (by assumption)
        rotate_left
        · intro W hS
          try dsimp only at hS
          try obtain ⟨hs0, hs1⟩ := hS
          go_simp
          try with_reducible rfl
        simp only [Act.put, List.setIfInBounds_toArray]
        refine tkZ 1 11 (v := ?_) rfl ?_ ?_ (by kernel_rfl) (fun _ _ _ h => h) (by rfl) (by assumption)
        rotate_left
        · intro W hS
          try dsimp only at hS
          try obtain ⟨hs0, hs1⟩ := hS
          go_simp
          try with_reducible rfl
        simp only [Act.put]
        refine tkZ 2 11 (v := ?_) rfl ?_ ?_ (by kernel_rfl) (fun _ _ _ h => h) (by rfl) (by assumption)
        rotate_left
        · intro W hS
          try dsimp only at hS
          try obtain ⟨hs0, hs1⟩ := hS
          go_simp
          try with_reducible rfl
        simp only [Act.put]
        refine tkZ 3 11 (v := ?_) rfl ?_ ?_ (by kernel_rfl) (fun _ _ _ h => h) (by rfl) (by assumption)
        rotate_left
        · intro W hS
          try dsimp only at hS
          try obtain ⟨hs0, hs1⟩ := hS
          go_simp
          try with_reducible rfl
        simp only [Act.put]
        refine tkZ 4 11 (v := ?_) rfl ?_ ?_ (by kernel_rfl) (fun _ _ _ h => h) (by rfl) (by assumption)
        rotate_left
        · intro W hS
          try dsimp only at hS
          try obtain ⟨hs0, hs1⟩ := hS
          go_simp
          try with_reducible rfl
        simp only [Act.put]
        refine wpAnyZ_one (i := 5) (by kernel_rfl) rfl (fun K hK => ?_)
        go_simp
        with_reducible refine (HGX.out _ HB0.out).mono ?_
        rintro e x1 ⟨rfl, k1, hk1⟩
        have hb1 : Below x0.heap.size x0 x1 := by rw [hk1]; exact below_drewN _ _
        have HB1 := Lib.hid (below_then HB0.out hb1)
        have HC1 : Hid (x1.cell? ⟨Bm, 2, none⟩ = some v) := Lib.hid ((cell_of_block (HBX.out.below HB1.out).box 2).trans rfl)
        clear hb1 hk1
        refine hK.out _ _ HC1.out (fun hHeld => ?_)
        clear hK K
        try simp only [Act.put, List.setIfInBounds_toArray, List.set_cons_zero, List.set_cons_succ]
        refine tkZ 6 11 (v := ?_) rfl ?_ ?_ (by kernel_rfl) (fun _ _ _ h => h) (by rfl) (by assumption)
        rotate_left
        · intro W hS
          try dsimp only at hS
          try obtain ⟨hs0, hs1⟩ := hS
          go_simp
          try with_reducible rfl
        simp only [Act.put, List.setIfInBounds_toArray]
        refine wpAnyZ_one (i := 7) (by kernel_rfl) rfl (fun K hK => ?_)
        go_simp
        obtain ⟨x2, hx2⟩ : ∃ W, x1.alloc (.cells #[.int .i64 (X : Int)] 3) = W := ⟨_, rfl⟩
        rw [hx2]
        have hb2 : Below x1.heap.size x1 x2 := by rw [← hx2]; exact (Below.refl _ _).alloc (Nat.le_refl _) _
        have hbx2 := HBX.out.below (below_then HB1.out hb2)
        have HC2 : Hid (x2.cell? ⟨Bm, 2, none⟩ = some v) := Lib.hid ((cell_of_block hbx2.box 2).trans rfl)
        obtain ⟨v', x3, hrun, _, hbel3, hbox3, hbx4⟩ := hbx2.more (X : Int) HLS.out (k := x1.heap.size) (by rw [← hx2]; simp) hx2.symm rfl
        obtain ⟨av', cv', hv', _⟩ := hbx4.own.form
        obtain ⟨ln, hln⟩ : ∃ n, (NN.take i ++ [(X : Int)]).length = n := ⟨_, rfl⟩
        rw [hln] at hv'
        subst hv'
        clear hln
        have HRUN := Lib.hid hrun
        have HBX4 := Lib.hid hbx4
        have HC3 : Hid (x3.cell? ⟨Bm, 2, none⟩ = some v) := Lib.hid ((cell_of_block hbox3 2).trans rfl)
        have z3 : x3.frozen? ⟨Bm, 2, none⟩ = false := unfrozen_of_block hbox3 2
        have c3 : x3.cell? ⟨Bm, 2, none⟩ = some v := HC3.out
        clear hx2 hb2 hbx2 hrun hbel3 hbox3 hbx4
        refine hK.out _ _ HC2.out (fun hHeld => ?_)
        clear hK K
        try simp only [Act.put, List.setIfInBounds_toArray, List.set_cons_zero, List.set_cons_succ]
        refine wpAnyZ_one (i := 8) (by kernel_rfl) rfl (fun K hK => ?_)
        refine step_app HRUN.out (.tmp 57) (.tmp 63) rfl rfl rfl rfl ?_
        refine hK.out _ _ HC3.out (fun hHeld => ?_)
        clear hK K
        try simp only [Act.put, List.setIfInBounds_toArray]
        refine tkZ 9 11 (v := ?_) rfl ?_ ?_ (by kernel_rfl) (fun _ _ _ h => h) (by rfl) (by assumption)
        rotate_left
        · intro W hS
          try dsimp only at hS
          try obtain ⟨hs0, hs1⟩ := hS
          go_simp
          try with_reducible rfl
        simp only [Act.put]
        refine wpAnyZ_last (by kernel_rfl) rfl (by kernel_rfl) (fun K hK => ?_)
        go_simp
        refine hK.out _ _ ?_
        clear hK K
        try simp only [Act.put, List.setIfInBounds_toArray, List.set_cons_zero, List.set_cons_succ]
        go_wp2
        go_roundg g'
        case measure => omega
        case rel => exact ⟨i + 1, _, by rw [← HP.out]; exact congrArg (Value.int .i64) (by omega), by have := HG.out; omega, by rw [HTK.out]; exact HBX4.out⟩
      · have hiK : i = K := by have := HG.out; omega
        have hpn : p = rn := by omega
        have hdd : decide ((p : Int) < (rn : Int)) = false := by simp; omega
        have htk : NN.take i = NN := List.take_of_length_le (by rw [HKN.out]; omega)
        have hbx := HBX.out
        rw [htk] at hbx
        obtain ⟨av, cv, hv, hir, h0v, hlv, hmv⟩ := hbx.own.form
        rw [HKN.out] at hv hlv
        subst hv
        have HBX2' := Lib.hid hbx
        have HCELL : Hid (∀ W, Below wr.heap.size wr W → W.cell? ⟨Bm, 0, none⟩ = some (.int .i64 (G : Int)) ∧ W.cell? ⟨Bm, 1, none⟩ = some (.int .i64 (Lx : Int)) ∧ W.cell? ⟨Bm, 2, none⟩ = some (.slice av K cv)) := Lib.hid (fun W hb => by
          have h := block_below hb HBX2'.out.box
          exact ⟨(cell_of_block h 0).trans rfl, (cell_of_block h 1).trans rfl, (cell_of_block h 2).trans rfl⟩)
        obtain ⟨C, hC⟩ : ∃ C, get32 (R.drop 12) = C := ⟨_, rfl⟩
        have hC32 : C < 4294967296 := by rw [← hC]; exact get32_lt (fun x hx => HRBY.out x (List.mem_of_mem_drop hx))
        have hcC : IntKind.i64.wrap (C : Int) = (C : Int) := conv_u32 hC32
        have HG12 : Hid (∀ W, Below wr.heap.size wr W → Calls Tryz.prog 91 #[.slice (some ⟨b2, o2 + 12, none⟩) (rn - 12) (c2 - 12)] W (Tells (.int .u32 (C : Int)) W)) := Lib.hid (fun W hb => by
          rw [← hC]
          exact get32_calls _ (R.drop 12) (rn - 12) (c2 - 12) W (((HR2.out.drop 12).below HBX2'.out.own.bel).below hb) (by rw [List.length_drop, HRN.out]) (by omega))
        rw [hC] at HDW
        have h12i : (12 : Int) ≤ (rn : Int) := by omega
        have hc12 : ¬ c2 = 12 := by omega
        have hK30 : K ≤ 1073741824 := by omega
        have HBW := Lib.hid (below_then HB2.out HBX2'.out.own.bel)
        have HRES := Lib.hid (block_below HBX2'.out.own.bel HBX2.out)
        have HIRV := Lib.hid hir
        have HVNEW : Hid (∀ k, (Value.slice av K cv).ownBlock = some k → w.heap.size ≤ k ∧ k < wr.heap.size ∧ k ≠ w.heap.size) := Lib.hid (fun k e => by
          have h1 := HBX2'.out.own.new k e
          have h2 := HBX2'.out.own.lt k e
          have h3 := HB2.out.size
          have h4 := lt_of_block HBX2.out
          omega)
        clear hC htk hbx hir HBX HG
        by_cases hCK : C = K
        case neg =>
          have e9 : ((C : Int) != (K : Int)) = true := by simp; omega
          have HDN : Hid (decM l = none) := Lib.hid (by rw [HDW.out]; exact if_neg (fun h => hCK (by have h1 := h.1; rw [HKN.out] at h1; omega)))
          have HGQ : Hid (∀ k, Calls Tryz.prog 91 #[.slice (some ⟨b2, o2 + 12, none⟩) (rn - 12) (c2 - 12)] (wr.drewN k) (Tells (.int .u32 (C : Int)) (wr.drewN k))) := Lib.hid (fun k => HG12.out _ (below_drewN _ _))
          obtain ⟨m0, m1, m2⟩ := HCELL.out wr (Below.refl _ _)
          clear HG12 hCK
          go_wp2_with fail
          go_quiet ((exact Calls.quiet_of (HGQ.out _)))
          have hbxr := block_below (below_drewN wr nq) HRES.out
          have d0 : (wr.drewN nq).cell? ⟨w.heap.size, 0, none⟩ = some (.int .i64 0) := (cell_of_block hbxr 0).trans rfl
          have d1 : (wr.drewN nq).cell? ⟨w.heap.size, 1, none⟩ = some (.int .i64 0) := (cell_of_block hbxr 1).trans rfl
          have d2 : (wr.drewN nq).cell? ⟨w.heap.size, 2, none⟩ = some (.slice none 0 0) := (cell_of_block hbxr 2).trans rfl
          have f0 : (wr.drewN nq).frozen? ⟨w.heap.size, 0, none⟩ = false := unfrozen_of_block hbxr 0
          have f1 : (wr.drewN nq).frozen? ⟨w.heap.size, 1, none⟩ = false := unfrozen_of_block hbxr 1
          have f2 : (wr.drewN nq).frozen? ⟨w.heap.size, 2, none⟩ = false := unfrozen_of_block hbxr 2
          obtain ⟨q1, q2, _⟩ := box3_set hbxr (Nat.le_refl _) (below_then HBW.out (below_drewN _ _)) (.int .i64 0) (.int .i64 0) (.slice none 0 0)
          have q01 := (cell_of_block q1 0).trans rfl
          have q02 := (cell_of_block q1 1).trans rfl
          have q03 := (cell_of_block q1 2).trans rfl
          have HF := Lib.hid (HNO.out (HDN.out) _ q2)
          clear q1 q2 hbxr
          go_wp2
          refine bodyPost_ret (v := .tuple #[.agg #[.int .i64 0, .int .i64 0, .slice none 0 0], .bool false]) (by simp [results, Tryz.results45, go_sem, q01, q02, q03]) rfl HF.out
        have e9 : ((C : Int) != (K : Int)) = false := by simp; omega
        obtain ⟨b, hb⟩ : ∃ b, mayM ⟨(G : Int), (Lx : Int), NN⟩ = b := ⟨_, rfl⟩
        have HMY : Hid (∀ W, Below wr.heap.size wr W → Calls Tryz.prog 27 #[.agg #[.int .i64 (G : Int), .int .i64 (Lx : Int), .slice av K cv]] W (Leaves (.bool b) W)) := Lib.hid (fun W hbW => by
          rw [← hb]
          exact rmay8_calls (G : Int) (Lx : Int) av NN K cv W (HIRV.out.below hbW) HKN.out (by omega))
        rw [hb] at HDW
        have HCK := Lib.hid hCK
        clear hb hCK
        cases b with
        | false =>
          have HDN : Hid (decM l = none) := Lib.hid (by rw [HDW.out]; exact if_neg (fun h => by cases h.2))
          go_wp2_with fail
          obtain ⟨x0, hx0⟩ : ∃ W, wr.drew = W := ⟨_, rfl⟩
          have hb0 : Below wr.heap.size wr x0 := by rw [← hx0]; exact below_drewN wr 1
          have HB0 := Lib.hid hb0
          refine wp_region_held_drew (S := fun W => W.cell? ⟨Bm, 0, none⟩ = some (.int .i64 (G : Int)) ∧ W.cell? ⟨Bm, 1, none⟩ = some (.int .i64 (Lx : Int)) ∧ W.cell? ⟨Bm, 2, none⟩ = some (.slice av K cv)) (by kernel_rfl) (by rw [hx0]; exact HCELL.out _ HB0.out) (fun hHeld => ?_)
          rw [hx0] at hHeld ⊢
          clear hx0 hb0
          refine tkH 0 (v := ?_) rfl ?_ ?_ (by kernel_rfl) (fun _ _ _ h => h) (by rfl) (by assumption)
          rotate_left
          · intro W hS; (try dsimp only at hS); go_simp; try with_reducible rfl
          simp only [List.getElem_toArray, List.getElem_cons_zero, Act.put, List.setIfInBounds_toArray, List.set_cons_zero, List.set_cons_succ]
          refine tkH 1 (v := ?_) rfl ?_ ?_ (by kernel_rfl) (fun _ _ _ h => h) (by rfl) (by assumption)
          rotate_left
          · intro W hS; (try dsimp only at hS); go_simp; try with_reducible rfl
          simp only [getElem_toArray, getElem_cons_succ, getElem_cons_zero, Act.put, setIfInBounds_toArray, set_cons_zero, set_cons_succ]
          refine tkH 4 (v := ?_) rfl ?_ ?_ (by kernel_rfl) (fun _ _ _ h => h) (by rfl) (by assumption)
          rotate_left
          · intro W hS; (try dsimp only at hS); go_simp; try with_reducible rfl
          simp only [getElem_toArray, getElem_cons_succ, getElem_cons_zero, Act.put, setIfInBounds_toArray, set_cons_zero, set_cons_succ]
          refine tkH 5 (v := ?_) rfl ?_ ?_ (by kernel_rfl) (fun _ _ _ h => h) (by rfl) (by assumption)
          rotate_left
          · intro W hS; (try dsimp only at hS); go_simp; try with_reducible rfl
          simp only [getElem_toArray, getElem_cons_succ, getElem_cons_zero, Act.put, setIfInBounds_toArray, set_cons_zero, set_cons_succ]
          refine tkH 6 (v := ?_) rfl ?_ ?_ (by kernel_rfl) (fun _ _ _ h => h) (by rfl) (by assumption)
          rotate_left
          · intro W hS; (try dsimp only at hS); go_simp; try with_reducible rfl
          simp only [getElem_toArray, getElem_cons_succ, getElem_cons_zero, Act.put, setIfInBounds_toArray, set_cons_zero, set_cons_succ]
          refine wpAnyH_ready (rs := [2]) (by kernel_rfl) (by simp) ?_
          refine AllReadyH.cons rfl (fun K hK => ?_) AllReadyH.nil
          go_simp
          with_reducible refine (HG12.out _ HB0.out).mono ?_
          rintro e x1 ⟨rfl, k1, hk1⟩
          have hb1 : Below x0.heap.size x0 x1 := by rw [hk1]; exact below_drewN _ _
          have HB1 := Lib.hid (below_then HB0.out hb1)
          clear hb1 hk1
          refine hK.out _ _ (HCELL.out _ HB1.out) (fun hHeld => ?_)
          clear hK K
          try simp only [getElem_toArray, getElem_cons_succ, getElem_cons_zero, Act.put, setIfInBounds_toArray, set_cons_zero, set_cons_succ]
          refine tkH 3 (v := ?_) rfl ?_ ?_ (by kernel_rfl) (fun _ _ _ h => h) (by rfl) (by assumption)
          rotate_left
          · intro W hS; (try dsimp only at hS); go_simp; try with_reducible rfl
          simp only [getElem_toArray, getElem_cons_succ, getElem_cons_zero, Act.put, setIfInBounds_toArray, set_cons_zero, set_cons_succ]
          refine tkH 7 (v := ?_) rfl ?_ ?_ (by kernel_rfl) (fun _ _ _ h => h) (by rfl) (by assumption)
          rotate_left
          · intro W hS; (try dsimp only at hS); go_simp; try with_reducible rfl
          simp only [getElem_toArray, getElem_cons_succ, getElem_cons_zero, Act.put, setIfInBounds_toArray, set_cons_zero, set_cons_succ]
          refine tkH 8 (v := ?_) rfl ?_ ?_ (by kernel_rfl) (fun _ _ _ h => h) (by rfl) (by assumption)
          rotate_left
          · intro W hS; (try dsimp only at hS); go_simp; try with_reducible rfl
          simp only [getElem_toArray, getElem_cons_succ, getElem_cons_zero, Act.put, setIfInBounds_toArray, set_cons_zero, set_cons_succ]
          refine tkH 9 (v := ?_) rfl ?_ ?_ (by kernel_rfl) (fun _ _ _ h => h) (by rfl) (by assumption)
          rotate_left
          · intro W hS; (try dsimp only at hS); go_simp; try with_reducible rfl
          simp only [getElem_toArray, getElem_cons_succ, getElem_cons_zero, Act.put, setIfInBounds_toArray, set_cons_zero, set_cons_succ]
          refine wpAnyH_ready (rs := [10]) (by kernel_rfl) (by simp) ?_
          refine AllReadyH.cons rfl (fun K hK => ?_) AllReadyH.nil
          go_simp
          with_reducible refine (HMY.out _ HB1.out).mono ?_
          rintro e x2 ⟨rfl, hb2⟩
          have HB2 := Lib.hid (below_then HB1.out hb2)
          clear hb2
          refine hK.out _ _ (HCELL.out _ HB2.out) (fun hHeld => ?_)
          clear hK K
          try simp only [getElem_toArray, getElem_cons_succ, getElem_cons_zero, Act.put, setIfInBounds_toArray, set_cons_zero, set_cons_succ]
          refine tkH 11 (v := ?_) rfl ?_ ?_ (by kernel_rfl) (fun _ _ _ h => h) (by rfl) (by assumption)
          rotate_left
          · intro W hS; (try dsimp only at hS); go_simp; try with_reducible rfl
          simp only [getElem_toArray, getElem_cons_succ, getElem_cons_zero, Act.put, setIfInBounds_toArray, set_cons_zero, set_cons_succ]
          refine tkH 12 (v := ?_) rfl ?_ ?_ (by kernel_rfl) (fun _ _ _ h => h) (by rfl) (by assumption)
          rotate_left
          · intro W hS; (try dsimp only at hS); go_simp; try with_reducible rfl
          simp only [getElem_toArray, getElem_cons_succ, getElem_cons_zero, Act.put, setIfInBounds_toArray, set_cons_zero, set_cons_succ]
          refine wpAnyH_done (by kernel_rfl) ?_ _
          have hbxr := block_below HB2.out HRES.out
          have d0 : x2.cell? ⟨w.heap.size, 0, none⟩ = some (.int .i64 0) := (cell_of_block hbxr 0).trans rfl
          have d1 : x2.cell? ⟨w.heap.size, 1, none⟩ = some (.int .i64 0) := (cell_of_block hbxr 1).trans rfl
          have d2 : x2.cell? ⟨w.heap.size, 2, none⟩ = some (.slice none 0 0) := (cell_of_block hbxr 2).trans rfl
          have f0 : x2.frozen? ⟨w.heap.size, 0, none⟩ = false := unfrozen_of_block hbxr 0
          have f1 : x2.frozen? ⟨w.heap.size, 1, none⟩ = false := unfrozen_of_block hbxr 1
          have f2 : x2.frozen? ⟨w.heap.size, 2, none⟩ = false := unfrozen_of_block hbxr 2
          obtain ⟨q1, q2, _⟩ := box3_set hbxr (Nat.le_refl _) (below_then HBW.out HB2.out) (.int .i64 0) (.int .i64 0) (.slice none 0 0)
          have q01 := (cell_of_block q1 0).trans rfl
          have q02 := (cell_of_block q1 1).trans rfl
          have q03 := (cell_of_block q1 2).trans rfl
          have HF := Lib.hid (HNO.out (HDN.out) _ q2)
          clear q1 q2 hbxr
          go_wp2
          refine bodyPost_ret (v := .tuple #[.agg #[.int .i64 0, .int .i64 0, .slice none 0 0], .bool false]) (by simp [results, Tryz.results45, go_sem, q01, q02, q03]) rfl HF.out
        | true =>
          have HDS : Hid (decM l = some ⟨(G : Int), (Lx : Int), NN⟩) := Lib.hid (by rw [HDW.out]; exact if_pos ⟨by rw [HCK.out, HKN.out], rfl⟩)
          go_wp2_with fail
          obtain ⟨x0, hx0⟩ : ∃ W, wr.drew = W := ⟨_, rfl⟩
          have hb0 : Below wr.heap.size wr x0 := by rw [← hx0]; exact below_drewN wr 1
          have HB0 := Lib.hid hb0
          refine wp_region_held_drew (S := fun W => W.cell? ⟨Bm, 0, none⟩ = some (.int .i64 (G : Int)) ∧ W.cell? ⟨Bm, 1, none⟩ = some (.int .i64 (Lx : Int)) ∧ W.cell? ⟨Bm, 2, none⟩ = some (.slice av K cv)) (by kernel_rfl) (by rw [hx0]; exact HCELL.out _ HB0.out) (fun hHeld => ?_)
          rw [hx0] at hHeld ⊢
          clear hx0 hb0
          refine tkH 0 (v := ?_) rfl ?_ ?_ (by kernel_rfl) (fun _ _ _ h => h) (by rfl) (by assumption)
          rotate_left
          · intro W hS; (try dsimp only at hS); go_simp; try with_reducible rfl
          simp only [List.getElem_toArray, List.getElem_cons_zero, Act.put, List.setIfInBounds_toArray, List.set_cons_zero, List.set_cons_succ]
          refine tkH 1 (v := ?_) rfl ?_ ?_ (by kernel_rfl) (fun _ _ _ h => h) (by rfl) (by assumption)
          rotate_left
          · intro W hS; (try dsimp only at hS); go_simp; try with_reducible rfl
          simp only [getElem_toArray, getElem_cons_succ, getElem_cons_zero, Act.put, setIfInBounds_toArray, set_cons_zero, set_cons_succ]
          refine tkH 4 (v := ?_) rfl ?_ ?_ (by kernel_rfl) (fun _ _ _ h => h) (by rfl) (by assumption)
          rotate_left
          · intro W hS; (try dsimp only at hS); go_simp; try with_reducible rfl
          simp only [getElem_toArray, getElem_cons_succ, getElem_cons_zero, Act.put, setIfInBounds_toArray, set_cons_zero, set_cons_succ]
          refine tkH 5 (v := ?_) rfl ?_ ?_ (by kernel_rfl) (fun _ _ _ h => h) (by rfl) (by assumption)
          rotate_left
          · intro W hS; (try dsimp only at hS); go_simp; try with_reducible rfl
          simp only [getElem_toArray, getElem_cons_succ, getElem_cons_zero, Act.put, setIfInBounds_toArray, set_cons_zero, set_cons_succ]
          refine tkH 6 (v := ?_) rfl ?_ ?_ (by kernel_rfl) (fun _ _ _ h => h) (by rfl) (by assumption)
          rotate_left
          · intro W hS; (try dsimp only at hS); go_simp; try with_reducible rfl
          simp only [getElem_toArray, getElem_cons_succ, getElem_cons_zero, Act.put, setIfInBounds_toArray, set_cons_zero, set_cons_succ]
          refine wpAnyH_ready (rs := [2]) (by kernel_rfl) (by simp) ?_
          refine AllReadyH.cons rfl (fun K hK => ?_) AllReadyH.nil
          go_simp
          with_reducible refine (HG12.out _ HB0.out).mono ?_
          rintro e x1 ⟨rfl, k1, hk1⟩
          have hb1 : Below x0.heap.size x0 x1 := by rw [hk1]; exact below_drewN _ _
          have HB1 := Lib.hid (below_then HB0.out hb1)
          clear hb1 hk1
          refine hK.out _ _ (HCELL.out _ HB1.out) (fun hHeld => ?_)
          clear hK K
          try simp only [getElem_toArray, getElem_cons_succ, getElem_cons_zero, Act.put, setIfInBounds_toArray, set_cons_zero, set_cons_succ]
          refine tkH 3 (v := ?_) rfl ?_ ?_ (by kernel_rfl) (fun _ _ _ h => h) (by rfl) (by assumption)
          rotate_left
          · intro W hS; (try dsimp only at hS); go_simp; try with_reducible rfl
          simp only [getElem_toArray, getElem_cons_succ, getElem_cons_zero, Act.put, setIfInBounds_toArray, set_cons_zero, set_cons_succ]
          refine tkH 7 (v := ?_) rfl ?_ ?_ (by kernel_rfl) (fun _ _ _ h => h) (by rfl) (by assumption)
          rotate_left
          · intro W hS; (try dsimp only at hS); go_simp; try with_reducible rfl
          simp only [getElem_toArray, getElem_cons_succ, getElem_cons_zero, Act.put, setIfInBounds_toArray, set_cons_zero, set_cons_succ]
          refine tkH 8 (v := ?_) rfl ?_ ?_ (by kernel_rfl) (fun _ _ _ h => h) (by rfl) (by assumption)
          rotate_left
          · intro W hS; (try dsimp only at hS); go_simp; try with_reducible rfl
          simp only [getElem_toArray, getElem_cons_succ, getElem_cons_zero, Act.put, setIfInBounds_toArray, set_cons_zero, set_cons_succ]
          refine tkH 9 (v := ?_) rfl ?_ ?_ (by kernel_rfl) (fun _ _ _ h => h) (by rfl) (by assumption)
          rotate_left
          · intro W hS; (try dsimp only at hS); go_simp; try with_reducible rfl
          simp only [getElem_toArray, getElem_cons_succ, getElem_cons_zero, Act.put, setIfInBounds_toArray, set_cons_zero, set_cons_succ]
          refine wpAnyH_ready (rs := [10]) (by kernel_rfl) (by simp) ?_
          refine AllReadyH.cons rfl (fun K hK => ?_) AllReadyH.nil
          go_simp
          with_reducible refine (HMY.out _ HB1.out).mono ?_
          rintro e x2 ⟨rfl, hb2⟩
          have HB2 := Lib.hid (below_then HB1.out hb2)
          clear hb2
          refine hK.out _ _ (HCELL.out _ HB2.out) (fun hHeld => ?_)
          clear hK K
          try simp only [getElem_toArray, getElem_cons_succ, getElem_cons_zero, Act.put, setIfInBounds_toArray, set_cons_zero, set_cons_succ]
          refine tkH 11 (v := ?_) rfl ?_ ?_ (by kernel_rfl) (fun _ _ _ h => h) (by rfl) (by assumption)
          rotate_left
          · intro W hS; (try dsimp only at hS); go_simp; try with_reducible rfl
          simp only [getElem_toArray, getElem_cons_succ, getElem_cons_zero, Act.put, setIfInBounds_toArray, set_cons_zero, set_cons_succ]
          refine tkH 12 (v := ?_) rfl ?_ ?_ (by kernel_rfl) (fun _ _ _ h => h) (by rfl) (by assumption)
          rotate_left
          · intro W hS; (try dsimp only at hS); go_simp; try with_reducible rfl
          simp only [getElem_toArray, getElem_cons_succ, getElem_cons_zero, Act.put, setIfInBounds_toArray, set_cons_zero, set_cons_succ]
          refine wpAnyH_done (by kernel_rfl) ?_ _
          have hbxr := block_below HB2.out HRES.out
          have d0 : x2.cell? ⟨w.heap.size, 0, none⟩ = some (.int .i64 0) := (cell_of_block hbxr 0).trans rfl
          have d1 : x2.cell? ⟨w.heap.size, 1, none⟩ = some (.int .i64 0) := (cell_of_block hbxr 1).trans rfl
          have d2 : x2.cell? ⟨w.heap.size, 2, none⟩ = some (.slice none 0 0) := (cell_of_block hbxr 2).trans rfl
          have f0 : x2.frozen? ⟨w.heap.size, 0, none⟩ = false := unfrozen_of_block hbxr 0
          have f1 : x2.frozen? ⟨w.heap.size, 1, none⟩ = false := unfrozen_of_block hbxr 1
          have f2 : x2.frozen? ⟨w.heap.size, 2, none⟩ = false := unfrozen_of_block hbxr 2
          obtain ⟨m0, m1, m2⟩ := HCELL.out _ HB2.out
          obtain ⟨q1, q2, q3⟩ := box3_set hbxr (Nat.le_refl _) (below_then HBW.out HB2.out) (.int .i64 (G : Int)) (.int .i64 (Lx : Int)) (.slice av K cv)
          have q01 := (cell_of_block q1 0).trans rfl
          have q02 := (cell_of_block q1 1).trans rfl
          have q03 := (cell_of_block q1 2).trans rfl
          have HF := Lib.hid (HYES.out _ HDS.out (.agg #[.int .i64 (G : Int), .int .i64 (Lx : Int), .slice av K cv]) _ ⟨av, cv, _, by unfold manV; rw [HKN.out], (HIRV.out.below HB2.out).keep q3 (fun k h1 h2 => (HVNEW.out k h1).2.2 h2), (fun k h1 => ⟨(HVNEW.out k h1).1, by have := (HVNEW.out k h1).2.1; have := HB2.out.size; have := q3.size; omega⟩), h0v, by rw [HKN.out]; exact hlv, hmv⟩ q2)
          clear q1 q2 q3 hbxr
          go_wp2
          refine bodyPost_ret (v := .tuple #[.agg #[.int .i64 (G : Int), .int .i64 (Lx : Int), .slice av K cv], .bool true]) (by simp [results, Tryz.results45, go_sem, q01, q02, q03]) rfl HF.out

end Go.Proofs.YtacfcfbleogioaaGreatDoor
